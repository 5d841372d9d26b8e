import PyProof.Rows.All
import Wide.All
import OpenK.AllK
import Wide.FinOn
import Lean
import PyProof.EqAt
import PyProof.EqKinds
import PyProof.TupleCall
import PyProof.NeKinds
import PyProof.ExcBaseAll.ValueError
import PyProof.ZipIter
import PyProof.ListCopy
import PyProof.CollectWalk
import KE.KIntText
import KE.KxPart
import PyProof.SliceStr2
import PyProof.Rows.StrFirst
import PyProof.StrLawsFirst
import KE.KxText
import PyProof.StrLawsIn
import PyProof.StrBlockI
import PyProof.Rows.StrNews
import PyProof.EnumMake
import PyProof.EnumFor
import PyProof.EnumStmt
import PySem.Challenge.RW_slidecut_k48_what_two_rings_have_in_comm
set_option Elab.async false
set_option linter.all false
set_option maxRecDepth 100000
/-! THE HAND LAYER, for ints, bools, texts, own classes, LISTS and tuples (index, slices, in, append, pop ..), calls, loops. Paste it whole ahead of your own text; what your proof does not reach may be deleted. -/
namespace L2
open PySem PySem.Spec PyProof.Rows

/-- a key: an int or a str -/
abbrev Key := Sum Int Str
def keyIs : Key → Value → Bool
  | .inl k, v => Value.isInt k v
  | .inr x, v => Value.isStrOf x v
def keyH (w : World) : Key → Int
  | .inl k => hashInt k
  | .inr x => hashStr w x
theorem keyIs_shape : ∀ {k : Key} {v : Value}, keyIs k v = true → (∃ i t, k = Sum.inl i ∧ v = Value.int i t) ∨ (∃ x t, k = Sum.inr x ∧ v = Value.str x t)
  | .inl i, v, h => by
    obtain ⟨t, e⟩ := Value.isInt_shape (k := i) (v := v) h
    exact .inl ⟨i, t, rfl, e⟩
  | .inr x, v, h => by
    obtain ⟨t, e⟩ := Value.isStrOf_shape (x := x) (v := v) h
    exact .inr ⟨x, t, rfl, e⟩
theorem key_ll (a b : Int) : decide ((Sum.inl a : Key) = Sum.inl b) = (a == b) := by
  by_cases e : a = b
  · subst e; simp
  · have h : ¬ (Sum.inl a : Key) = Sum.inl b := fun q => e (Sum.inl.inj q)
    rw [decide_eq_false h]
    exact (beq_eq_false_iff_ne.mpr e).symm
theorem key_rr (a b : Str) : decide ((Sum.inr a : Key) = Sum.inr b) = decide (a = b) := by
  by_cases e : a = b
  · subst e; simp
  · have h : ¬ (Sum.inr a : Key) = Sum.inr b := fun q => e (Sum.inr.inj q)
    rw [decide_eq_false h, decide_eq_false e]
theorem key_lr (a : Int) (b : Str) : decide ((Sum.inl a : Key) = Sum.inr b) = false := decide_eq_false (fun q => nomatch q)
theorem key_rl (a : Str) (b : Int) : decide ((Sum.inr a : Key) = Sum.inl b) = false := decide_eq_false (fun q => nomatch q)

def mixKind (prog : Program) (w : World) : PySem.KeyKind prog w Key where
  is := keyIs
  hash := keyH w
  inj := fun v a b ha hb => by
    rcases keyIs_shape ha with ⟨i, t, rfl, rfl⟩ | ⟨x, t, rfl, rfl⟩
    · rcases keyIs_shape hb with ⟨j, u, rfl, e⟩ | ⟨y, u, rfl, e⟩
      · injection e with e1 _; rw [e1]
      · exact nomatch e
    · rcases keyIs_shape hb with ⟨j, u, rfl, e⟩ | ⟨y, u, rfl, e⟩
      · exact nomatch e
      · injection e with e1 _; rw [e1]
  byValue := fun k v h => by
    rcases keyIs_shape h with ⟨i, t, rfl, rfl⟩ | ⟨x, t, rfl, rfl⟩ <;> rfl
  pyHash := fun hv h => by
    rcases keyIs_shape hv with ⟨i, t, rfl, rfl⟩ | ⟨x, t, rfl, rfl⟩
    · exact wpAny_pyHash_int h
    · exact wpAny_pyHash_str h
  eqBool := fun hu hv h => by
    rcases keyIs_shape hu with ⟨i, t, rfl, rfl⟩ | ⟨x, t, rfl, rfl⟩
    · rcases keyIs_shape hv with ⟨j, u, rfl, rfl⟩ | ⟨y, u, rfl, rfl⟩
      · rw [key_ll] at h; exact wpAny_eqBool_int h
      · rw [key_lr] at h; exact SeqAt.EqAt.int_str i t y u _ _ _ _ h
    · rcases keyIs_shape hv with ⟨j, u, rfl, rfl⟩ | ⟨y, u, rfl, rfl⟩
      · rw [key_rl] at h; exact SeqAt.EqAt.str_int x t j u _ _ _ _ h
      · rw [key_rr] at h; exact wpAny_eqBool_str h
  «strs» := fun k x t v h => by
    rcases keyIs_shape h with ⟨i, u, rfl, e⟩ | ⟨y, u, rfl, e⟩
    · exact nomatch e
    · injection e with e1 _
      subst e1
      cases v <;> rfl

end L2

namespace L2
open PySem PySem.Spec PyProof.Rows

/-- a value, without the heap -/
inductive V where
  | non | bl (b : Bool) | int (i : Int) | str (x : Str) | byt (b : Array UInt8) | flt (b : UInt64) | ref (a : Addr) | ty (n : String)
  deriving DecidableEq

def RelV : V → Value → Prop
  | .non, u => u = Value.none
  | .bl b, u => u = Value.bool b
  | .int i, u => ∃ t, u = Value.int i t
  | .str x, u => ∃ t, u = Value.str x t
  | .byt b, u => ∃ t, u = Value.bytes b t
  | .flt b, u => ∃ t, u = Value.float b t
  | .ref a, u => u = Value.ref a
  | .ty n, u => u = Value.type n

abbrev Vals : List V → List Value → Prop := Paired RelV
theorem Vals.length {xs : List V} {us : List Value} (r : Vals xs us) : xs.length = us.length := Paired.length r
theorem Vals.get : ∀ {xs : List V} {us : List Value} {i : Nat} {x : V}, Vals xs us → xs[i]? = some x → ∃ u, us[i]? = some u ∧ RelV x u
  | _, _, _, _, .nil, e => by simp at e
  | _, _, 0, _, .cons r _, e => by simp at e; subst e; exact ⟨_, rfl, r⟩
  | _, _, i + 1, x, .cons _ t, e => by
    obtain ⟨u, h1, h2⟩ := Vals.get (i := i) (x := x) t (by simpa using e)
    exact ⟨u, by simpa using h1, h2⟩
theorem Vals.set {x : V} {u : Value} (r : RelV x u) : ∀ {xs : List V} {us : List Value} (i : Nat), Vals xs us → Vals (xs.set i x) (us.set i u)
  | _, _, _, .nil => .nil
  | _, _, 0, .cons _ t => .cons r t
  | _, _, i + 1, .cons q t => .cons q (Vals.set r i t)
theorem Vals.append : ∀ {xs ys : List V} {us ws : List Value}, Vals xs us → Vals ys ws → Vals (xs ++ ys) (us ++ ws)
  | _, _, _, _, .nil, s => s
  | _, _, _, _, .cons r t, s => .cons r (Vals.append t s)
theorem Vals.take : ∀ {xs : List V} {us : List Value} (n : Nat), Vals xs us → Vals (xs.take n) (us.take n)
  | _, _, 0, _ => .nil
  | _, _, _ + 1, .nil => .nil
  | _, _, n + 1, .cons r t => .cons r (Vals.take n t)
theorem Vals.drop : ∀ {xs : List V} {us : List Value} (n : Nat), Vals xs us → Vals (xs.drop n) (us.drop n)
  | _, _, 0, r => r
  | _, _, _ + 1, .nil => .nil
  | _, _, n + 1, .cons _ t => Vals.drop n t
def RelO : Option V → Option Value → Prop
  | some v, some u => RelV v u
  | none, none => True
  | _, _ => False
def KV {κ : Type} : List (κ × V) → List (κ × Value) → Prop := Paired fun (p : κ × V) (q : κ × Value) => p.1 = q.1 ∧ RelV p.2 q.2

/-- a key of a dict (00_mix): an int or a text -/
def kV : Key → V
  | .inl i => .int i
  | .inr x => .str x

/-- what stands at a tracked address -/
inductive HO where
  /-- a list -/
  | lst (xs : List V)
  /-- a tuple (never changes) -/
  | tup (xs : List V)
  /-- a dict whose keys are ints and texts; one whose keys are tuples of ints and texts (the empty one is both) -/
  | dK (kvs : List (Key × V)) | dT (kvs : List (List Key × V))
  /-- a set of ints: its members, its size -/
  | set (S : Int → Bool) (n : Nat)
  /-- an instance of the class at C, its dict at dx, its attributes -/
  | ins (C dx : Addr) (fs : List (Str × V))
  /-- the dict of the instance at x -/
  | own (x : Addr)
  /-- the dict of an exception -/
  | xd (fs : List (Str × V))
  /-- a bound method, f of x -/
  | met (f x : Addr)
  /-- a range object lo, lo + 1, .. below hi -/
  | rng (lo hi : Int)
  /-- a thing that is known to the object (the script; a dict while a loop walks it): read, never written while it is so -/
  | frz (o : Obj) (u : HO)
  /-- a code object's table -/
  | tbl (ps : Array Value)
  /-- any other thing, by what is true of its one object (a def of one's own: SetO a S n := HO.ext fun h => ..) -/
  | ext (φ : Heap → Prop)

abbrev Hp := Addr → Option HO
def upd (H : Hp) (a : Addr) (o : HO) : Hp := fun b => if b = a then some o else H b
theorem upd_same {H : Hp} {a : Addr} {o : HO} : upd H a o a = some o := by unfold upd; rw [if_pos rfl]
theorem upd_ne {H : Hp} {a b : Addr} {o : HO} (h : b ≠ a) : upd H a o b = H b := by unfold upd; rw [if_neg h]
theorem ne_of_none {H : Hp} {a b : Addr} {o : HO} (h : H a = some o) (h' : H b = none) : a ≠ b := by
  intro e; subst e; rw [h] at h'; cases h'

section
variable (P : Program) (w : World)
def ObjOk (H : Hp) (h : Heap) (a : Addr) : HO → Prop
  | .lst xs => xs.length ≤ sizeLine ∧ ∃ (its : List Value) (n : Nat), Vals xs its ∧ h.get? a = some { cls := .type "list", data := .seq its.toArray n }
  | .tup xs => xs.length ≤ sizeLine ∧ ∃ its : List Value, Vals xs its ∧ IsTup h a its.toArray
  | .dK kvs => kvs.length ≤ sizeLine ∧ (a == sysModules) = false ∧ ∃ vs, KV kvs vs ∧ h.DictOf (mixKind P w) a vs
  | .dT kvs => kvs.length ≤ sizeLine ∧ (a == sysModules) = false ∧ ∃ xs : List (List Key × Addr × Value),
      Paired (fun (p : List Key × V) (q : List Key × Addr × Value) => p.1 = q.1 ∧ H q.2.1 = some (.tup (p.1.map kV)) ∧ RelV p.2 q.2.2) kvs xs ∧
      ∃ o es ep, h.get? a = some o ∧ o.ExactDict ∧ o.data = .dict es ep ∧ es.toList = xs.map (entryOfKey (tupleKind (mixKind P w))) ∧ (xs.map (·.1)).Nodup
  | .set S n => h.SetOf (intKind P w) a S n
  | .ins C dx fs => H dx = some (.own a) ∧ fs.length ≤ 1000 ∧ dx ≠ a ∧ h.get? a = some (PySem.W.instObj C dx) ∧
      ∃ mA, h.Ns1 dx mA ∧ (∀ f, RelO (fs.lookup f) (mA f)) ∧ PySem.Within mA (fs.map (·.1))
  | .own _ => ∃ o, h.get? a = some o
  | .xd fs => ∃ mA, h.Ns1 a mA ∧ ∀ f, RelO (fs.lookup f) (mA f)
  | .rng lo hi => ∃ t u v, h.get? a = some { cls := .type "range", data := .fields #[.int lo t, .int hi u, .int 1 v] }
  | .frz o u => h.get? a = some o ∧ ObjOk H h a u
  | .tbl ps => h.get? a = some { cls := .none, data := .fields ps }
  | .met f x => h.get? a = some (PySem.W.methodObj (.ref f) (.ref x))
  | .ext φ => φ h ∧ (∃ o, h.get? a = some o) ∧ ∀ h1 h2 : Heap, φ h1 → (∀ o, h1.get? a = some o → h2.get? a = some o) → φ h2
/-- the abstract heap is held -/
def HOk (H : Hp) (h : Heap) : Prop := ∀ a o, H a = some o → ObjOk P w H h a o
end

section
variable {P : Program} {w : World} {H H' : Hp} {h h' : Heap} {a : Addr} {o : HO}
theorem ObjOk.lt (x : ObjOk P w H h a o) : a < h.objs.size := by
  cases o with
  | lst xs => obtain ⟨_, _, _, _, e⟩ := x; exact Heap.lt_size e
  | tup xs => obtain ⟨_, _, _, p⟩ := x; exact p.lt
  | dK kvs => obtain ⟨_, _, _, _, o, _, _, e, _⟩ := x; exact Heap.lt_size e
  | dT kvs => obtain ⟨_, _, _, _, o, _, _, e, _⟩ := x; exact Heap.lt_size e
  | set S n => obtain ⟨o, _, _, _, e, _⟩ := x; exact Heap.lt_size e
  | ins C dx fs => obtain ⟨_, _, _, e, _⟩ := x; exact Heap.lt_size e
  | own y => obtain ⟨_, e⟩ := x; exact Heap.lt_size e
  | xd fs => obtain ⟨_, ⟨_, _, _, e, _⟩, _⟩ := x; exact Heap.lt_size e
  | rng lo hi => obtain ⟨_, _, _, e⟩ := x; exact Heap.lt_size e
  | frz ob u => obtain ⟨e, _⟩ := x; exact Heap.lt_size e
  | tbl ps => exact Heap.lt_size (show h.get? a = some _ from x)
  | met f y => exact Heap.lt_size (show h.get? a = some _ from x)
  | ext φ => obtain ⟨_, ⟨_, e⟩, _⟩ := x; exact Heap.lt_size e
theorem Paired.mapP {α β : Type} {F G : α → β → Prop} : ∀ {l₁ : List α} {l₂ : List β}, Paired F l₁ l₂ → (∀ a b, F a b → G a b) → Paired G l₁ l₂
  | _, _, .nil, _ => .nil
  | _, _, .cons r t, f => .cons (f _ _ r) (Paired.mapP t f)
/-- what an object's description leans on: its own object, its own dict, the tuples -/
theorem ObjOk.stay (x : ObjOk P w H h a o) (k : ∀ b u, (b = a ∨ H b = some (.own a)) → h.get? b = some u → h'.get? b = some u)
    (ho : ∀ b, H b = some (.own a) → H' b = some (.own a)) (ht : ∀ b xs, H b = some (.tup xs) → H' b = some (.tup xs)) : ObjOk P w H' h' a o := by
  induction o with
  | lst xs => obtain ⟨z, its, n, r, e⟩ := x; exact ⟨z, its, n, r, k _ _ (.inl rfl) e⟩
  | tup xs => obtain ⟨z, its, r, ob, e, c⟩ := x; exact ⟨z, its, r, ob, k _ _ (.inl rfl) e, c⟩
  | dK kvs => obtain ⟨z, y, vs, r, ob, es, ep, e, c⟩ := x; exact ⟨z, y, vs, r, ob, es, ep, k _ _ (.inl rfl) e, c⟩
  | dT kvs =>
    obtain ⟨z, y, xs, r, ob, es, ep, e, c⟩ := x
    exact ⟨z, y, xs, Paired.mapP r fun p q z => ⟨z.1, ht _ _ z.2.1, z.2.2⟩, ob, es, ep, k _ _ (.inl rfl) e, c⟩
  | set S n => obtain ⟨ob, es, ep, t, e, c⟩ := x; exact ⟨ob, es, ep, t, k _ _ (.inl rfl) e, c⟩
  | ins C dx fs =>
    obtain ⟨d, z, ne, e, mA, ⟨od, es, ep, e2, c⟩, r⟩ := x
    exact ⟨ho _ d, z, ne, k _ _ (.inl rfl) e, mA, ⟨od, es, ep, k _ _ (.inr d) e2, c⟩, r⟩
  | own y => obtain ⟨ob, e⟩ := x; exact ⟨ob, k _ _ (.inl rfl) e⟩
  | xd fs => obtain ⟨mA, ⟨od, es, ep, e, c⟩, r⟩ := x; exact ⟨mA, ⟨od, es, ep, k _ _ (.inl rfl) e, c⟩, r⟩
  | rng lo hi => obtain ⟨t, u, v, e⟩ := x; exact ⟨t, u, v, k _ _ (.inl rfl) e⟩
  | frz ob u ih => obtain ⟨e, q⟩ := x; exact ⟨k _ _ (.inl rfl) e, ih q⟩
  | tbl ps =>
    have e : h.get? a = some { cls := .none, data := .fields ps } := x
    show h'.get? a = some { cls := .none, data := .fields ps }
    exact k a _ (.inl rfl) e
  | met f y =>
    have e : h.get? a = some (PySem.W.methodObj (.ref f) (.ref y)) := x
    show h'.get? a = some (PySem.W.methodObj (.ref f) (.ref y))
    exact k a _ (.inl rfl) e
  | ext φ => obtain ⟨p, ⟨o, e⟩, st⟩ := x; exact ⟨st _ _ p fun o q => k _ _ (.inl rfl) q, ⟨o, k _ _ (.inl rfl) e⟩, st⟩
theorem HOk.lt (x : HOk P w H h) (e : H a = some o) : a < h.objs.size := (x a o e).lt
theorem HOk.fresh (x : HOk P w H h) (e : h.objs.size ≤ a) : H a = none := by
  cases q : H a with
  | none => rfl
  | some u => exact absurd (Nat.lt_of_lt_of_le (x.lt q) e) (Nat.lt_irrefl _)
/-- every object of the heap is kept -/
theorem HOk.kept (x : HOk P w H h) (k : ∀ b u, h.get? b = some u → h'.get? b = some u) : HOk P w H h' := fun a o e =>
  (x a o e).stay (fun b u _ q => k b u q) (fun _ q => q) fun _ _ q => q
/-- a new object is laid and tracked -/
theorem HOk.laid (x : HOk P w H h) (k : ∀ b u, h.get? b = some u → h'.get? b = some u) (hp : h.objs.size ≤ a) (new : ObjOk P w (upd H a o) h' a o) : HOk P w (upd H a o) h' := fun b u e => by
  have hn := x.fresh hp
  by_cases hb : b = a
  · subst hb; rw [upd_same] at e; cases e; exact new
  · rw [upd_ne hb] at e
    exact (x b u e).stay (fun c v _ q => k c v q) (fun c q => by rw [upd_ne (ne_of_none q hn)]; exact q) fun c xs q => by rw [upd_ne (ne_of_none q hn)]; exact q
end

/-- what may be read as u: it is u, or a known u -/
def Rd (H : Hp) (a : Addr) (u : HO) : Prop := H a = some u ∨ ∃ o, H a = some (.frz o u)
theorem Rd.ok {P : Program} {w : World} {H : Hp} {h : Heap} {a : Addr} {u : HO} (r : Rd H a u) (x : HOk P w H h) : ObjOk P w H h a u := by
  rcases r with r | ⟨o, r⟩
  · exact x a u r
  · obtain ⟨_, q⟩ := x a _ r
    exact q
/-- what may be written -/
def Mut : Option HO → Prop
  | some (.lst _) => True
  | some (.dK _) => True
  | some (.dT _) => True
  | some (.set _ _) => True
  | some (.ins _ _ _) => True
  | some (.ext _) => True
  | _ => False
section
variable {P : Program} {w : World} {H : Hp} {h h' : Heap} {x e : Addr} {o' : HO}
/-- the object at e is changed: x itself, or the dict of the instance x -/
theorem HOk.write (ok : HOk P w H h) (mu : Mut (H x)) (he : e = x ∨ H e = some (.own x)) (k : ∀ b u, b ≠ e → h.get? b = some u → h'.get? b = some u) (heo : ∃ u, h'.get? e = some u)
    (new : ObjOk P w (upd H x o') h' x o') : HOk P w (upd H x o') h' := fun b u q => by
  have nown : ∀ c y, H c = some (.own y) → c ≠ x := fun c y r z => by subst z; rw [r] at mu; exact mu
  have ntup : ∀ c xs, H c = some (.tup xs) → c ≠ x := fun c xs r z => by subst z; rw [r] at mu; exact mu
  by_cases hb : b = x
  · subst hb; rw [upd_same] at q; cases q; exact new
  · rw [upd_ne hb] at q
    by_cases hbe : b = e
    · have q' : H b = some (.own x) := by
        rcases he with z | z
        · exact absurd (hbe.trans z) hb
        · rw [hbe]; exact z
      rw [q] at q'; cases q'
      obtain ⟨v, hv⟩ := heo
      exact ⟨v, by rw [hbe]; exact hv⟩
    · refine (ok b u q).stay (fun c v hc r => k c v ?_ r) (fun c r => by rw [upd_ne (nown c b r)]; exact r) fun c xs r => by rw [upd_ne (ntup c xs r)]; exact r
      rcases hc with rfl | hc
      · exact hbe
      · rintro rfl
        rcases he with z | z
        · exact nown c b hc z
        · rw [hc] at z; cases z; exact hb rfl
end

/-! ### kept unless tracked; of the frames at fs (the callers') the slots may change (an exception that passes writes there); of the records at ex (iterators) nothing is said -/
structure Un (fs ex : List Addr) (H H' : Hp) (h h' : Heap) : Prop where
  keep : ∀ b o, h.get? b = some o → H b = none → b ∉ fs → b ∉ ex → h'.get? b = some o
  slot : ∀ b o, h.get? b = some o → H b = none → b ∈ fs → b ∉ ex → ∃ sl, h'.get? b = some { o with slots := sl }
  free : ∀ b o, h.get? b = some o → H b = none → b ∉ ex → H' b = none
  there : ∀ b o, h.get? b = some o → b ∉ ex → ∃ o', h'.get? b = some o'
  tups : ∀ b xs, H b = some (.tup xs) → H' b = some (.tup xs)
  frzs : ∀ b o u, H b = some (.frz o u) → H' b = some (.frz o u)
  tbls : ∀ b ps, H b = some (.tbl ps) → ∃ more, H' b = some (.tbl (ps ++ more))
section
variable {fs fs' ex ex' : List Addr} {H H1 H2 : Hp} {h h1 h2 h' : Heap} {a x e : Addr} {o : HO}
theorem Un.any (u : Un fs ex H H1 h h1) {b : Addr} {ob : Obj} (q : h.get? b = some ob) (n : H b = none) (hx : b ∉ ex) : ∃ sl, h1.get? b = some { ob with slots := sl } := by
  by_cases hb : b ∈ fs
  · exact u.slot b ob q n hb hx
  · exact ⟨ob.slots, u.keep b ob q n hb hx⟩
theorem Un.kept (k : ∀ b u, h.get? b = some u → h'.get? b = some u) : Un fs ex H H h h' :=
  ⟨fun b ob q _ _ _ => k b ob q, fun b ob q _ _ _ => ⟨ob.slots, k b ob q⟩, fun _ _ _ n _ => n, fun b ob q _ => ⟨ob, k b ob q⟩, fun _ _ q => q, fun _ _ _ q => q, fun _ ps q => ⟨#[], by rw [q]; simp⟩⟩
theorem Un.refl : Un fs ex H H h h := Un.kept fun _ _ q => q
theorem Un.laid (k : ∀ b u, h.get? b = some u → h'.get? b = some u) (hp : h.objs.size ≤ a) (hn : H a = none) : Un fs ex H (upd H a o) h h' where
  keep := fun b u q _ _ _ => k b u q
  slot := fun b u q _ _ _ => ⟨u.slots, k b u q⟩
  free := fun b u q n _ => by rw [upd_ne (Nat.ne_of_lt (Nat.lt_of_lt_of_le (Heap.lt_size q) hp))]; exact n
  there := fun b u q _ => ⟨u, k b u q⟩
  tups := fun b xs q => by rw [upd_ne (ne_of_none q hn)]; exact q
  frzs := fun b u xs q => by rw [upd_ne (ne_of_none q hn)]; exact q
  tbls := fun b ps q => ⟨#[], by rw [upd_ne (ne_of_none q hn), q]; simp⟩
theorem Un.write (mu : Mut (H x)) (he : e = x ∨ H e = some (.own x)) (k : ∀ b u, b ≠ e → h.get? b = some u → h'.get? b = some u) (heo : ∃ u, h'.get? e = some u) : Un fs ex H (upd H x o) h h' := by
  have hx : ∀ b, H b = none → b ≠ x := fun b n z => by subst z; rw [n] at mu; exact mu
  have hb : ∀ b, H b = none → b ≠ e := fun b n z => by
    subst z
    rcases he with r | r
    · exact hx b n r
    · rw [n] at r; cases r
  have hm : ∀ b u, H b = some u → ¬ Mut (some u) → b ≠ x := fun b u q nm z => by subst z; rw [q] at mu; exact nm mu
  refine ⟨fun b u q n _ _ => k b u (hb b n) q, fun b u q n _ _ => ⟨u.slots, k b u (hb b n) q⟩, fun b u q n _ => by rw [upd_ne (hx b n)]; exact n, fun b u q _ => ?_,
    fun b xs q => by rw [upd_ne (hm b _ q fun z => z)]; exact q, fun b u xs q => by rw [upd_ne (hm b _ q fun z => z)]; exact q, fun b ps q => ⟨#[], by rw [upd_ne (hm b _ q fun z => z), q]; simp⟩⟩
  by_cases hbe : b = e
  · subst hbe; exact heo
  · exact ⟨u, k b u hbe q⟩
end

/-! ### the heap without what is tracked -/
def trk (h : Heap) (H : Hp) : List Addr := (List.range h.objs.size).filter fun a => (H a).isSome
def hidT (h : Heap) (H : Hp) : Heap := PySem.W.hideAll h (trk h H)
theorem hidT_size (h : Heap) (H : Hp) : (hidT h H).objs.size = h.objs.size := PySem.W.hideAll_size _ _
theorem hidT_get {h : Heap} {H : Hp} {b : Addr} {o : Obj} (e : h.get? b = some o) (n : H b = none) : (hidT h H).get? b = some o :=
  PySem.W.hideAll_get _ e fun hm => by
    have q : (H b).isSome = true := (List.mem_filter.mp hm).2
    rw [n] at q; simp at q
theorem of_hidT {h : Heap} {H : Hp} {b : Addr} {o : Obj} (e : (hidT h H).get? b = some o) : h.get? b = some o ∧ H b = none := by
  have e' : h.get? b = some o := PySem.W.of_hideAll (trk h H) e
  refine ⟨e', ?_⟩
  cases q : H b with
  | none => rfl
  | some x =>
    have hm : b ∈ trk h H := List.mem_filter.mpr ⟨List.mem_range.mpr (Heap.lt_size e'), by simp [q]⟩
    have z : (hidT h H).get? b = none := PySem.W.hideAll_none (trk h H) hm
    rw [z] at e; cases e

end L2

namespace L2
open PySem PySem.Spec PyProof.Rows

/-- the module's facts, over the base: the heap at the law's entry without what is tracked there -/
structure Mod (K : PySem.W.Frag) (mg : Str → Option Value) (base : Heap) : Prop where
  kin : K.In base
  glob : base.Ns mainGlobals mg
  blt : ∃ mb, base.Ns builtinsNs mb ∧ ∀ x : Str, x ≠ "__name__" → mb x = bootBuiltins x
  nolimit : base.NoLimit

/-- the context: a def's body (or a comprehension's block) running. base: fixed through the whole law; s₀, H₀: the entry; outer: the frames whose slots others may change (a def's callers); stack: all frames that run;
   ex: iterators that were made ahead of the entry and are walked here (a comprehension's); fn: the names whose cells were made at the entry (a def: all; a comprehension's block: its own); calm: not within an except suite; pn: pins that every state bears; xe: what is wanted of an exception that leaves the code -/
structure Cx where
  prog : Program
  w : World
  K : PySem.W.Frag
  mg : Str → Option Value
  base : Heap
  A : Around
  N : List Str
  s₀ : Shared
  H₀ : Hp
  env : Env
  outer : List Env
  stack : List Env
  ex : List Addr
  fn : Str → Bool
  calm : Bool
  pn : List (Addr × Obj)
  xe : Value → Shared → Prop
/-- the callers' frames -/
def frs (l : List Env) : List Addr := l.filterMap (·.frame)
abbrev Cx.fs (X : Cx) : List Addr := frs X.outer

def Vis (sc : Scope) (x : Str) : Prop := sc.names.lookup x = some .local ∨ sc.names.lookup x = some .cell ∨ sc.names.lookup x = some .free
def Loc (sc : Scope) (x : Str) : Prop := sc.names.lookup x = some .local ∨ sc.names.lookup x = some .cell
def Look (env : Env) (h : Heap) (m : Str → Option Value) (x : Str) (u : Value) : Prop :=
  (env.kindOf x = some .local ∧ m x = some u) ∨ ((env.kindOf x = some .cell ∨ env.kindOf x = some .free) ∧ ∃ c, env.cells.lookup x = some c ∧ h.IsCell c (some u))

structure Cx.Ok (X : Cx) : Prop where
  mod : Mod X.K X.mg X.base
  kind : X.env.scope.kind = .function
  glob : X.env.globals = mainGlobals
  blt : X.env.builtins = builtinsNs
  above : X.s₀.heap.objs.size ≤ X.env.locals
  inj : ∀ x y c, X.env.cells.lookup x = some c → X.env.cells.lookup y = some c → x = y
  has : ∀ x, (X.env.kindOf x = some .cell ∨ X.env.kindOf x = some .free) → ∃ c, X.env.cells.lookup x = some c
  cab : ∀ x c, X.fn x = true → X.env.cells.lookup x = some c → X.s₀.heap.objs.size ≤ c
  hd : X.calm = true → X.A.handled = none
  frames : X.A.frames = some X.stack
  stk : X.stack = X.outer ∨ (X.stack = X.env :: X.outer ∧ X.env.frame = some X.env.locals)
  exf : ∀ b ∈ X.ex, b ≠ X.env.locals ∧ ∀ x c, X.env.cells.lookup x = some c → c ≠ b
  bs : ∀ b o, X.base.get? b = some o → X.s₀.heap.get? b = some o ∧ X.H₀ b = none
  bsz : X.base.objs.size ≤ X.s₀.heap.objs.size
  noex : ∀ b o, X.base.get? b = some o → b ∉ X.ex
  exfs : ∀ b ∈ X.ex, b ∉ X.fs
  funs : X.s₀.heap.FunFrames X.base X.outer
  frf : ∀ b ∈ X.fs, X.H₀ b = none

structure Inv (X : Cx) (pins : List (Addr × Obj)) (σ : List (Option V)) (H : Hp) (s : Shared) : Prop where
  ok : X.Ok
  os : s.os = X.s₀.os
  bare : AllBare s.gens
  base : Un X.fs X.ex X.H₀ H X.s₀.heap s.heap
  loc : ∃ m, s.heap.Ns X.env.locals m ∧ ∀ (i : Nat) (x : Str) (v : V), X.N[i]? = some x → σ[i]? = some (some v) → Vis X.env.scope x → ∃ u, RelV v u ∧ Look X.env s.heap m x u
  cell : ∀ x c, X.env.cells.lookup x = some c → ∃ v, s.heap.IsCell c v
  free : H X.env.locals = none
  freeC : ∀ x c, X.env.cells.lookup x = some c → H c = none
  pin : ∀ p ∈ X.pn ++ pins, s.heap.get? p.1 = some p.2 ∧ H p.1 = none ∧ p.1 ≠ X.env.locals ∧ p.1 ∉ X.fs ∧ ∀ v, p.2.data ≠ .cell v
  hok : HOk X.prog X.w H s.heap
  len : σ.length = X.N.length

section
variable {X : Cx} {pins : List (Addr × Obj)} {σ : List (Option V)} {H H' : Hp} {s : Shared} {h' : Heap}

theorem Cx.Ok.nofr (ok : X.Ok) {b : Addr} {o : Obj} (e : X.base.get? b = some o) : b ∉ X.fs := fun hb => by
  have := (ok.funs.mem hb).1
  rw [e] at this; cases this
theorem Inv.bs (I : Inv X pins σ H s) : ∀ b o, X.base.get? b = some o → s.heap.get? b = some o ∧ H b = none := fun b o e =>
  ⟨I.base.keep b o (I.ok.bs b o e).1 (I.ok.bs b o e).2 (I.ok.nofr e) (I.ok.noex b o e), I.base.free b o (I.ok.bs b o e).1 (I.ok.bs b o e).2 (I.ok.noex b o e)⟩
theorem Inv.bk (I : Inv X pins σ H s) : ∀ b o, X.base.get? b = some o → s.heap.get? b = some o := fun b o e => (I.bs b o e).1
theorem Inv.mod (I : Inv X pins σ H s) : Mod X.K X.mg X.base := I.ok.mod
theorem Inv.kIn (I : Inv X pins σ H s) : X.K.In s.heap := I.ok.mod.kin.keeps I.bk
theorem Inv.lt (I : Inv X pins σ H s) : X.env.locals < s.heap.objs.size := let ⟨_, hn, _⟩ := I.loc; hn.lt
theorem Inv.sz (I : Inv X pins σ H s) : X.s₀.heap.objs.size ≤ s.heap.objs.size := Nat.le_trans I.ok.above (Nat.le_of_lt I.lt)
theorem Inv.nofs (I : Inv X pins σ H s) {a : Addr} (h : s.heap.objs.size ≤ a) : a ∉ X.fs := fun hb => by
  obtain ⟨_, o, ho, _⟩ := I.ok.funs.mem hb
  exact absurd (Nat.lt_of_lt_of_le (Heap.lt_size ho) (Nat.le_trans I.sz h)) (Nat.lt_irrefl _)
theorem Inv.cne (I : Inv X pins σ H s) : ∀ x c, X.env.cells.lookup x = some c → c ≠ X.env.locals := fun x c e z => by
  obtain ⟨v, o, ho, hd⟩ := I.cell x c e
  obtain ⟨m, ⟨o', es, ep, ho', hd', _⟩, _⟩ := I.loc
  rw [z, ho'] at ho; cases ho; rw [hd'] at hd; cases hd
theorem Inv.funs (I : Inv X pins σ H s) : s.heap.FunFrames X.base X.outer := by
  have all : ∀ (l : List Env), (∀ b ∈ frs l, b ∈ X.fs) → X.s₀.heap.FunFrames X.base l → s.heap.FunFrames X.base l := by
    intro l
    induction l with
    | nil => intro _ _; trivial
    | cons env r ih =>
      intro hs hl
      obtain ⟨hk, ⟨L, o, hf, hn, ho, hd⟩, hr⟩ := hl
      have hL : L ∈ X.fs := hs L (by unfold frs; rw [List.filterMap_cons, hf]; exact List.mem_cons_self)
      obtain ⟨sl, e⟩ := I.base.slot L o ho (I.ok.frf L hL) hL fun z => I.ok.exfs L z hL
      exact ⟨hk, ⟨L, _, hf, hn, e, hd⟩, ih (fun b hb => hs b (by unfold frs; rw [List.filterMap_cons, hf]; exact List.mem_cons_of_mem _ hb)) hr⟩
  exact all X.outer (fun _ hb => hb) I.ok.funs

/-- the frames that run, for a call -/
theorem Inv.stack (I : Inv X pins σ H s) : s.heap.FunFrames X.base X.stack := by
  rcases I.ok.stk with e | ⟨e, hf⟩
  · rw [e]; exact I.funs
  · rw [e]
    obtain ⟨m, hn, _⟩ := I.loc
    refine .cons (by rw [I.ok.kind]; decide) hf hn ?_ I.funs
    exact Heap.get?_none_of_le (Nat.le_trans I.ok.bsz I.ok.above)
theorem Inv.stkSub (I : Inv X pins σ H s) : ∀ b ∈ frs X.stack, b ∈ X.env.locals :: X.fs := fun b hb => by
  rcases I.ok.stk with e | ⟨e, hf⟩
  · rw [e] at hb; exact List.mem_cons_of_mem _ hb
  · rw [e] at hb
    unfold frs at hb
    rw [List.filterMap_cons, hf] at hb
    exact hb
theorem Inv.stkFree (I : Inv X pins σ H s) : ∀ b ∈ frs X.stack, H b = none := fun b hb => by
  rcases List.mem_cons.mp (I.stkSub b hb) with e | hb
  · rw [e]; exact I.free
  · obtain ⟨_, o, ho, _⟩ := I.ok.funs.mem hb
    exact I.base.free b o ho (I.ok.frf b hb) fun z => I.ok.exfs b z hb

/-- THE STEP: the untracked objects but the frame and the records at ch are kept (the callers' frames up to slots), the frame's map is kept, the new abstract heap is held -/
theorem Inv.step {g' : Array GenState} {t' : Nat} {d' : Drawn} {ch : List Addr} (I : Inv X pins σ H s)
    (hch : ∀ b ∈ ch, (b ∈ X.ex ∨ X.s₀.heap.objs.size ≤ b) ∧ b ≠ X.env.locals ∧ (∀ x c, X.env.cells.lookup x = some c → c ≠ b) ∧ ∀ p ∈ X.pn ++ pins, p.1 ≠ b)
    (keep : ∀ b o, b ≠ X.env.locals → b ∉ X.fs → b ∉ ch → s.heap.get? b = some o → H b = none → h'.get? b = some o)
    (slot : ∀ b o, b ≠ X.env.locals → b ∈ X.fs → b ∉ ch → s.heap.get? b = some o → H b = none → ∃ sl, h'.get? b = some { o with slots := sl }) (free : ∀ b o, b ∉ ch → s.heap.get? b = some o → H b = none → H' b = none)
    (there : ∀ b o, b ∉ ch → s.heap.get? b = some o → ∃ o', h'.get? b = some o')
    (tups : ∀ b xs, H b = some (.tup xs) → H' b = some (.tup xs)) (frzs : ∀ b o u, H b = some (.frz o u) → H' b = some (.frz o u)) (tbls : ∀ b ps, H b = some (.tbl ps) → ∃ more, H' b = some (.tbl (ps ++ more)))
    (ns : ∀ m, s.heap.Ns X.env.locals m → h'.Ns X.env.locals m) (hok : HOk X.prog X.w H' h') (hg : AllBare g') :
    Inv X pins σ H' { s with heap := h', gens := g', drawn := d', toks := t' } := by
  have neL : ∀ b o, X.s₀.heap.get? b = some o → b ≠ X.env.locals := fun b o e => Nat.ne_of_lt (Nat.lt_of_lt_of_le (Heap.lt_size e) I.ok.above)
  have neC : ∀ b o, X.s₀.heap.get? b = some o → b ∉ X.ex → b ∉ ch := fun b o e hx hb => by
    rcases (hch b hb).1 with z | z
    · exact hx z
    · exact absurd (Nat.lt_of_lt_of_le (Heap.lt_size e) z) (Nat.lt_irrefl _)
  have cellK : ∀ x c, X.env.cells.lookup x = some c → ∀ v, s.heap.IsCell c v → h'.IsCell c v := fun x c e v ⟨o, ho, hd⟩ => by
    have nch : c ∉ ch := fun z => (hch c z).2.2.1 x c e rfl
    by_cases hc : c ∈ X.fs
    · obtain ⟨sl, q⟩ := slot c o (I.cne x c e) hc nch ho (I.freeC x c e)
      exact ⟨_, q, hd⟩
    · exact ⟨o, keep c o (I.cne x c e) hc nch ho (I.freeC x c e), hd⟩
  refine ⟨I.ok, I.os, hg, ⟨fun b o e n hb hx => ?_, fun b o e n hb hx => ?_, fun b o e n hx => ?_, fun b o e hx => ?_, fun b xs e => tups b xs (I.base.tups b xs e), fun b o xs e => frzs b o xs (I.base.frzs b o xs e), fun b ps e => ?_⟩, ?_, fun x c e => ?_, ?_, fun x c e => ?_, fun p hp => ?_, hok, I.len⟩
  · exact keep b o (neL b o e) hb (neC b o e hx) (I.base.keep b o e n hb hx) (I.base.free b o e n hx)
  · obtain ⟨sl, e1⟩ := I.base.slot b o e n hb hx
    obtain ⟨sl', e2⟩ := slot b _ (neL b o e) hb (neC b o e hx) e1 (I.base.free b o e n hx)
    exact ⟨sl', e2⟩
  · obtain ⟨o', e1⟩ := I.base.there b o e hx
    exact free b o' (neC b o e hx) e1 (I.base.free b o e n hx)
  · obtain ⟨o', e1⟩ := I.base.there b o e hx
    exact there b o' (neC b o e hx) e1
  · obtain ⟨m1, e1⟩ := I.base.tbls b ps e
    obtain ⟨m2, e2⟩ := tbls b _ e1
    exact ⟨m1 ++ m2, by rw [e2, Array.append_assoc]⟩
  · obtain ⟨m, hn, hl⟩ := I.loc
    refine ⟨m, ns m hn, fun i x v e1 e2 e3 => ?_⟩
    obtain ⟨u, r, l⟩ := hl i x v e1 e2 e3
    refine ⟨u, r, ?_⟩
    rcases l with l | ⟨k, c, e, z⟩
    · exact .inl l
    · exact .inr ⟨k, c, e, cellK x c e _ z⟩
  · obtain ⟨v, z⟩ := I.cell x c e
    exact ⟨v, cellK x c e v z⟩
  · obtain ⟨m, ⟨o, _, _, ho, _⟩, _⟩ := I.loc
    exact free _ o (fun z => (hch _ z).2.1 rfl) ho I.free
  · obtain ⟨v, o, ho, hd⟩ := I.cell x c e
    exact free c o (fun z => (hch c z).2.2.1 x c e rfl) ho (I.freeC x c e)
  · obtain ⟨e, n, ne, nf, d⟩ := I.pin p hp
    have nch : p.1 ∉ ch := fun z => (hch p.1 z).2.2.2 p hp rfl
    exact ⟨keep p.1 p.2 ne nf nch e n, free p.1 p.2 nch e n, ne, nf, d⟩
/-- .. where the frame's own object is kept too -/
theorem Inv.un {t' : Nat} (I : Inv X pins σ H s) (u : Un X.fs [] H H' s.heap h') (hok : HOk X.prog X.w H' h') : Inv X pins σ H' { s with heap := h', toks := t' } := by
  obtain ⟨m, ⟨o, es, ep, ho, r⟩, _⟩ := id I.loc
  obtain ⟨sl, hL⟩ := u.any ho I.free (by simp)
  exact I.step (g' := s.gens) (d' := s.drawn) (ch := []) (fun _ z => nomatch z) (fun b o _ hb _ e n => u.keep b o e n hb (by simp)) (fun b o _ hb _ e n => u.slot b o e n hb (by simp)) (fun b o _ e n => u.free b o e n (by simp)) (fun b o _ e => u.there b o e (by simp)) u.tups u.frzs u.tbls (fun m' hm => by
    obtain ⟨o', es', ep', ho', r'⟩ := hm
    rw [ho] at ho'; cases ho'
    exact ⟨_, es', ep', hL, r'⟩) hok I.bare
/-- behind a call (or a comprehension's block): the slots of this frame may have changed too, the records at ch may have turned -/
theorem Inv.call {g' : Array GenState} {t' : Nat} {d' : Drawn} {ch : List Addr} (I : Inv X pins σ H s) (u : Un (frs X.stack) ch H H' s.heap h') (hok : HOk X.prog X.w H' h') (hg : AllBare g')
    (hch : ∀ b ∈ ch, (b ∈ X.ex ∨ X.s₀.heap.objs.size ≤ b) ∧ b ≠ X.env.locals ∧ (∀ x c, X.env.cells.lookup x = some c → c ≠ b) ∧ ∀ p ∈ X.pn ++ pins, p.1 ≠ b) :
    Inv X pins σ H' { s with heap := h', gens := g', drawn := d', toks := t' } := by
  obtain ⟨m, ⟨o, es, ep, ho, r⟩, _⟩ := id I.loc
  obtain ⟨sl, hL⟩ := u.any ho I.free fun z => (hch _ z).2.1 rfl
  exact I.step (ch := ch) hch (fun b o hL hb hc e n => u.keep b o e n (fun z => (List.mem_cons.mp (I.stkSub b z)).elim hL hb) hc) (fun b o _ _ hc e n => u.any e n hc) (fun b o hc e n => u.free b o e n hc) (fun b o hc e => u.there b o e hc) u.tups u.frzs u.tbls (fun m' hm => by
    obtain ⟨o', es', ep', ho', r'⟩ := hm
    rw [ho] at ho'; cases ho'
    exact ⟨_, es', ep', hL, r'⟩) hok hg
/-- an untracked record of ours (an iterator) has turned -/
theorem Inv.turned {t' : Nat} {it : Addr} (I : Inv X pins σ H s) (k : ∀ b o, b ≠ it → s.heap.get? b = some o → h'.get? b = some o) (hn : H it = none) (hL : it ≠ X.env.locals)
    (h1 : it ∈ X.ex ∨ X.s₀.heap.objs.size ≤ it) (h2 : ∀ x c, X.env.cells.lookup x = some c → c ≠ it) (h3 : ∀ p ∈ X.pn ++ pins, p.1 ≠ it) : Inv X pins σ H { s with heap := h', toks := t' } := by
  have nit : ∀ b u, H b = some u → b ≠ it := fun b u e z => by rw [z, hn] at e; cases e
  refine I.step (g' := s.gens) (d' := s.drawn) (ch := [it]) (fun b hb => ?_) (fun b o _ _ hc e _ => k b o (fun z => hc (by simp [z])) e) (fun b o _ _ hc e _ => ⟨o.slots, k b o (fun z => hc (by simp [z])) e⟩) (fun _ _ _ _ n => n)
    (fun b o hc e => ⟨o, k b o (fun z => hc (by simp [z])) e⟩) (fun _ _ e => e) (fun _ _ _ e => e) (fun b ps e => ⟨#[], by rw [e]; simp⟩) (fun m hm => ?_) (fun b u e => ?_) I.bare
  · have e : b = it := by simpa using hb
    subst e
    exact ⟨h1, hL, h2, h3⟩
  · obtain ⟨o, es, ep, ho, r⟩ := hm
    exact ⟨o, es, ep, k _ o (Ne.symm hL) ho, r⟩
  · refine (I.hok b u e).stay (fun c v hc q => k c v ?_ q) (fun _ q => q) fun _ _ q => q
    rcases hc with z | z
    · rw [z]; exact nit b u e
    · exact nit c _ z
theorem Inv.tok (I : Inv X pins σ H s) (t : Nat) : Inv X pins σ H { s with toks := t } := I.un (h' := s.heap) (t' := t) Un.refl I.hok
/-- all objects kept -/
theorem Inv.kept {t' : Nat} (I : Inv X pins σ H s) (k : ∀ b u, s.heap.get? b = some u → h'.get? b = some u) : Inv X pins σ H { s with heap := h', toks := t' } := I.un (Un.kept k) (I.hok.kept k)
/-- a new object laid and tracked -/
theorem Inv.laid {a : Addr} {o : HO} {t' : Nat} (I : Inv X pins σ H s) (k : ∀ b u, s.heap.get? b = some u → h'.get? b = some u) (hp : s.heap.objs.size ≤ a) (new : ObjOk X.prog X.w (upd H a o) h' a o) :
    Inv X pins σ (upd H a o) { s with heap := h', toks := t' } := I.un (Un.laid k hp (I.hok.fresh hp)) (I.hok.laid k hp new)
/-- an object written -/
theorem Inv.write {x e : Addr} {o : HO} {t' : Nat} (I : Inv X pins σ H s) (mu : Mut (H x)) (he : e = x ∨ H e = some (.own x)) (k : ∀ b u, b ≠ e → s.heap.get? b = some u → h'.get? b = some u) (heo : ∃ u, h'.get? e = some u)
    (new : ObjOk X.prog X.w (upd H x o) h' x o) : Inv X pins σ (upd H x o) { s with heap := h', toks := t' } := I.un (Un.write mu he k heo) (I.hok.write mu he k heo new)
theorem Inv.pins_of {pins' : List (Addr × Obj)} (I : Inv X pins σ H s) (h : ∀ p ∈ pins', s.heap.get? p.1 = some p.2 ∧ H p.1 = none ∧ p.1 ≠ X.env.locals ∧ p.1 ∉ X.fs ∧ ∀ v, p.2.data ≠ .cell v) : Inv X pins' σ H s :=
  ⟨I.ok, I.os, I.bare, I.base, I.loc, I.cell, I.free, I.freeC, fun p hp => (List.mem_append.mp hp).elim (fun z => I.pin p (List.mem_append_left _ z)) (h p), I.hok, I.len⟩

theorem nodup_ix {N : List Str} (hN : N.Nodup) {i j : Nat} {x : Str} (a : N[i]? = some x) (b : N[j]? = some x) : i = j := by
  obtain ⟨h1, e1⟩ := List.getElem?_eq_some_iff.mp a
  obtain ⟨h2, e2⟩ := List.getElem?_eq_some_iff.mp b
  exact (List.getElem_inj hN).mp (e1.trans e2.symm)

/-- a name is stored; what changed -/
theorem store_ok2 {M : Model} {A : Around} {E : Value → Shared → Prop} {i : Nat} {x : Str} {v : V} {u : Value} {Q : Unit → Shared → Prop} (I : Inv X pins σ H s) (hN : X.N.Nodup) (hi : X.N[i]? = some x) (hx : Loc X.env.scope x) (r : RelV v u)
    (h : ∀ s', Inv X pins (σ.set i (some v)) H s' → (∃ a, Heap.SameBut a s.heap s'.heap ∧ (a = X.env.locals ∨ X.env.cells.lookup x = some a)) → Q () s') (hf : X.fn x = true ∨ X.env.scope.names.lookup x = some .local := by first | exact .inl rfl | exact .inr rfl | assumption) : wpAny M A (storeName X.env x u) Q E s := by
  obtain ⟨m, hn, hl⟩ := id I.loc
  have hcls : (X.env.scope.kind == .class || (X.env.scope.kind == .module && X.env.locals != X.env.globals)) = false := by rw [I.ok.kind]; rfl
  have hiσ : i < σ.length := by rw [I.len]; exact (List.getElem?_eq_some_iff.mp hi).1
  have cne := I.cne
  have tracked : ∀ {a : Addr} {h' : Heap}, (∃ o, s.heap.get? a = some o ∧ H a = none) → Heap.SameBut a s.heap h' → HOk X.prog X.w H h' := fun {a h'} ha hs b ob e => by
    obtain ⟨_, _, hfree⟩ := ha
    refine (I.hok b ob e).stay (fun c w' hc q => (hs.2 c ?_).trans q) (fun _ q => q) fun _ _ q => q
    rintro rfl
    rcases hc with rfl | hc
    · rw [hfree] at e; cases e
    · rw [hfree] at hc; cases hc
  rcases hx with hk | hk
  · refine wpAny_storeName_local hk hn (fun h' hn' hs => ?_) hcls
    obtain ⟨oL, _, _, hoL, _⟩ := id hn
    refine h _ ⟨I.ok, I.os, I.bare, ⟨fun b o e n hb hx => ?_, fun b o e n hb hx => ?_, I.base.free, fun b o e hx => ?_, I.base.tups, I.base.frzs, I.base.tbls⟩, ⟨_, hn', fun j y v' e1 e2 e3 => ?_⟩, fun y c e => ?_, I.free, I.freeC, fun p hp => ?_, tracked ⟨oL, hoL, I.free⟩ hs, by simpa using I.len⟩ ⟨_, hs, .inl rfl⟩
    · exact (hs.2 b (Nat.ne_of_lt (Nat.lt_of_lt_of_le (Heap.lt_size e) I.ok.above))).trans (I.base.keep b o e n hb hx)
    · obtain ⟨sl, e1⟩ := I.base.slot b o e n hb hx
      exact ⟨sl, (hs.2 b (Nat.ne_of_lt (Nat.lt_of_lt_of_le (Heap.lt_size e) I.ok.above))).trans e1⟩
    · obtain ⟨o', e1⟩ := I.base.there b o e hx
      exact ⟨o', (hs.2 b (Nat.ne_of_lt (Nat.lt_of_lt_of_le (Heap.lt_size e) I.ok.above))).trans e1⟩
    · by_cases hj : j = i
      · subst hj
        rw [hi] at e1; cases e1
        rw [List.getElem?_set_self hiσ] at e2
        cases e2
        exact ⟨u, r, .inl ⟨hk, by simp⟩⟩
      · rw [List.getElem?_set_ne (Ne.symm hj)] at e2
        obtain ⟨u', r', q⟩ := hl j y v' e1 e2 e3
        refine ⟨u', r', ?_⟩
        rcases q with ⟨k, e⟩ | ⟨k, c, e, z⟩
        · refine .inl ⟨k, ?_⟩
          have : y ≠ x := fun e => hj (nodup_ix hN e1 (e ▸ hi))
          simp [this, e]
        · exact .inr ⟨k, c, e, z.sameBut hs (cne y c e)⟩
    · obtain ⟨w', z⟩ := I.cell y c e
      exact ⟨w', z.sameBut hs (cne y c e)⟩
    · obtain ⟨e, n, ne, nf, d⟩ := I.pin p hp
      exact ⟨(hs.2 p.1 ne).trans e, n, ne, nf, d⟩
  · have hfn : X.fn x = true := by
      rcases hf with z | z
      · exact z
      · rw [z] at hk; cases hk
    obtain ⟨c, hc⟩ := I.ok.has x (.inl hk)
    obtain ⟨w', z⟩ := I.cell x c hc
    refine wpAny_storeName_cell I.ok.kind hk hc z (fun h' hc' hs => ?_)
    obtain ⟨oc, hoc, hocd⟩ := id z
    refine h { s with heap := h' } ⟨I.ok, I.os, I.bare, ⟨fun b o e n hb hx => ?_, fun b o e n hb hx => ?_, I.base.free, fun b o e hx => ?_, I.base.tups, I.base.frzs, I.base.tbls⟩, ⟨m, hn.sameBut hs (Ne.symm (cne x c hc)), fun j y v' e1 e2 e3 => ?_⟩, fun y c' e => ?_, I.free, I.freeC, fun p hp => ?_, tracked ⟨oc, hoc, I.freeC x c hc⟩ hs, by simpa using I.len⟩ ⟨c, hs, .inr hc⟩
    · exact (hs.2 b (Nat.ne_of_lt (Nat.lt_of_lt_of_le (Heap.lt_size e) (I.ok.cab x c hfn hc)))).trans (I.base.keep b o e n hb hx)
    · obtain ⟨sl, e1⟩ := I.base.slot b o e n hb hx
      exact ⟨sl, (hs.2 b (Nat.ne_of_lt (Nat.lt_of_lt_of_le (Heap.lt_size e) (I.ok.cab x c hfn hc)))).trans e1⟩
    · obtain ⟨o', e1⟩ := I.base.there b o e hx
      exact ⟨o', (hs.2 b (Nat.ne_of_lt (Nat.lt_of_lt_of_le (Heap.lt_size e) (I.ok.cab x c hfn hc)))).trans e1⟩
    · by_cases hj : j = i
      · subst hj
        rw [hi] at e1; cases e1
        rw [List.getElem?_set_self hiσ] at e2
        cases e2
        exact ⟨u, r, .inr ⟨.inl hk, c, hc, hc'⟩⟩
      · rw [List.getElem?_set_ne (Ne.symm hj)] at e2
        obtain ⟨u', r', q⟩ := hl j y v' e1 e2 e3
        refine ⟨u', r', ?_⟩
        rcases q with q | ⟨k, c', e, z'⟩
        · exact .inl q
        · refine .inr ⟨k, c', e, z'.sameBut hs ?_⟩
          rintro rfl
          exact hj (nodup_ix hN e1 (I.ok.inj _ _ _ e hc ▸ hi))
    · by_cases hcc : c' = c
      · subst hcc; exact ⟨_, hc'⟩
      · obtain ⟨w2, z2⟩ := I.cell y c' e
        exact ⟨w2, z2.sameBut hs hcc⟩
    · obtain ⟨e, n, ne, nf, d⟩ := I.pin p hp
      refine ⟨(hs.2 p.1 ?_).trans e, n, ne, nf, d⟩
      intro q
      rw [q, hoc] at e
      have q' : oc = p.2 := Option.some.inj e
      exact d w' (by rw [← q']; exact hocd)
theorem store_ok {M : Model} {A : Around} {E : Value → Shared → Prop} {i : Nat} {x : Str} {v : V} {u : Value} {Q : Unit → Shared → Prop} (I : Inv X pins σ H s) (hN : X.N.Nodup) (hi : X.N[i]? = some x) (hx : Loc X.env.scope x) (r : RelV v u)
    (h : ∀ s', Inv X pins (σ.set i (some v)) H s' → Q () s') (hf : X.fn x = true ∨ X.env.scope.names.lookup x = some .local := by first | exact .inl rfl | exact .inr rfl | assumption) : wpAny M A (storeName X.env x u) Q E s :=
  store_ok2 I hN hi hx r (fun s' I' _ => h s' I') hf
/-- behind a call or a block, the state as it is -/
theorem Inv.call' {s' : Shared} {ch : List Addr} (I : Inv X pins σ H s) (ho : s'.os = s.os) (u : Un (frs X.stack) ch H H' s.heap s'.heap) (hok : HOk X.prog X.w H' s'.heap) (hg : AllBare s'.gens)
    (hch : ∀ b ∈ ch, (b ∈ X.ex ∨ X.s₀.heap.objs.size ≤ b) ∧ b ≠ X.env.locals ∧ (∀ x c, X.env.cells.lookup x = some c → c ≠ b) ∧ ∀ p ∈ X.pn ++ pins, p.1 ≠ b) : Inv X pins σ H' s' := by
  obtain ⟨h', g', d', t', o'⟩ := s'
  have e : o' = s.os := ho
  subst e
  exact I.call (g' := g') (t' := t') (d' := d') u hok hg hch
end

/-! ### the judgements -/
/-- an exception: its class, its own dict's address (where it has one), the abstract heap behind it -/
abbrev XK := Value → Option Addr → Hp → Prop
abbrev St := List (Option V)
abbrev VK := V → Hp → Prop
/-- an expression's reading; a test's; an argument list's -/
abbrev TE := St → Hp → VK → Prop
abbrev TT := St → Hp → (Bool → Hp → Prop) → Prop
abbrev TA := St → Hp → (List V → Hp → Prop) → Prop
/-- what is wanted behind a statement -/
structure Ends where
  nx : St → Hp → Prop
  rt : VK
  bk : St → Hp → Prop := fun _ _ => False
  ct : St → Hp → Prop := fun _ _ => False
abbrev TS := Ends → St → Hp → Prop

def EP (X : Cx) (pins : List (Addr × Obj)) (σ : St) (Q : VK) (u : Value) (s' : Shared) : Prop := ∃ v H', Inv X pins σ H' s' ∧ RelV v u ∧ Q v H'
def TP (X : Cx) (pins : List (Addr × Obj)) (σ : St) (Q : Bool → Hp → Prop) (b : Bool) (s' : Shared) : Prop := ∃ H', Inv X pins σ H' s' ∧ Q b H'
def AP (X : Cx) (pins : List (Addr × Obj)) (σ : St) (Q : List V → Hp → Prop) (us : List Value) (s' : Shared) : Prop := ∃ vs H', Inv X pins σ H' s' ∧ Vals vs us ∧ Q vs H'
def SP (X : Cx) (pins : List (Addr × Obj)) (D : Ends) (f : Flow) (s' : Shared) : Prop :=
  match f with
  | .next => ∃ σ' H', Inv X pins σ' H' s' ∧ D.nx σ' H'
  | .brk => ∃ σ' H', Inv X pins σ' H' s' ∧ D.bk σ' H'
  | .cont => ∃ σ' H', Inv X pins σ' H' s' ∧ D.ct σ' H'
  | .ret u => ∃ v σ' H', Inv X pins σ' H' s' ∧ RelV v u ∧ D.rt v H'

def PE (X : Cx) (e : Expr) (t : TE) : Prop :=
  ∀ (pins : List (Addr × Obj)) (s : Shared) (σ : St) (H : Hp) (Q : VK), Inv X pins σ H s → t σ H Q → wpAny (model X.prog X.w) X.A (eval e X.env) (EP X pins σ Q) X.xe s
def PT (X : Cx) (e : Expr) (t : TT) : Prop :=
  ∀ (pins : List (Addr × Obj)) (s : Shared) (σ : St) (H : Hp) (Q : Bool → Hp → Prop), Inv X pins σ H s → t σ H Q → wpAny (model X.prog X.w) X.A (isTrue e X.env (eval e X.env)) (TP X pins σ Q) X.xe s
/-- a test whatever its 'whole' is (and, or) -/
def PW (X : Cx) (e : Expr) (t : TT) : Prop :=
  ∀ (whole : Sem Value) (pins : List (Addr × Obj)) (s : Shared) (σ : St) (H : Hp) (Q : Bool → Hp → Prop), Inv X pins σ H s → t σ H Q → wpAny (model X.prog X.w) X.A (isTrue e X.env whole) (TP X pins σ Q) X.xe s
theorem PW.pt {X : Cx} {e : Expr} {t : TT} (h : PW X e t) : PT X e t := h _
/-- an argument list (no star), from the left -/
def PA (X : Cx) (es : List Expr) (t : TA) : Prop :=
  ∀ (pos : Pos) (pins : List (Addr × Obj)) (s : Shared) (σ : St) (H : Hp) (Q : List V → Hp → Prop), Inv X pins σ H s → t σ H Q → wpAny (model X.prog X.w) X.A (spliced (backTo pos (starEach es X.env))) (AP X pins σ Q) X.xe s
def PS (X : Cx) (st : Stmt) (t : TS) : Prop :=
  ∀ (pins : List (Addr × Obj)) (s : Shared) (σ : St) (H : Hp) (D : Ends), Inv X pins σ H s → t D σ H → wpAny (model X.prog X.w) X.A (exec st X.env) (SP X pins D) X.xe s
def PSs (X : Cx) (st : List Stmt) (t : TS) : Prop :=
  ∀ (pins : List (Addr × Obj)) (s : Shared) (σ : St) (H : Hp) (D : Ends), Inv X pins σ H s → t D σ H → wpAny (model X.prog X.w) X.A (execs st X.env) (SP X pins D) X.xe s
/-- weaken the end -/
theorem thn {α : Type} {t : Sem α} {Q Q' : α → Shared → Prop} {M : Model} {A : Around} {E : Value → Shared → Prop} {s : Shared} (h : wpAny M A t Q E s) (hQ : ∀ a s, Q a s → Q' a s) : wpAny M A t Q' E s := wpAny_mono h hQ fun _ _ x => x
end L2

namespace L2
open PySem PySem.Spec PyProof.Rows
section
variable {X : Cx}

/-! ### names and constants -/
def tVar (i : Nat) : TE := fun σ H Q => ∃ v, σ[i]? = some (some v) ∧ Q v H
def tC (v : V) : TE := fun _ H Q => Q v H
theorem pe_var {i : Nat} {x : Str} {pos : Pos} (hN : X.N[i]? = some x) (hv : Vis X.env.scope x) (hd : (x == ("__debug__" : Str)) = false := by decide) (hcd : (x == ("__classdict__" : Str)) = false := by decide) : PE X (.Name x pos) (tVar i) := by
  intro pins s σ H Q I h
  obtain ⟨v, e, h⟩ := h
  obtain ⟨m, hn, hl⟩ := I.loc
  obtain ⟨u, r, l⟩ := hl i x v hN e hv
  have fin : EP X pins σ Q u s := ⟨v, H, I, r, h⟩
  rcases l with ⟨hk, hm⟩ | ⟨hk, c, hc, hcell⟩
  · exact wpAny_Name (wpAny_loadName_local I.ok.kind hk hn hm fin) hd
  · rcases hk with hk | hk
    · exact wpAny_Name (wpAny_loadName_cell I.ok.kind hk hc hcell fin) hd
    · exact wpAny_Name (wpAny_loadName_free I.ok.kind hk hc hcell fin hcd) hd
theorem pe_int {i j pos} : PE X (.Constant (.int i) j pos) (tC (.int i)) := fun _ _ _ H _ I h => wpAny_Constant_int ⟨.int i, H, I.tok _, ⟨_, rfl⟩, h⟩
theorem pe_bl {b j pos} : PE X (.Constant (.bool b) j pos) (tC (.bl b)) := fun _ _ _ H _ I h => Constant_bool ⟨.bl b, H, I, rfl, h⟩
theorem pe_non {j pos} : PE X (.Constant .none j pos) (tC .non) := fun _ _ _ H _ I h => Constant_none ⟨.non, H, I, rfl, h⟩
/-- a global name of the def -/
def Gl (X : Cx) (x : Str) : Prop := X.env.kindOf x = some .globalImplicit
theorem ld_glob {E : Value → Shared → Prop} {pins : List (Addr × Obj)} {s : Shared} {σ : St} {H : Hp} {x : Str} {u : Value} {pos : Pos} {Q : Value → Shared → Prop} (I : Inv X pins σ H s) (hg : Gl X x) (hm : X.mg x = some u) (h : Q u s)
    (hd : (x == ("__debug__" : Str)) = false := by decide) : wpAny (model X.prog X.w) X.A (eval (.Name x pos) X.env) Q E s :=
  Calls.Name_function_global I.ok.kind hg (Calls.loadGlobal_global (by rw [I.ok.glob]; exact I.mod.glob.keeps I.bk) hm h) hd
theorem ld_blt {E : Value → Shared → Prop} {pins : List (Addr × Obj)} {s : Shared} {σ : St} {H : Hp} {x : Str} {u : Value} {pos : Pos} {Q : Value → Shared → Prop} (I : Inv X pins σ H s) (hg : Gl X x) (hm : X.mg x = none) (hv : bootBuiltins x = some u) (h : Q u s)
    (hn : x ≠ "__name__" := by decide) (hd : (x == ("__debug__" : Str)) = false := by decide) : wpAny (model X.prog X.w) X.A (eval (.Name x pos) X.env) Q E s := by
  obtain ⟨mb, h1, h2⟩ := I.mod.blt
  exact Calls.Name_function_global I.ok.kind hg (Calls.loadGlobal_builtin (by rw [I.ok.glob]; exact I.mod.glob.keeps I.bk) hm (by rw [I.ok.blt]; exact h1.keeps I.bk) ((h2 x hn).trans hv) h) hd
theorem pe_bltn {x : Str} {v : V} {u : Value} {pos : Pos} (hg : Gl X x) (hm : X.mg x = none) (hv : bootBuiltins x = some u) (r : RelV v u) (hn : x ≠ "__name__" := by decide) (hd : (x == ("__debug__" : Str)) = false := by decide) : PE X (.Name x pos) (tC v) :=
  fun _ _ _ H _ I h => ld_blt I hg hm hv ⟨v, H, I, r, h⟩ hn hd

/-! ### arithmetic -/
variable {a b : Expr} {ta tb : TE} {pos : Pos}
/-- a comparison as a value, as a test -/
def tB (t : TE) : TT := fun σ H Q => t σ H fun x H1 => ∃ c, x = .bl c ∧ Q c H1
/-- an expression whose value is a bool, as a test -/
theorem pt_val {e : Expr} {t : TE} (h : PE X e t) (he : ∀ whole, isTrue e X.env whole = (do let v ← whole; standAt e.pos; holding [v] (truthy v)) := by intro _; rfl) : PT X e (tB t) := by
  intro pins s σ H Q I hw
  refine isTrue_plain (thn (h pins s σ H _ I hw) fun v s1 ⟨x, H1, I1, r1, q1⟩ => ?_) (he _)
  obtain ⟨d, rfl, q⟩ := q1
  cases r1
  exact wpAny_truthy_bool ⟨H1, I1, q⟩

/-! ### and, or, not -/
variable {tA tB' : TT} {rest : List Expr}
def tAnd (t u : TT) : TT := fun σ H Q => t σ H fun c H1 => if c = true then u σ H1 Q else Q false H1
def tOr (t u : TT) : TT := fun σ H Q => t σ H fun c H1 => if c = true then Q true H1 else u σ H1 Q
def tNot (t : TT) : TT := fun σ H Q => t σ H fun c H1 => Q (!c) H1
theorem pw_and1 (ha : PT X a tA) : PW X (.BoolOp .And [a] pos) tA := by
  intro wh pins s σ H Q I h
  refine isTrue_and (thn (ha pins s σ H Q I h) fun c s1 e => ?_)
  cases c with
  | true => exact isTrue_and_nil e
  | false => exact e
theorem pw_or1 (ha : PT X a tA) : PW X (.BoolOp .Or [a] pos) tA := by
  intro wh pins s σ H Q I h
  refine isTrue_or (thn (ha pins s σ H Q I h) fun c s1 e => ?_)
  cases c with
  | false => exact isTrue_or_nil e
  | true => exact e
theorem pw_and (ha : PT X a tA) (hb : PW X (.BoolOp .And (b :: rest) pos) tB') : PW X (.BoolOp .And (a :: b :: rest) pos) (tAnd tA tB') := by
  intro wh pins s σ H Q I h
  refine isTrue_and (thn (ha pins s σ H _ I h) fun c s1 ⟨H1, I1, q1⟩ => ?_)
  cases c with
  | true => exact hb wh pins s1 σ H1 Q I1 q1
  | false => exact ⟨H1, I1, q1⟩
theorem pw_or (ha : PT X a tA) (hb : PW X (.BoolOp .Or (b :: rest) pos) tB') : PW X (.BoolOp .Or (a :: b :: rest) pos) (tOr tA tB') := by
  intro wh pins s σ H Q I h
  refine isTrue_or (thn (ha pins s σ H _ I h) fun c s1 ⟨H1, I1, q1⟩ => ?_)
  cases c with
  | true => exact ⟨H1, I1, q1⟩
  | false => exact hb wh pins s1 σ H1 Q I1 q1
theorem pt_not (ha : PT X a tA) : PT X (.UnaryOp .Not a pos) (tNot tA) := by
  intro pins s σ H Q I h
  exact isTrue_not (ha pins s σ H (fun c H1 => Q (!c) H1) I h)
/-- .. as values (bools) -/
def tAndV (ta tb : TE) : TE := fun σ H Q => ta σ H fun x H1 => ∃ c, x = .bl c ∧ if c = true then tb σ H1 Q else Q (.bl false) H1
theorem pe_one {op} {t : TE} (h : PE X a t) : PE X (.BoolOp op [a] pos) t := fun pins s σ H Q I hw => BoolOp_one (h pins s σ H Q I hw)
theorem pe_and (ha : PE X a ta) (hb : PE X (.BoolOp .And (b :: rest) pos) tb) : PE X (.BoolOp .And (a :: b :: rest) pos) (tAndV ta tb) := by
  intro pins s σ H Q I h
  refine BoolOp_and (thn (ha pins s σ H _ I h) fun v s1 ⟨x, H1, I1, r1, q1⟩ => ?_)
  obtain ⟨c, rfl, q1⟩ := q1
  cases r1
  refine wpAny_truthy_bool ?_
  cases c with
  | true => exact hb pins s1 σ H1 Q I1 q1
  | false => exact ⟨.bl false, H1, I1, rfl, q1⟩
/-- a if t else b -/
def tIf (t : TT) (ta tb : TE) : TE := fun σ H Q => t σ H fun c H1 => if c = true then ta σ H1 Q else tb σ H1 Q
theorem pe_ifExp {c : Expr} (hc : PT X c tA) (ha : PE X a ta) (hb : PE X b tb) : PE X (.IfExp c a b pos) (tIf tA ta tb) := by
  intro pins s σ H Q I h
  refine wpAny_IfExp (thn (hc pins s σ H _ I h) fun d s1 ⟨H1, I1, q1⟩ => ?_)
  cases d with
  | true => exact ha pins s1 σ H1 Q I1 q1
  | false => exact hb pins s1 σ H1 Q I1 q1
end
end L2

namespace L2
open PySem PySem.Spec PyProof.Rows

/-! ### a list, a tuple that is read: tracked, frozen, or an object of the module -/
def SqL (K : PySem.W.Frag) (H : Hp) (a : Addr) (xs : List V) : Prop :=
  Rd H a (.lst xs) ∨
    ∃ (o : Obj) (its : Array Value) (n : Nat), K.lookup a = some o ∧ o.cls = .type "list" ∧ o.dict = none ∧ o.data = .seq its n ∧ its.size ≤ sizeLine ∧ Vals xs its.toList
def SqT (K : PySem.W.Frag) (H : Hp) (a : Addr) (xs : List V) : Prop :=
  Rd H a (.tup xs) ∨
    ∃ (o : Obj) (its : Array Value) (n : Nat), K.lookup a = some o ∧ o.cls = .type "tuple" ∧ o.data = .seq its n ∧ its.size ≤ sizeLine ∧ Vals xs its.toList
def absV : Value → Option V
  | .none => some .non
  | .bool b => some (.bl b)
  | .int i _ => some (.int i)
  | .str x _ => some (.str x)
  | .bytes b _ => some (.byt b)
  | .float b _ => some (.flt b)
  | .ref a => some (.ref a)
  | .type n => some (.ty n)
  | _ => none
theorem RelV.abs {x : V} {u : Value} (r : RelV x u) : absV u = some x := by
  cases x with
  | non => cases r; rfl
  | bl _ => cases r; rfl
  | int _ => obtain ⟨t, rfl⟩ := r; rfl
  | str _ => obtain ⟨t, rfl⟩ := r; rfl
  | byt _ => obtain ⟨t, rfl⟩ := r; rfl
  | flt _ => obtain ⟨t, rfl⟩ := r; rfl
  | ref _ => cases r; rfl
  | ty _ => cases r; rfl
theorem RelV.inj {x y : V} {u : Value} (r : RelV x u) (q : RelV y u) : x = y := Option.some.inj (r.abs.symm.trans q.abs)
theorem Vals.inj : ∀ {xs ys : List V} {us : List Value}, Vals xs us → Vals ys us → xs = ys
  | _, _, _, .nil, .nil => rfl
  | _, _, _, .cons r t, .cons r' t' => by rw [r.inj r', Vals.inj t t']
section
variable {X : Cx} {pins : List (Addr × Obj)} {σ : St} {H : Hp} {s : Shared} {a : Addr} {xs ys : List V}
theorem SqL.of {K : PySem.W.Frag} (h : H a = some (.lst xs)) : SqL K H a xs := .inl (.inl h)
theorem SqT.of {K : PySem.W.Frag} (h : H a = some (.tup xs)) : SqT K H a xs := .inl (.inl h)
theorem Inv.list (I : Inv X pins σ H s) (h : SqL X.K H a xs) : ∃ its : List Value, Vals xs its ∧ PlainL s.heap a its.toArray ∧ xs.length ≤ sizeLine := by
  rcases h with h | ⟨o, its, n, hk, hc, hd, hs, hz, r⟩
  · obtain ⟨z, its, n, r, e⟩ := h.ok I.hok
    exact ⟨its, r, ⟨_, n, e, rfl, rfl, rfl⟩, z⟩
  · refine ⟨its.toList, r, ⟨o, n, I.kIn a o hk, hc, hd, by simpa using hs⟩, ?_⟩
    have e := r.length
    simp only [Array.length_toList] at e
    omega
theorem Inv.tuple (I : Inv X pins σ H s) (h : SqT X.K H a xs) : ∃ its : List Value, Vals xs its ∧ IsTup s.heap a its.toArray ∧ xs.length ≤ sizeLine := by
  rcases h with h | ⟨o, its, n, hk, hc, hs, hz, r⟩
  · obtain ⟨z, its, r, p⟩ := h.ok I.hok
    exact ⟨its, r, p, z⟩
  · refine ⟨its.toList, r, ⟨o, I.kIn a o hk, hc, n, by simpa using hs⟩, ?_⟩
    have e := r.length
    simp only [Array.length_toList] at e
    omega
theorem Inv.list_inj (I : Inv X pins σ H s) (h : SqL X.K H a xs) (h' : SqL X.K H a ys) : xs = ys := by
  obtain ⟨its, r, ⟨o, n, e, _, _, d⟩, _⟩ := I.list h
  obtain ⟨its', r', ⟨o', n', e', _, _, d'⟩, _⟩ := I.list h'
  rw [e] at e'; cases e'
  rw [d] at d'
  injection d' with d1 _
  have : its = its' := by simpa using congrArg Array.toList d1
  subst this
  exact r.inj r'
theorem Inv.tuple_inj (I : Inv X pins σ H s) (h : SqT X.K H a xs) (h' : SqT X.K H a ys) : xs = ys := by
  obtain ⟨its, r, ⟨o, e, _, n, d⟩, _⟩ := I.tuple h
  obtain ⟨its', r', ⟨o', e', _, n', d'⟩, _⟩ := I.tuple h'
  rw [e] at e'; cases e'
  rw [d] at d'
  injection d' with d1 _
  have : its = its' := by simpa using congrArg Array.toList d1
  subst this
  exact r.inj r'
end

/-! ### another wish about exceptions -/
abbrev Cx.wish (X : Cx) (E : Value → Shared → Prop) : Cx := { X with xe := E }
/-- no exception leaves -/
abbrev Cx.nox (X : Cx) : Cx := X.wish fun _ _ => False
theorem Cx.Ok.wish {X : Cx} (ok : X.Ok) (E : Value → Shared → Prop) : (X.wish E).Ok :=
  ⟨ok.mod, ok.kind, ok.glob, ok.blt, ok.above, ok.inj, ok.has, ok.cab, ok.hd, ok.frames, ok.stk, ok.exf, ok.bs, ok.bsz, ok.noex, ok.exfs, ok.funs, ok.frf⟩
theorem Cx.Ok.unwish {X : Cx} {E : Value → Shared → Prop} (ok : (X.wish E).Ok) : X.Ok :=
  ⟨ok.mod, ok.kind, ok.glob, ok.blt, ok.above, ok.inj, ok.has, ok.cab, ok.hd, ok.frames, ok.stk, ok.exf, ok.bs, ok.bsz, ok.noex, ok.exfs, ok.funs, ok.frf⟩
section
variable {X : Cx} {pins : List (Addr × Obj)} {σ : St} {H : Hp} {s : Shared} {E : Value → Shared → Prop}
theorem Inv.wish (I : Inv X pins σ H s) (E : Value → Shared → Prop) : Inv (X.wish E) pins σ H s := ⟨I.ok.wish E, I.os, I.bare, I.base, I.loc, I.cell, I.free, I.freeC, I.pin, I.hok, I.len⟩
theorem Inv.unwish (I : Inv (X.wish E) pins σ H s) : Inv X pins σ H s := ⟨I.ok.unwish, I.os, I.bare, I.base, I.loc, I.cell, I.free, I.freeC, I.pin, I.hok, I.len⟩
theorem SP.unwish {D : Ends} {f : Flow} {s' : Shared} (h : SP (X.wish E) pins D f s') : SP X pins D f s' := by
  cases f with
  | next => obtain ⟨σ', H', I, q⟩ := h; exact ⟨σ', H', I.unwish, q⟩
  | brk => obtain ⟨σ', H', I, q⟩ := h; exact ⟨σ', H', I.unwish, q⟩
  | cont => obtain ⟨σ', H', I, q⟩ := h; exact ⟨σ', H', I.unwish, q⟩
  | ret u => obtain ⟨v, σ', H', I, r, q⟩ := h; exact ⟨v, σ', H', I.unwish, r, q⟩
theorem PSs.nox {st : List Stmt} {t : TS} (h : PSs X.nox st t) : PSs X st t := fun pins s σ H D I hw =>
  wpAny_mono (h pins s σ H D (I.wish _) hw) (fun _ _ q => q.unwish) fun _ _ z => False.elim z
end

/-! ### blocks and small statements -/
section
variable {X : Cx} {st : Stmt} {rest : List Stmt} {t u : TS} {e : Expr} {te : TE} {pos : Pos}
def tNext : TS := fun D σ H => D.nx σ H
def tSeq (t u : TS) : TS := fun D σ H => t { D with nx := u D } σ H
theorem pss_nil : PSs X [] tNext := fun _ _ σ H _ I h => wpAny_execs_nil ⟨σ, H, I, h⟩
theorem pss_cons (h1 : PS X st t) (h2 : PSs X rest u) : PSs X (st :: rest) (tSeq t u) := by
  intro pins s σ H D I h
  refine wpAny_execs_cons (thn (h1 pins s σ H { D with nx := u D } I h) fun f s1 q => ?_)
  cases f with
  | next =>
    obtain ⟨σ', H', I', q⟩ := q
    exact h2 pins s1 σ' H' D I' q
  | ret v => exact q
  | brk => exact q
  | cont => exact q
theorem pss_one (h1 : PS X st t) : PSs X [st] t := by
  intro pins s σ H D I h
  refine wpAny_execs_cons (thn (h1 pins s σ H D I h) fun f s1 q => ?_)
  cases f with
  | next => exact wpAny_execs_nil q
  | ret v => exact q
  | brk => exact q
  | cont => exact q
def tBreak : TS := fun D σ H => D.bk σ H
theorem ps_break : PS X (.Break pos) tBreak := fun _ _ σ H _ I h => wpAny_Break ⟨σ, H, I, h⟩
/-- in a def's body nothing is shown -/
theorem Inv.quiet {pins : List (Addr × Obj)} {σ : St} {H : Hp} {s : Shared} (I : Inv X pins σ H s) : interactive X.env = false := by simp [interactive, I.ok.kind]
/-- an expression whose value is dropped -/
def tDrop (te : TE) : TS := fun D σ H => te σ H fun _ H1 => D.nx σ H1
theorem ps_expr (he : PE X e te) (hs : swapsWith e none pos.line X.env = pure false := by rfl) : PS X (.Expr e pos) (tDrop te) := by
  intro pins s σ H D I h
  exact wpAny_Expr_any (thn (he pins s σ H _ I h) fun v s1 ⟨x, H1, I1, r1, q1⟩ => ⟨σ, H1, I1, q1⟩) I.quiet hs
def tRet (te : TE) : TS := fun D σ H => te σ H D.rt
theorem ps_ret (he : PE X e te) : PS X (.Return (some e) pos) (tRet te) := by
  intro pins s σ H D I h
  exact wpAny_Return_some (thn (he pins s σ H _ I h) fun v s1 ⟨x, H1, I1, r1, q1⟩ => ⟨x, σ, H1, I1, r1, q1⟩)
def tIfS (c : TT) (t u : TS) : TS := fun D σ H => c σ H fun b H1 => if b = true then t D σ H1 else u D σ H1
theorem ps_if {c : Expr} {a b : List Stmt} {tc : TT} (hc : PT X c tc) (ha : PSs X a t) (hb : PSs X b u) : PS X (.If c a b pos) (tIfS tc t u) := by
  intro pins s σ H D I h
  refine wpAny_If (thn (hc pins s σ H _ I h) fun d s1 ⟨H1, I1, q1⟩ => ?_)
  cases d with
  | true => exact ha pins s1 σ H1 D I1 q1
  | false => exact hb pins s1 σ H1 D I1 q1
/-- code that the proof never comes to -/
def tNever : TS := fun _ _ _ => False
theorem ps_never : PS X st tNever := fun _ _ _ _ _ _ h => h.elim
end

/-! ### targets -/
abbrev TG := V → St → Hp → (St → Hp → Prop) → Prop
abbrev TGs := List V → St → Hp → (St → Hp → Prop) → Prop
def PG (X : Cx) (target : Expr) (t : TG) : Prop :=
  ∀ (pins : List (Addr × Obj)) (s : Shared) (σ : St) (H : Hp) (v : V) (u : Value) (Q : St → Hp → Prop), Inv X pins σ H s → RelV v u → t v σ H Q →
    wpAny (model X.prog X.w) X.A (assign target X.env u) (fun _ s' => ∃ σ' H', Inv X pins σ' H' s' ∧ Q σ' H') X.xe s
/-- several targets, one after another -/
def PGs (X : Cx) (ts : List Expr) (t : TGs) : Prop :=
  ∀ (pins : List (Addr × Obj)) (s : Shared) (σ : St) (H : Hp) (vs : List V) (us : List Value) (Q : St → Hp → Prop), Inv X pins σ H s → Vals vs us → t vs σ H Q →
    wpAny (model X.prog X.w) X.A (assignInOrder ((assignEach ts X.env).map (·.2)) us) (fun _ s' => ∃ σ' H', Inv X pins σ' H' s' ∧ Q σ' H') X.xe s
/-- o[i] = v, by values -/
abbrev TSet := V → V → V → Hp → (Hp → Prop) → Prop
def PSet (X : Cx) (t : TSet) : Prop :=
  ∀ (pins : List (Addr × Obj)) (s : Shared) (σ : St) (H : Hp) (o i v : V) (ov iv u : Value) (Q : Hp → Prop), Inv X pins σ H s → RelV o ov → RelV i iv → RelV v u → t o i v H Q →
    wpAny (model X.prog X.w) X.A (setItem ov iv u) (fun _ s' => ∃ H', Inv X pins σ H' s' ∧ Q H') X.xe s
/-- a op= b, by values -/
abbrev TIp := V → V → Hp → VK → Prop
def PIp (X : Cx) (op : Operator) (t : TIp) : Prop :=
  ∀ (pins : List (Addr × Obj)) (s : Shared) (σ : St) (H : Hp) (x y : V) (v u : Value) (Q : VK), Inv X pins σ H s → RelV x v → RelV y u → t x y H Q →
    wpAny (model X.prog X.w) X.A (inplaceOp op v u) (EP X pins σ Q) X.xe s
section
variable {X : Cx} {pos : Pos}
def gName (i : Nat) : TG := fun v σ H Q => Q (σ.set i (some v)) H
theorem pg_name {i : Nat} {x : Str} (hN : X.N.Nodup) (hi : X.N[i]? = some x) (hx : Loc X.env.scope x) (hf : X.fn x = true ∨ X.env.scope.names.lookup x = some .local := by first | exact .inl rfl | exact .inr rfl | assumption) : PG X (.Name x pos) (gName i) := by
  intro pins s σ H v u Q I r h
  exact wpAny_assign_Name (store_ok I hN hi hx r (fun s' I' => ⟨_, H, I', h⟩) hf)
def gNil : TGs := fun vs σ H Q => vs = [] ∧ Q σ H
def gCons (t : TG) (u : TGs) : TGs := fun vs σ H Q => ∃ v r, vs = v :: r ∧ t v σ H fun σ' H' => u r σ' H' Q
theorem pgs_nil : PGs X [] gNil := by
  intro pins s σ H vs us Q I r h
  obtain ⟨e, h⟩ := h
  subst e
  cases r
  exact assignInOrder_nil ⟨σ, H, I, h⟩
theorem pgs_cons {e : Expr} {es : List Expr} {t : TG} {u : TGs} (h1 : PG X e t) (h2 : PGs X es u)
    (hs : (assignEach (e :: es) X.env).map (·.2) = assign e X.env :: (assignEach es X.env).map (·.2) := by rfl) : PGs X (e :: es) (gCons t u) := by
  intro pins s σ H vs us Q I r h
  obtain ⟨v, vr, e1, h⟩ := h
  subst e1
  cases r with
  | cons r rr =>
    rw [hs]
    refine assignInOrder_cons (thn (h1 pins s σ H _ _ _ I r h) fun _ s1 ⟨σ1, H1, I1, q1⟩ => ?_)
    exact h2 pins s1 σ1 H1 _ _ Q I1 rr q1
/-- (a, b, ..) = a tuple of that length -/
def gTup (K : PySem.W.Frag) (n : Nat) (t : TGs) : TG := fun v σ H Q => ∃ a xs, v = .ref a ∧ SqT K H a xs ∧ xs.length = n ∧ t xs σ H Q
theorem pg_tup {es : List Expr} {k : Nat} {t : TGs} {n : Nat} (hc : X.calm = true) (h : PGs X es t)
    (hn : (assignEach es X.env).length = n := by rfl) (hst : (assignEach es X.env).findIdx? (·.1) = none := by rfl) : PG X (.Tuple es k pos) (gTup X.K n t) := by
  intro pins s σ H v u Q I r hw
  obtain ⟨a, xs, e1, hq, hl, hw⟩ := hw
  subst e1
  cases r
  obtain ⟨its, rv, ht, hz⟩ := I.tuple hq
  refine assign_Tuple_tuple (I.ok.hd hc) ht (by simp [hn, ← hl, rv.length]) hst fun h' hx => ?_
  have I1 : Inv X pins σ H { s with heap := h' } := I.kept (t' := s.toks) fun b o e => hx b o (Nat.ne_of_lt (Heap.lt_size e)) e
  exact h pins _ σ H xs _ Q I1 (by simpa using rv) hw
/-- o[i] = .. -/
def gSub (to ti : TE) (t : TSet) : TG := fun v σ H Q => to σ H fun o H1 => ti σ H1 fun i H2 => t o i v H2 fun H3 => Q σ H3
theorem pg_sub {o i : Expr} {to ti : TE} {t : TSet} (ho : PE X o to) (hi : PE X i ti) (hs : PSet X t)
    (ha : ∀ v, assign (.Subscript o i pos) X.env v = (do
      let ov ← holding [v] (eval o X.env)
      let iv ← holding [v, ov] (eval i X.env)
      standAt pos
      holding [v, ov, iv] (setItem ov iv v)
      release [v, ov, iv] []) := by intro _; rfl) : PG X (.Subscript o i pos) (gSub to ti t) := by
  intro pins s σ H v u Q I r h
  rw [ha]
  refine wpAny_bind (wpAny_holding (thn (ho pins s σ H _ I h) fun ov s1 ⟨x, H1, I1, r1, q1⟩ => ?_))
  refine wpAny_bind (wpAny_holding (thn (hi pins s1 σ H1 _ I1 q1) fun iv s2 ⟨y, H2, I2, r2, q2⟩ => ?_))
  refine wpAny_bind (wpAny_standAt (wpAny_bind (wpAny_holding (thn (hs pins s2 σ H2 x y v ov iv u _ I2 r1 r2 r q2) fun _ s3 ⟨H3, I3, q3⟩ => ?_))))
  exact wpAny_release ⟨σ, H3, I3, q3⟩
/-- target = value -/
def tAsg (te : TE) (g : TG) : TS := fun D σ H => te σ H fun x H1 => g x σ H1 D.nx
theorem ps_asg {tg e : Expr} {te : TE} {g : TG} (he : PE X e te) (hg : PG X tg g) (hs : swapsWithSole [tg] e pos.line X.env = pure false := by rfl) (hw : swappedStores [tg] e X.env = pure none := by rfl)
    (h1 : (assignEach [tg] X.env).map (·.2) = [assign tg X.env] := by rfl) : PS X (.Assign [tg] e pos) (tAsg te g) := by
  intro pins s σ H D I h
  refine wpAny_Assign_stores (thn (he pins s σ H _ I h) fun v s1 ⟨x, H1, I1, r1, q1⟩ => ?_) hs hw
  rw [h1]
  exact thn (hg pins s1 σ H1 x v _ I1 r1 q1) fun _ s2 q => q
/-- name = value -/
theorem ps_set {i : Nat} {x : Str} {e : Expr} {te : TE} {pos' : Pos} (hN : X.N.Nodup) (hi : X.N[i]? = some x) (hx : Loc X.env.scope x) (he : PE X e te) (hs : swapsWith e (some (.Name x pos')) pos.line X.env = pure false := by rfl) (hf : X.fn x = true ∨ X.env.scope.names.lookup x = some .local := by first | exact .inl rfl | exact .inr rfl | assumption) :
    PS X (.Assign [.Name x pos'] e pos) (tAsg te (gName i)) := by
  intro pins s σ H D I h
  refine wpAny_Assign_Name (thn (he pins s σ H _ I h) fun v s1 ⟨y, H1, I1, r1, q1⟩ => ?_) hs
  exact store_ok I1 hN hi hx r1 (fun s2 I2 => ⟨_, H1, I2, q1⟩) hf
/-- a, b = x, y with plain local names: stored from the right; the pair itself is not tracked (the opening rows as in PyProof/Rows/TupAssign.lean:23) -/
def tPar (i j : Nat) (ta : TA) : TS := fun D σ H => ta σ H fun vs H1 => ∃ v w, vs = [v, w] ∧ D.nx ((σ.set i (some v)).set j (some w)) H1
theorem ps_par {i j : Nat} {x y : Str} {a b : Expr} {ta : TA} {px py pt : Pos} {kt k2 pt2} (hc : X.calm = true) (hN : X.N.Nodup) (hi : X.N[i]? = some x) (hj : X.N[j]? = some y) (hij : i ≠ j)
    (hx : X.env.scope.names.lookup x = some .local) (hy : X.env.scope.names.lookup y = some .local) (ha : PA X [a, b] ta)
    (hw : swappedStores [.Tuple [.Name x px, .Name y py] kt pt] (.Tuple [a, b] k2 pt2) X.env = pure (some [x, y]))
    (hs : swapsWithSole [.Tuple [.Name x px, .Name y py] kt pt] (.Tuple [a, b] k2 pt2) pos.line X.env = pure false := by rfl) :
    PS X (.Assign [.Tuple [.Name x px, .Name y py] kt pt] (.Tuple [a, b] k2 pt2) pos) (tPar i j ta) := by
  intro pins s σ H D I h
  rw [exec_Assign_arm]
  refine wpAny_bind (wpAny_standAt ?_)
  rw [hs]
  refine wpAny_bind (wpAny_pure ?_)
  rw [if_neg (by decide)]
  refine wpAny_bind (Tuple_ (thn (ha _ pins s σ H _ I h) fun us s1 ⟨vs, H1, I1, r1, q1⟩ => ?_))
  obtain ⟨v, w, e1, q1⟩ := q1
  subst e1
  obtain ⟨u1, u2, rfl, rv, rw'⟩ : ∃ u1 u2, us = [u1, u2] ∧ RelV v u1 ∧ RelV w u2 := by
    cases r1 with
    | cons p q =>
      cases q with
      | cons p' q' =>
        cases q'
        exact ⟨_, _, rfl, p, p'⟩
  refine wpAny_newObj_type ?_ (by show 2 ≤ sizeLine; decide)
  have I2 : Inv X pins σ H1 { s1 with heap := s1.heap.push { cls := .type "tuple", data := .seq [u1, u2].toArray } } := I1.kept (t' := s1.toks) fun b o e => Heap.get?_push_of_some _ e
  rw [hw]
  refine wpAny_bind (wpAny_pure ?_)
  show wpAny (model X.prog X.w) X.A (do rule "assign.swapped-stores"; let items ← unpackItems (.ref s1.heap.objs.size) 2 none; assignInOrder [fun v => bindName X.env y v, fun v => bindName X.env x v] items.reverse; pure Flow.next) _ _ _
  refine wpAny_bind (wpAny_rule (wpAny_bind (unpackItems_tuple (items := #[u1, u2]) (I.ok.hd hc) (IsTup.new s1.heap _) fun h' hx' => ?_)))
  have I3 := I2.kept (h' := h') (t' := s1.toks) fun b o e => hx' b o (Nat.ne_of_lt (Heap.lt_size e)) e
  show wpAny _ _ (assignInOrder [fun v => bindName X.env y v, fun v => bindName X.env x v] [u2, u1] >>= fun _ => pure Flow.next) _ _ _
  refine wpAny_bind (assignInOrder_cons (wpAny_bindName (store_ok I3 hN hj (.inl hy) rw' (fun s2 I4 => ?_) (.inr hy))))
  refine assignInOrder_cons (wpAny_bindName (store_ok I4 hN hi (.inl hx) rv (fun s3 I5 => assignInOrder_nil (wpAny_pure ?_)) (.inr hx)))
  rw [List.set_comm _ _ (Ne.symm hij)] at I5
  exact ⟨_, H1, I5, q1⟩
/-- name op= e -/
def tAug (i : Nat) (te : TE) (ti : TIp) : TS := fun D σ H => ∃ x, σ[i]? = some (some x) ∧ te σ H fun y H1 => ti x y H1 fun z H2 => D.nx (σ.set i (some z)) H2
theorem ps_aug {i : Nat} {x : Str} {e : Expr} {te : TE} {op : Operator} {ti : TIp} {pos' : Pos} (hN : X.N.Nodup) (hi : X.N[i]? = some x) (hx : Loc X.env.scope x) (he : PE X e te) (ho : PIp X op ti) (hf : X.fn x = true ∨ X.env.scope.names.lookup x = some .local := by first | exact .inl rfl | exact .inr rfl | assumption) :
    PS X (.AugAssign (.Name x pos') op e pos) (tAug i te ti) := by
  intro pins s σ H D I h
  obtain ⟨v, e1, h⟩ := h
  obtain ⟨m, hn, hl⟩ := I.loc
  have vis : Vis X.env.scope x := by rcases hx with k | k; exact .inl k; exact .inr (.inl k)
  obtain ⟨u, r, l⟩ := hl i x v hi e1 vis
  refine wpAny_AugAssign_Name ?_
  have go : wpAny (model X.prog X.w) X.A (eval e X.env) (fun w s₂ => wpAny (model X.prog X.w) X.A (inplaceOp op u w) (fun r s₃ => wpAny (model X.prog X.w) X.A (storeName X.env x r) (fun _ => SP X pins D .next) X.xe s₃) X.xe s₂) X.xe s := by
    refine thn (he pins s σ H _ I h) fun w s1 ⟨y, H1, I1, r1, q1⟩ => ?_
    refine thn (ho pins s1 σ H1 v y u w _ I1 r r1 q1) fun z s2 ⟨zv, H2, I2, r2, q2⟩ => ?_
    exact store_ok I2 hN hi hx r2 (fun s3 I3 => ⟨_, H2, I3, q2⟩) hf
  rcases l with ⟨hk, hm⟩ | ⟨hk, c, hc, hcell⟩
  · exact wpAny_loadName_local I.ok.kind hk hn hm go
  · rcases hk with hk | hk
    · exact wpAny_loadName_cell I.ok.kind hk hc hcell go
    · rcases hx with k | k
      · have : X.env.scope.names.lookup x = some .free := hk
        rw [k] at this; cases this
      · have : X.env.scope.names.lookup x = some .free := hk
        rw [k] at this; cases this
/-- ints -/
def ipI (f : Int → Int → Int) : TIp := fun x y H Q => ∃ i j, x = .int i ∧ y = .int j ∧ Q (.int (f i j)) H
theorem ip_add : PIp X .Add (ipI fun i j => i + j) := by
  intro pins s σ H x y v u Q I r1 r2 h
  obtain ⟨i, j, e1, e2, q⟩ := h
  subst e1; subst e2
  obtain ⟨t, rfl⟩ := r1
  obtain ⟨t', rfl⟩ := r2
  exact iadd_int ⟨.int _, H, I.tok _, ⟨_, rfl⟩, q⟩
end

/-! ### while -/
section
variable {X : Cx} {pos : Pos}
/-- the invariant W with its measure -/
def tWhile (c : TT) (tb : TS) : TS := fun D σ H => ∃ W : Nat → St → Hp → Prop, (∃ m, W m σ H) ∧ ∀ m σ H, W m σ H →
  c σ H fun b H1 => if b = true then ∃ N : St → Hp → Prop, (∀ σ' H', N σ' H' → ∃ m', m' < m ∧ W m' σ' H') ∧ tb { D with nx := N, ct := N, bk := D.nx } σ H1 else D.nx σ H1
theorem ps_while {c : Expr} {body : List Stmt} {tc : TT} {tb : TS} (hp : PassesOwn (model X.prog X.w) X.A X.env X.xe) (hc : PT X c tc) (hb : PSs X body tb) : PS X (.While c body [] pos) (tWhile tc tb) := by
  intro pins s σ H D I h
  obtain ⟨W, ⟨m0, w0⟩, turn⟩ := h
  refine wpAny_While (codeAny_whileLoop (fun n s' => ∃ σ' H', Inv X pins σ' H' s' ∧ W n σ' H') ?_ m0 ⟨σ, H, I, w0⟩)
  rintro n s1 ⟨σ1, H1, I1, w1⟩
  refine wpAny_passesOwn hp (thn (hc pins s1 σ1 H1 _ I1 (turn n σ1 H1 w1)) fun b s2 ⟨H2, I2, q2⟩ => ?_)
  cases b with
  | true =>
    obtain ⟨N, hN, q2⟩ := q2
    rw [if_pos rfl]
    refine wpAny_passesOwn hp (thn (hb pins s2 σ1 H2 _ I2 q2) fun f s3 q3 => ?_)
    cases f with
    | next =>
      obtain ⟨σ3, H3, I3, n3⟩ := q3
      obtain ⟨m', hm, w3⟩ := hN σ3 H3 n3
      exact ⟨m', hm, σ3, H3, I3, w3⟩
    | cont =>
      obtain ⟨σ3, H3, I3, n3⟩ := q3
      obtain ⟨m', hm, w3⟩ := hN σ3 H3 n3
      exact ⟨m', hm, σ3, H3, I3, w3⟩
    | brk => exact q3
    | ret v => exact q3
  | false =>
    rw [if_neg Bool.false_ne_true]
    exact wpAny_execs_nil ⟨σ1, H2, I2, q2⟩
end

/-! ### what a loop or a comprehension walks -/
/-- at turn i: it yields x (the heap may grow), or it stops -/
structure It where
  go : Nat → Hp → Prop
  yld : Nat → Hp → V → Hp → Prop
  stop : Nat → Hp → Prop
/-- the iterator's own objects may turn: they are not the frame's, not pinned, younger than the entry (or a comprehension's own) -/
def FpOk (X : Cx) (pins : List (Addr × Obj)) (H : Hp) (b : Addr) : Prop :=
  H b = none ∧ b ≠ X.env.locals ∧ b ∉ X.fs ∧ (b ∈ X.ex ∨ X.s₀.heap.objs.size ≤ b) ∧ (∀ x c, X.env.cells.lookup x = some c → c ≠ b) ∧ ∀ p ∈ X.pn ++ pins, p.1 ≠ b
theorem Inv.fpOk {X : Cx} {pins : List (Addr × Obj)} {σ : St} {H H' : Hp} {s : Shared} {b : Addr} (I : Inv X pins σ H s) (hb : s.heap.objs.size ≤ b) (hn : H' b = none) : FpOk X pins H' b := by
  refine ⟨hn, Nat.ne_of_gt (Nat.lt_of_lt_of_le I.lt hb), I.nofs hb, .inr (Nat.le_trans I.sz hb), fun x c e z => ?_, fun p hp z => ?_⟩
  · obtain ⟨v, q⟩ := I.cell x c e
    exact absurd (Nat.lt_of_lt_of_le q.lt (by rw [z]; exact hb)) (Nat.lt_irrefl _)
  · exact absurd (Nat.lt_of_lt_of_le (Heap.lt_size (I.pin p hp).1) (by rw [z]; exact hb)) (Nat.lt_irrefl _)
structure Turn (P : Program) (w : World) (K : PySem.W.Frag) (tg : Expr) (J : It) (fp : List Addr) (it : Addr) (tn : Nat → Heap → Prop) : Prop where
  mem : it ∈ fp
  obj : ∀ i h, tn i h → ∀ b ∈ fp, ∃ o, h.get? b = some o ∧ ∀ v, o.data ≠ .cell v
  keep : ∀ i h h', tn i h → (∀ b ∈ fp, ∀ o, h.get? b = some o → h'.get? b = some o) → tn i h'
  item : ∀ (X : Cx), X.prog = P → X.w = w → X.K = K → X.calm = true → ∀ (i : Nat) (pins : List (Addr × Obj)) (s : Shared) (σ : St) (H : Hp) (E : Value → Shared → Prop), Inv X pins σ H s → (∀ b ∈ fp, FpOk X pins H b) → tn i s.heap → J.go i H →
    wpAny (model P w) X.A (pyNext (.ref it)) (fun r s1 => ∃ u, r = some u ∧
      wpAny (model P w) X.A (letOwnedTupleGo tg (.ref it) u) (fun _ s2 => ∃ x H', Inv X pins σ H' s2 ∧ RelV x u ∧ J.yld i H x H' ∧ tn (i + 1) s2.heap ∧ ∀ b ∈ fp, H' b = none) E s1) E s
  done : ∀ (X : Cx), X.prog = P → X.w = w → X.K = K → X.calm = true → ∀ (i : Nat) (pins : List (Addr × Obj)) (s : Shared) (σ : St) (H : Hp) (E : Value → Shared → Prop), Inv X pins σ H s → (∀ b ∈ fp, FpOk X pins H b) → tn i s.heap → J.stop i H →
    wpAny (model P w) X.A (pyNext (.ref it)) (fun r s1 => r = none ∧ Inv X pins σ H s1) E s
  self : ∀ (A : Around) (i : Nat) (s : Shared) (Q : Value → Shared → Prop) (E : Value → Shared → Prop), tn i s.heap → Q (.ref it) s → wpAny (model P w) A (pyIter (.ref it)) Q E s
abbrev TI := St → Hp → (It → Hp → Prop) → Prop
/-- an iterator has come -/
def PIE (X : Cx) (pins : List (Addr × Obj)) (σ : St) (tg : Expr) (R : It → Hp → Prop) (itv : Value) (s2 : Shared) : Prop :=
  ∃ (it : Addr) (fp : List Addr) (tn : Nat → Heap → Prop) (J : It) (H' : Hp), itv = .ref it ∧ Inv X pins σ H' s2 ∧ Turn X.prog X.w X.K tg J fp it tn ∧ tn 0 s2.heap ∧ (∀ b ∈ fp, FpOk X pins H' b) ∧ R J H'
def PI (X : Cx) (tg iter : Expr) (wi : TI) : Prop :=
  ∀ (pins : List (Addr × Obj)) (s : Shared) (σ : St) (H : Hp) (R : It → Hp → Prop), Inv X pins σ H s → wi σ H R →
    wpAny (model X.prog X.w) X.A (eval iter X.env) (fun v s1 => wpAny (model X.prog X.w) X.A (pyIter v) (PIE X pins σ tg R) X.xe s1) X.xe s

/-- the step ahead of the store is nothing for an iterator that keeps no tuple -/
theorem go_of {M : Model} {A : Around} {E : Value → Shared → Prop} {s : Shared} {tg : Expr} {it : Addr} {u : Value} {o : Obj} {n : String} {vs : Array Value} {Q : Unit → Shared → Prop} (ho : s.heap.get? it = some o) (hc : o.cls = .type n) (hd : o.data = .fields vs)
    (hn : ["enumerate", "zip", "dict_itemiterator", "dict_reverseitemiterator", "odict_iterator", "itertools.zip_longest", "itertools.pairwise"].contains n = false) (hQ : Q () s) : wpAny M A (letOwnedTupleGo tg (.ref it) u) Q E s := by
  unfold letOwnedTupleGo
  cases tg <;> first
    | exact wpAny_pure hQ
    | (cases u <;> first
        | exact wpAny_pure hQ
        | (refine wpAny_bind (wpAny_load ho ?_)
           rw [hc, hd]
           show wpAny M A (if (["enumerate", "zip", "dict_itemiterator", "dict_reverseitemiterator", "odict_iterator", "itertools.zip_longest", "itertools.pairwise"].contains n && vs[0]? == some (rawInt _)) = true then _ else _) Q E s
           rw [if_neg (by intro h; rw [hn, Bool.false_and] at h; cases h)]
           exact wpAny_pure hQ))

/-- the list at a, as it stands at each turn (a loop may append to it) -/
def Itl (K : PySem.W.Frag) (a : Addr) : It :=
  ⟨fun i H => ∃ xs x, SqL K H a xs ∧ xs[i]? = some x, fun i H x H' => H' = H ∧ ∀ xs, SqL K H a xs → xs[i]? = some x, fun i H => ∃ xs, SqL K H a xs ∧ xs.length ≤ i⟩
def Itt (K : PySem.W.Frag) (a : Addr) : It :=
  ⟨fun i H => ∃ xs x, SqT K H a xs ∧ xs[i]? = some x, fun i H x H' => H' = H ∧ ∀ xs, SqT K H a xs → xs[i]? = some x, fun i H => ∃ xs, SqT K H a xs ∧ xs.length ≤ i⟩
/-- lo, lo + 1, .. (n of them) -/
def Itr (lo : Int) (n : Nat) : It := ⟨fun i _ => i < n, fun i H x H' => H' = H ∧ x = .int (lo + i), fun i _ => n ≤ i⟩
theorem turn_list {P : Program} {w : World} {K : PySem.W.Frag} {tg : Expr} (a it : Addr) : Turn P w K tg (Itl K a) [it] it (fun i h => h.IsListIter it a i) where
  mem := by simp
  obj := fun i h st b hb => by
    have e : b = it := by simpa using hb
    subst e
    obtain ⟨o, e, c, d⟩ := st
    exact ⟨o, e, fun v z => by rw [d] at z; cases z⟩
  keep := fun i h h' st k => st.at fun o e => k it (by simp) o e
  item := by
    intro X hP hw hK hc i pins s σ H E I hf st hg
    subst hP hw hK
    obtain ⟨xs, x, hq, hx⟩ := hg
    obtain ⟨its, rv, p, hz⟩ := I.list hq
    obtain ⟨u, hu, ru⟩ := rv.get hx
    obtain ⟨f0, f1, f2, f3, f4, f5⟩ := hf it (by simp)
    refine wpAny_pyNext_list_item st p.isList (x := u) (by simpa using hu) fun h' st' sb => ?_
    have I1 : Inv X pins σ H { s with heap := h' } := I.turned (t' := s.toks) (fun b o hb e => (sb.2 b hb).trans e) f0 f1 f3 f4 f5
    obtain ⟨o, e, c, d⟩ := id st'
    exact ⟨u, rfl, go_of (s := { s with heap := h' }) e c d (by decide) ⟨x, H, I1, ru, ⟨rfl, fun ys hy => by rw [I.list_inj hy hq]; exact hx⟩, st', fun b hb => (hf b hb).1⟩⟩
  done := by
    intro X hP hw hK hc i pins s σ H E I hf st hg
    subst hP hw hK
    obtain ⟨xs, hq, hx⟩ := hg
    obtain ⟨its, rv, p, hz⟩ := I.list hq
    obtain ⟨f0, f1, f2, f3, f4, f5⟩ := hf it (by simp)
    have hl := rv.length
    exact wpAny_pyNext_list_end (I.ok.hd hc) st p.isList (by simp; omega) fun h' eb => ⟨rfl, I.turned (t' := s.toks) (fun b o hb e => eb b o hb e) f0 f1 f3 f4 f5⟩
  self := fun _ _ _ _ _ st h => wpAny_pyIter_listiter st h
theorem turn_tuple {P : Program} {w : World} {K : PySem.W.Frag} {tg : Expr} (a it : Addr) : Turn P w K tg (Itt K a) [it] it (fun i h => h.IsTupleIter it a i) where
  mem := by simp
  obj := fun i h st b hb => by
    have e : b = it := by simpa using hb
    subst e
    obtain ⟨o, e, c, d⟩ := st
    exact ⟨o, e, fun v z => by rw [d] at z; cases z⟩
  keep := fun i h h' st k => st.at fun o e => k it (by simp) o e
  item := by
    intro X hP hw hK hc i pins s σ H E I hf st hg
    subst hP hw hK
    obtain ⟨xs, x, hq, hx⟩ := hg
    obtain ⟨its, rv, p, hz⟩ := I.tuple hq
    obtain ⟨u, hu, ru⟩ := rv.get hx
    obtain ⟨f0, f1, f2, f3, f4, f5⟩ := hf it (by simp)
    refine wpAny_pyNext_tuple_item st (show s.heap.IsTuple a its.toArray from p) (x := u) (by simpa using hu) fun h' st' sb => ?_
    have I1 : Inv X pins σ H { s with heap := h' } := I.turned (t' := s.toks) (fun b o hb e => (sb.2 b hb).trans e) f0 f1 f3 f4 f5
    obtain ⟨o, e, c, d⟩ := id st'
    exact ⟨u, rfl, go_of (s := { s with heap := h' }) e c d (by decide) ⟨x, H, I1, ru, ⟨rfl, fun ys hy => by rw [I.tuple_inj hy hq]; exact hx⟩, st', fun b hb => (hf b hb).1⟩⟩
  done := by
    intro X hP hw hK hc i pins s σ H E I hf st hg
    subst hP hw hK
    obtain ⟨xs, hq, hx⟩ := hg
    obtain ⟨its, rv, p, hz⟩ := I.tuple hq
    obtain ⟨f0, f1, f2, f3, f4, f5⟩ := hf it (by simp)
    have hl := rv.length
    exact wpAny_pyNext_tuple_end (I.ok.hd hc) st (show s.heap.IsTuple a its.toArray from p) (by simp; omega) fun h' eb => ⟨rfl, I.turned (t' := s.toks) (fun b o hb e => eb b o hb e) f0 f1 f3 f4 f5⟩
  self := fun _ _ _ _ _ st h => wpAny_pyIter_tupleiter st h
theorem turn_range {P : Program} {w : World} {K : PySem.W.Frag} {tg : Expr} (it : Addr) (lo : Int) (n : Nat) : Turn P w K tg (Itr lo n) [it] it (fun i h => IsRangeIter h it (lo + (i : Nat) * 1) ((n : Int) - (i : Nat)) 1) where
  mem := by simp
  obj := fun i h st b hb => by
    have e : b = it := by simpa using hb
    subst e
    exact ⟨_, st, fun v z => by
      have z' : Data.fields _ = Data.cell v := z
      cases z'⟩
  keep := fun i h h' st k => k it (by simp) _ st
  item := by
    intro X hP hw hK hc i pins s σ H E I hf st hg
    subst hP hw hK
    obtain ⟨f0, f1, f2, f3, f4, f5⟩ := hf it (by simp)
    have W := Walks.range (prog := X.prog) (w := X.w) (I.ok.hd hc) it lo 1 n
    refine W.item i s _ _ hg st fun v h' tk hv st' kk => ?_
    obtain ⟨t, rfl⟩ := hv
    have I1 : Inv X pins σ H { s with heap := h', toks := tk } := I.turned (fun b o hb e => kk b o (by simpa using hb) e) f0 f1 f3 f4 f5
    refine ⟨_, rfl, go_of (s := { s with heap := h', toks := tk }) (n := "range_iterator") st' rfl rfl (by decide) ⟨.int (lo + i), H, I1, ⟨t, ?_⟩, ⟨rfl, rfl⟩, st', fun b hb => (hf b hb).1⟩⟩
    rw [Int.mul_one]
  done := by
    intro X hP hw hK hc i pins s σ H E I hf st hg
    subst hP hw hK
    obtain ⟨f0, f1, f2, f3, f4, f5⟩ := hf it (by simp)
    exact wpAny_pyNext_range_end (I.ok.hd hc) st (by have : n ≤ i := hg; omega) fun h' eb => ⟨rfl, I.turned (t' := s.toks) (fun b o hb e => eb b o hb e) f0 f1 f3 f4 f5⟩
  self := fun _ _ _ _ _ st h => wpAny_pyIter_rangeiter st h
end L2

namespace L2
open PySem PySem.Spec PyProof.Rows
section
variable {X : Cx} {tg : Expr}
def iList (K : PySem.W.Frag) (tl : TE) : TI := fun σ H R => tl σ H fun x H1 => ∃ a, x = .ref a ∧ (∃ xs, SqL K H1 a xs) ∧ R (Itl K a) H1
def iTup (K : PySem.W.Frag) (tl : TE) : TI := fun σ H R => tl σ H fun x H1 => ∃ a, x = .ref a ∧ (∃ xs, SqT K H1 a xs) ∧ R (Itt K a) H1
theorem pi_list {l : Expr} {tl : TE} (hl : PE X l tl) : PI X tg l (iList X.K tl) := by
  intro pins s σ H R I h
  refine thn (hl pins s σ H _ I h) fun v s1 ⟨x, H1, I1, r1, q1⟩ => ?_
  obtain ⟨a, e, ⟨xs, hq⟩, q⟩ := q1
  subst e
  cases r1
  obtain ⟨its, rv, p, hz⟩ := I1.list hq
  refine wpAny_pyIter_list p.isList ?_
  refine ⟨s1.heap.objs.size, [s1.heap.objs.size], _, _, H1, rfl, I1.kept (t' := s1.toks) fun b o e => Heap.get?_push_of_some _ e, turn_list a _, ⟨_, Heap.get?_push_size _ rfl, rfl, rfl⟩, fun b hb => ?_, q⟩
  have e : b = s1.heap.objs.size := by simpa using hb
  subst e
  exact I1.fpOk (Nat.le_refl _) (I1.hok.fresh (Nat.le_refl _))
theorem pi_tup {l : Expr} {tl : TE} (hl : PE X l tl) : PI X tg l (iTup X.K tl) := by
  intro pins s σ H R I h
  refine thn (hl pins s σ H _ I h) fun v s1 ⟨x, H1, I1, r1, q1⟩ => ?_
  obtain ⟨a, e, ⟨xs, hq⟩, q⟩ := q1
  subst e
  cases r1
  obtain ⟨its, rv, p, hz⟩ := I1.tuple hq
  refine wpAny_pyIter_tuple (show s1.heap.IsTuple a its.toArray from p) ?_
  refine ⟨s1.heap.objs.size, [s1.heap.objs.size], _, _, H1, rfl, I1.kept (t' := s1.toks) fun b o e => Heap.get?_push_of_some _ e, turn_tuple a _, ⟨_, Heap.get?_push_size _ rfl, rfl, rfl⟩, fun b hb => ?_, q⟩
  have e : b = s1.heap.objs.size := by simpa using hb
  subst e
  exact I1.fpOk (Nat.le_refl _) (I1.hok.fresh (Nat.le_refl _))
/-- a range object just made, walked -/
theorem range_it {pins : List (Addr × Obj)} {σ : St} {H : Hp} {s : Shared} {R : It → Hp → Prop} {E : Value → Shared → Prop} {lo hi : Int} {t u v : Tok} {tk : Nat} (I : Inv X pins σ H s) (h1 : -(2 ^ 62) ≤ lo) (h2 : lo < 2 ^ 62) (h3 : -(2 ^ 62) ≤ hi) (h4 : hi < 2 ^ 62)
    (q : R (Itr lo (hi - lo).toNat) H) : wpAny (model X.prog X.w) X.A (pyIter (.ref s.heap.objs.size)) (PIE X pins σ tg R) E { s with heap := s.heap.push { cls := .type "range", data := .fields #[.int lo t, .int hi u, .int 1 v] }, toks := tk } := by
  refine wpAny_pyIter_range (IsRange.new ..) (small_one h1 h2 h3 h4) ?_
  have I1 : Inv X pins σ H { s with heap := s.heap.push { cls := .type "range", data := .fields #[.int lo t, .int hi u, .int 1 v] }, toks := tk } := I.kept fun b o e => Heap.get?_push_of_some _ e
  refine ⟨(s.heap.push { cls := .type "range", data := .fields #[.int lo t, .int hi u, .int 1 v] }).objs.size, [(s.heap.push { cls := .type "range", data := .fields #[.int lo t, .int hi u, .int 1 v] }).objs.size], _, _, H, rfl,
    I1.kept (t' := tk) fun b o e => Heap.get?_push_of_some _ e, turn_range _ lo (hi - lo).toNat, ?_, fun b hb => ?_, q⟩
  · have e1 : lo + ((0 : Nat) : Int) * 1 = lo := by simp
    have e2 : (((hi - lo).toNat : Nat) : Int) - ((0 : Nat) : Int) = Builtin.Range.rangeSize lo hi 1 := by rw [rangeSize_one]; split <;> omega
    show IsRangeIter _ _ (lo + ((0 : Nat) : Int) * 1) ((((hi - lo).toNat : Nat) : Int) - ((0 : Nat) : Int)) 1
    rw [e1, e2]
    exact Heap.get?_push_size _ rfl
  · have e : b = (s.heap.push { cls := .type "range", data := .fields #[.int lo t, .int hi u, .int 1 v] }).objs.size := by simpa using hb
    subst e
    exact I1.fpOk (Nat.le_refl _) (I1.hok.fresh (Nat.le_refl _))
def iRng1 (ta : TA) : TI := fun σ H R => ta σ H fun vs H1 => ∃ j : Int, vs = [.int j] ∧ -(2 ^ 62) ≤ j ∧ j < 2 ^ 62 ∧ R (Itr 0 j.toNat) H1
theorem pi_range1 {a : Expr} {ta : TA} {p pos : Pos} (hg : Gl X "range") (hm : X.mg "range" = none) (ha : PA X [a] ta) (hs : starEach [a] X.env = [(false, eval a X.env)] := by rfl) : PI X tg (.Call (.Name "range" p) [a] [] pos) (iRng1 ta) := by
  intro pins s σ H R I h
  refine Call_ (ld_blt I hg hm boot_range (PyProof.Rows.callWith_type1 (thn (ha pos pins s σ H _ I h) fun us s1 ⟨vs, H1, I1, r1, q1⟩ => ?_) hs rfl))
  obtain ⟨j, e, q1, q2, q⟩ := q1
  subst e
  cases r1 with
  | cons r rr =>
    cases rr
    obtain ⟨t, rfl⟩ := r
    exact call_range_1 (range_it I1 (by omega) (by omega) q1 q2 (by simpa using q))
/-! ### for -/
/-- W: the invariant by the turn and a measure; N: what the body is to reach -/
def tFor (wi : TI) (g : TG) (tb : TS) : TS := fun D σ H => wi σ H fun J H1 => ∃ W : Nat → Nat → St → Hp → Prop, (∃ m, W 0 m σ H1) ∧ ∀ i m σ H, W i m σ H →
  (J.stop i H ∧ D.nx σ H) ∨ (J.go i H ∧ ∃ N : St → Hp → Prop, (∀ σ' H', N σ' H' → ∃ m', m' < m ∧ W (i + 1) m' σ' H') ∧ ∀ x H', J.yld i H x H' → g x σ H' fun σ2 H2 => tb { D with nx := N, ct := N, bk := D.nx } σ2 H2)
/-- the records at fp as they stand -/
def pinsAt (fp : List Addr) (h : Heap) : List (Addr × Obj) := fp.filterMap fun b => (h.get? b).map fun o => (b, o)
theorem mem_pinsAt {fp : List Addr} {h : Heap} {b : Addr} {o : Obj} (hb : b ∈ fp) (e : h.get? b = some o) : (b, o) ∈ pinsAt fp h := List.mem_filterMap.mpr ⟨b, hb, by rw [e]; rfl⟩
theorem of_pinsAt {fp : List Addr} {h : Heap} {p : Addr × Obj} (hp : p ∈ pinsAt fp h) : p.1 ∈ fp ∧ h.get? p.1 = some p.2 := by
  obtain ⟨b, hb, e⟩ := List.mem_filterMap.mp hp
  cases q : h.get? b with
  | none => rw [q] at e; cases e
  | some o =>
    rw [q] at e
    have e' : (b, o) = p := Option.some.inj e
    subst e'
    exact ⟨hb, q⟩
theorem Inv.pinned {pins : List (Addr × Obj)} {σ : St} {H : Hp} {s : Shared} {fp : List Addr} (I : Inv X pins σ H s) (hf : ∀ b ∈ fp, FpOk X pins H b) (ho : ∀ b ∈ fp, ∃ o, s.heap.get? b = some o ∧ ∀ v, o.data ≠ .cell v) : Inv X (pins ++ pinsAt fp s.heap) σ H s :=
  I.pins_of fun p hp => (List.mem_append.mp hp).elim (fun z => I.pin p (List.mem_append_right _ z)) fun z => by
    obtain ⟨hb, e⟩ := of_pinsAt z
    obtain ⟨f0, f1, f2, _⟩ := hf p.1 hb
    obtain ⟨o, e', d⟩ := ho p.1 hb
    rw [e] at e'; cases e'
    exact ⟨e, f0, f1, f2, d⟩
theorem Inv.unpinned {pins pl : List (Addr × Obj)} {σ : St} {H : Hp} {s : Shared} (I : Inv X (pins ++ pl) σ H s) : Inv X pins σ H s := I.pins_of fun p hp => I.pin p (List.mem_append_right _ (List.mem_append_left _ hp))
theorem ps_for {iter : Expr} {body : List Stmt} {wi : TI} {g : TG} {tb : TS} {pos : Pos} (hp : PassesOwn (model X.prog X.w) X.A X.env X.xe) (hc : X.calm = true) (hi : PI X tg iter wi) (hg : PG X tg g) (hb : PSs X body tb)
    (hs : ∀ x, foldedSetIterable iter X.env x = pure x := by intro _; rfl) : PS X (.For tg iter body [] pos) (tFor wi g tb) := by
  intro pins s σ H D I h
  refine wpAny_For (thn (hi pins s σ H _ I h) fun v s1 h1 => thn h1 fun itv s2 h2 => ?_) hs
  obtain ⟨it, fp, tn, J, H2, e, I2, T, st2, f2, W, ⟨m0, w0⟩, turn⟩ := h2
  subst e
  -- what stays true of the iterator's objects through the loop
  have stat : ∀ {H' : Hp}, (∀ b ∈ fp, H' b = none) → ∀ b ∈ fp, FpOk X pins H' b := fun hn b hb => ⟨hn b hb, (f2 b hb).2⟩
  refine codeAny_forLoop_any (fun n s' => ∃ i σ' H', Inv X pins σ' H' s' ∧ tn i s'.heap ∧ (∀ b ∈ fp, H' b = none) ∧ W i n σ' H') ?_ m0 ⟨0, σ, H2, I2, st2, fun b hb => (f2 b hb).1, w0⟩
  rintro n s3 ⟨i, σ3, H3, I3, st3, fr3, w3⟩
  rcases turn i n σ3 H3 w3 with ⟨stop, qn⟩ | ⟨go, N, hN, step⟩
  · refine wpAny_passesOwn hp (thn (T.done X rfl rfl rfl hc i pins s3 σ3 H3 X.xe I3 (stat fr3) st3 stop) fun r s4 ⟨hr, I4⟩ => ?_)
    subst hr
    exact wpAny_execs_nil ⟨σ3, H3, I4, qn⟩
  · refine wpAny_passesOwn hp (thn (T.item X rfl rfl rfl hc i pins s3 σ3 H3 X.xe I3 (stat fr3) st3 go) fun r s4 ⟨u, hr, h4⟩ => ?_)
    subst hr
    refine wpAny_passesOwn hp (thn h4 fun _ s5 ⟨x, H5, I5, r5, y5, st5, fr5⟩ => ?_)
    have I5' := I5.pinned (stat fr5) (T.obj _ _ st5)
    refine wpAny_passesOwn hp (thn (hg _ s5 σ3 H5 x u _ I5' r5 (step x H5 y5)) fun _ s6 ⟨σ6, H6, I6, q6⟩ => ?_)
    refine wpAny_passesOwn hp (thn (hb _ s6 σ6 H6 _ I6 q6) fun f s7 q7 => ?_)
    have again : ∀ {σ7 : St} {H7 : Hp}, Inv X (pins ++ pinsAt fp s5.heap) σ7 H7 s7 → N σ7 H7 → ∃ m, m < n ∧ ∃ i σ' H', Inv X pins σ' H' s7 ∧ tn i s7.heap ∧ (∀ b ∈ fp, H' b = none) ∧ W i m σ' H' := fun {σ7 H7} I7 n7 => by
      obtain ⟨m', hm, w7⟩ := hN σ7 H7 n7
      refine ⟨m', hm, i + 1, σ7, H7, I7.unpinned, T.keep _ _ _ st5 fun b hb o e => (I7.pin (b, o) (List.mem_append_right _ (List.mem_append_right _ (mem_pinsAt hb e)))).1, fun b hb => ?_, w7⟩
      obtain ⟨o, e, d⟩ := T.obj _ _ st5 b hb
      exact (I7.pin (b, o) (List.mem_append_right _ (List.mem_append_right _ (mem_pinsAt hb e)))).2.1
    cases f with
    | next => obtain ⟨σ7, H7, I7, n7⟩ := q7; exact again I7 n7
    | cont => obtain ⟨σ7, H7, I7, n7⟩ := q7; exact again I7 n7
    | brk => obtain ⟨σ7, H7, I7, q7⟩ := q7; exact ⟨σ7, H7, I7.unpinned, q7⟩
    | ret v => obtain ⟨x7, σ7, H7, I7, r7, q7⟩ := q7; exact ⟨x7, σ7, H7, I7.unpinned, r7, q7⟩
end

/-! ### the forms one uses -/
end L2

namespace L2
open PySem PySem.Spec PyProof.Rows

abbrev R2 := V → V → Hp → VK → Prop
/-- a two-place operation on values: f is binaryOp op, inplaceOp op or compareOp op -/
def OpR (X : Cx) (f : Value → Value → Sem Value) (r : R2) : Prop :=
  ∀ (pins : List (Addr × Obj)) (s : Shared) (σ : St) (H : Hp) (x y : V) (v u : Value) (Q : VK), Inv X pins σ H s → RelV x v → RelV y u → r x y H Q →
    wpAny (model X.prog X.w) X.A (f v u) (EP X pins σ Q) X.xe s
/-- a one-place operation -/
def UnR (X : Cx) (f : Value → Sem Value) (r : V → Hp → VK → Prop) : Prop :=
  ∀ (pins : List (Addr × Obj)) (s : Shared) (σ : St) (H : Hp) (x : V) (v : Value) (Q : VK), Inv X pins σ H s → RelV x v → r x H Q →
    wpAny (model X.prog X.w) X.A (f v) (EP X pins σ Q) X.xe s
/-- a call of a value that is known (a builtin, a type) with values -/
def CallR (X : Cx) (f : Value) (r : List V → Hp → VK → Prop) : Prop :=
  ∀ (pins : List (Addr × Obj)) (s : Shared) (σ : St) (H : Hp) (xs : List V) (us : List Value) (Q : VK), Inv X pins σ H s → Vals xs us → r xs H Q →
    wpAny (model X.prog X.w) X.A (call f us) (EP X pins σ Q) X.xe s
/-- a value's truth -/
def TruR (X : Cx) (r : V → Hp → (Bool → Hp → Prop) → Prop) : Prop :=
  ∀ (pins : List (Addr × Obj)) (s : Shared) (σ : St) (H : Hp) (x : V) (v : Value) (Q : Bool → Hp → Prop), Inv X pins σ H s → RelV x v → r x H Q →
    wpAny (model X.prog X.w) X.A (truthy v) (TP X pins σ Q) X.xe s

def tOp (r : R2) (ta tb : TE) : TE := fun σ H Q => ta σ H fun x H1 => tb σ H1 fun y H2 => r x y H2 Q
def tUn (r : V → Hp → VK → Prop) (ta : TE) : TE := fun σ H Q => ta σ H fun x H1 => r x H1 Q
/-- ints in, under C, and a value out -/
def rI (C : Int → Int → Prop) (g : Int → Int → V) : R2 := fun x y H Q => ∃ i j, x = .int i ∧ y = .int j ∧ C i j ∧ Q (g i j) H
def rI0 (g : Int → Int → V) : R2 := fun x y H Q => ∃ i j, x = .int i ∧ y = .int j ∧ Q (g i j) H
def rU (g : Int → V) : V → Hp → VK → Prop := fun x H Q => ∃ i, x = .int i ∧ Q (g i) H

section
variable {X : Cx} {a b c : Expr} {ta tb tc : TE} {pos : Pos}

theorem binT (ha : PE X a ta) (hb : PE X b tb) {pins : List (Addr × Obj)} {s : Shared} {σ : St} {H : Hp} {R : V → V → Hp → Prop} (I : Inv X pins σ H s)
    (h : ta σ H fun x H1 => tb σ H1 fun y H2 => R x y H2) {Q : Value → Shared → Prop} {f : Value → Value → Sem Value}
    (hf : ∀ v u s2 x y H2, Inv X pins σ H2 s2 → RelV x v → RelV y u → R x y H2 → wpAny (model X.prog X.w) X.A (f v u) Q X.xe s2) :
    wpAny (model X.prog X.w) X.A (eval a X.env) (fun v s₁ => wpAny (model X.prog X.w) X.A (eval b X.env) (fun u s₂ => wpAny (model X.prog X.w) X.A (f v u) Q X.xe s₂) X.xe s₁) X.xe s := by
  refine thn (ha pins s σ H _ I h) fun v s1 ⟨x, H1, I1, r1, q1⟩ => ?_
  refine thn (hb pins s1 σ H1 _ I1 q1) fun u s2 ⟨y, H2, I2, r2, q2⟩ => ?_
  exact hf v u s2 x y H2 I2 r1 r2 q2

theorem pe_op {op : Operator} {r : R2} (ho : OpR X (binaryOp op) r) (ha : PE X a ta) (hb : PE X b tb) : PE X (.BinOp a op b pos) (tOp r ta tb) := by
  intro pins s σ H Q I h
  exact wpAny_BinOp (binT ha hb I h fun v u s2 x y H2 I2 rx ry q => ho pins s2 σ H2 x y v u Q I2 rx ry q)
theorem pe_un {op : UnaryOp} {r : V → Hp → VK → Prop} (ho : UnR X (unaryOp op) r) (ha : PE X a ta) : PE X (.UnaryOp op a pos) (tUn r ta) := by
  intro pins s σ H Q I h
  exact UnaryOp_ (thn (ha pins s σ H _ I h) fun v s1 ⟨x, H1, I1, r1, q1⟩ => ho pins s1 σ H1 x v Q I1 r1 q1)
/-! ### ints -/
theorem opI {f : Value → Value → Sem Value} {C : Int → Int → Prop} {g : Int → Int → Int}
    (rule : ∀ (i j : Int) (t u : Tok) (s : Shared) (Q : Value → Shared → Prop) (E : Value → Shared → Prop), C i j → Q (.int (g i j) s.toks) { s with toks := s.toks + 1 } → wpAny (model X.prog X.w) X.A (f (.int i t) (.int j u)) Q E s) :
    OpR X f (rI C fun i j => .int (g i j)) := by
  intro pins s σ H x y v u Q I rx ry h
  obtain ⟨i, j, rfl, rfl, hc, q⟩ := h
  obtain ⟨t, rfl⟩ := rx
  obtain ⟨t', rfl⟩ := ry
  exact rule i j t t' s _ _ hc ⟨.int (g i j), H, I.tok _, ⟨_, rfl⟩, q⟩
theorem opI0 {f : Value → Value → Sem Value} {g : Int → Int → Int}
    (rule : ∀ (i j : Int) (t u : Tok) (s : Shared) (Q : Value → Shared → Prop) (E : Value → Shared → Prop), Q (.int (g i j) s.toks) { s with toks := s.toks + 1 } → wpAny (model X.prog X.w) X.A (f (.int i t) (.int j u)) Q E s) :
    OpR X f (rI0 fun i j => .int (g i j)) := by
  intro pins s σ H x y v u Q I rx ry h
  obtain ⟨i, j, rfl, rfl, q⟩ := h
  obtain ⟨t, rfl⟩ := rx
  obtain ⟨t', rfl⟩ := ry
  exact rule i j t t' s _ _ ⟨.int (g i j), H, I.tok _, ⟨_, rfl⟩, q⟩
theorem opB0 {f : Value → Value → Sem Value} {g : Int → Int → Bool}
    (rule : ∀ (i j : Int) (t u : Tok) (s : Shared) (Q : Value → Shared → Prop) (E : Value → Shared → Prop), Q (.bool (g i j)) s → wpAny (model X.prog X.w) X.A (f (.int i t) (.int j u)) Q E s) :
    OpR X f (rI0 fun i j => .bl (g i j)) := by
  intro pins s σ H x y v u Q I rx ry h
  obtain ⟨i, j, rfl, rfl, q⟩ := h
  obtain ⟨t, rfl⟩ := rx
  obtain ⟨t', rfl⟩ := ry
  exact rule i j t t' s _ _ ⟨.bl (g i j), H, I, rfl, q⟩

def CPow (i j : Int) : Prop := 0 ≤ j ∧ j ≤ 1000000 ∧ i.natAbs < 2 ^ 64
def CMul (i j : Int) : Prop := (-(2 ^ 64) < i ∧ i < 2 ^ 64) ∨ (-(2 ^ 64) < j ∧ j < 2 ^ 64)
theorem CMul.ok {i j : Int} (h : CMul i j) : IntMulOk i j := by
  rcases h with ⟨h1, h2⟩ | ⟨h1, h2⟩
  · exact .of_left (intBits_le_64 h1 h2)
  · exact .of_right (intBits_le_64 h1 h2)
theorem op_add : OpR X (binaryOp .Add) (rI0 fun i j => .int (i + j)) := opI0 fun _ _ _ _ _ _ _ q => add_int q
theorem op_sub : OpR X (binaryOp .Sub) (rI0 fun i j => .int (i - j)) := opI0 fun _ _ _ _ _ _ _ q => sub_int q
theorem op_mul : OpR X (binaryOp .Mult) (rI CMul fun i j => .int (i * j)) := opI fun _ _ _ _ _ _ _ hc q => mul_int q hc.ok
/-- % by a positive divisor of any size -/
theorem op_mod : OpR X (binaryOp .Mod) (rI (fun _ j => 0 < j) fun i j => .int (i % j)) := opI fun i j _ _ _ _ _ hc q => by
  have h1 : (0 : Int) < j := hc
  exact mod_int' (by omega) (by rw [Int.fmod_eq_emod_of_nonneg i (by omega)]; exact q)
theorem op_pow : OpR X (binaryOp .Pow) (rI CPow fun i j => .int (i ^ j.toNat)) := opI fun _ _ _ _ _ _ _ hc q => pow_int_small hc.1 hc.2.1 hc.2.2 q
theorem unI {f : Value → Sem Value} {g : Int → Int}
    (rule : ∀ (i : Int) (t : Tok) (s : Shared) (Q : Value → Shared → Prop) (E : Value → Shared → Prop), Q (.int (g i) s.toks) { s with toks := s.toks + 1 } → wpAny (model X.prog X.w) X.A (f (.int i t)) Q E s) :
    UnR X f (rU fun i => .int (g i)) := by
  intro pins s σ H x v Q I rx h
  obtain ⟨i, rfl, q⟩ := h
  obtain ⟨t, rfl⟩ := rx
  exact rule i t s _ _ ⟨.int (g i), H, I.tok _, ⟨_, rfl⟩, q⟩
theorem un_neg : UnR X (unaryOp .USub) (rU fun i => .int (-i)) := unI fun _ _ _ _ _ q => neg_int q
end

/-! ### comparisons -/
section
variable {X : Cx} {a b c : Expr} {ta tb tc : TE} {pos : Pos}
theorem fin_bl {pins : List (Addr × Obj)} {σ : St} {H : Hp} {s : Shared} {Q : VK} {k k' : Bool} (I : Inv X pins σ H s) (q : Q (.bl k) H) (e : k = k') : EP X pins σ Q (.bool k') s := by
  subst e
  exact ⟨.bl k, H, I, rfl, q⟩
theorem op_lt : OpR X (compareOp .Lt) (rI0 fun i j => .bl (decide (i < j))) := opB0 fun _ _ _ _ _ _ _ q => lt_int q
theorem op_le : OpR X (compareOp .LtE) (rI0 fun i j => .bl (decide (i ≤ j))) := opB0 fun _ _ _ _ _ _ _ q => le_int q
theorem op_gt : OpR X (compareOp .Gt) (rI0 fun i j => .bl (decide (j < i))) := opB0 fun _ _ _ _ _ _ _ q => gt_int q
theorem op_ge : OpR X (compareOp .GtE) (rI0 fun i j => .bl (decide (j ≤ i))) := opB0 fun _ _ _ _ _ _ _ q => ge_int q
/-- is None, is not None: the right side a value none -/
theorem op_isN : OpR X (compareOp .Is) (fun x y H Q => y = .non ∧ Q (.bl (decide (x = .non))) H) := by
  intro pins s σ H x y v u Q I rx ry h
  obtain ⟨rfl, q⟩ := h
  cases ry
  refine is_none_gen (fin_bl I q ?_)
  cases x <;> first
    | (cases rx; rfl)
    | (obtain ⟨t, rfl⟩ := rx; rfl)
theorem op_notN : OpR X (compareOp .IsNot) (fun x y H Q => y = .non ∧ Q (.bl (!decide (x = .non))) H) := by
  intro pins s σ H x y v u Q I rx ry h
  obtain ⟨rfl, q⟩ := h
  cases ry
  refine isnot_none_gen (fin_bl I q ?_)
  cases x <;> first
    | (cases rx; rfl)
    | (obtain ⟨t, rfl⟩ := rx; rfl)

theorem nomark (b : Expr) {op : CmpOp} (h : op ≠ .In := by decide) (h2 : op ≠ .NotIn := by decide) : behindInMarks op b = false := by
  have e1 : (op == CmpOp.In) = false := by cases op <;> first | rfl | exact absurd rfl h
  have e2 : (op == CmpOp.NotIn) = false := by cases op <;> first | rfl | exact absurd rfl h2
  cases b <;> simp [behindInMarks, e1, e2]
/-- a comparison as a value; hm: nomark b, or (for in, not in) by with_unfolding_all rfl -/
theorem pe_cmpR {op : CmpOp} {r : R2} (ho : OpR X (compareOp op) r) (ha : PE X a ta) (hb : PE X b tb) (hm : behindInMarks op b = false) : PE X (.Compare a [op] [b] pos) (tOp r ta tb) := by
  intro pins s σ H Q I h
  exact wpAny_Compare1 (binT ha hb I h fun v u s2 x y H2 I2 rx ry q => ho pins s2 σ H2 x y v u Q I2 rx ry q) hm
/-- a reading of a value as a test -/
def tTest (t : TE) : TT := fun σ H Q => t σ H fun x H' => ∃ k, x = .bl k ∧ Q k H'
theorem pt_cmpR {op : CmpOp} {r : R2} (ho : OpR X (compareOp op) r) (ha : PE X a ta) (hb : PE X b tb) (hm : behindInMarks op b = false) : PT X (.Compare a [op] [b] pos) (tTest (tOp r ta tb)) := by
  intro pins s σ H Q I h
  refine wpAny_isTrue_Compare1 (thn (ha pins s σ H _ I h) fun v s1 ⟨x, H1, I1, r1, q1⟩ => thn (hb pins s1 σ H1 _ I1 q1) fun u s2 ⟨y, H2, I2, r2, q2⟩ =>
    thn (ho pins s2 σ H2 x y v u _ I2 r1 r2 q2) fun c s3 ⟨z, H3, I3, r3, k, e, q3⟩ => ?_) hm
  subst e
  cases r3
  exact wpAny_truthy_bool ⟨H3, I3, q3⟩
/-! ### truth -/
/-- a value's truth by the abstract heap -/
def TruV (K : PySem.W.Frag) (x : V) (H : Hp) (k : Bool) : Prop :=
  match x with
  | .non => k = false
  | .bl b => k = b
  | .int i => k = (i != 0)
  | .str y => y.length ≤ sizeLine ∧ k = ((y.length : Int) != 0)
  | .byt y => y.size ≤ sizeLine ∧ k = ((y.size : Int) != 0)
  | .ref p => (∃ xs, SqL K H p xs ∧ k = !xs.isEmpty) ∨ (∃ xs, SqT K H p xs ∧ k = !xs.isEmpty) ∨ ∃ kvs, H p = some (.dK kvs) ∧ k = !kvs.isEmpty
  | _ => False
theorem isEmpty_kv {κ : Type} {kvs : List (κ × V)} {vs : List (κ × Value)} (r : KV kvs vs) : (!vs.isEmpty) = !kvs.isEmpty := by
  cases r <;> rfl
theorem isEmpty_of {xs : List V} {its : List Value} (r : Vals xs its) : (!its.toArray.isEmpty) = !xs.isEmpty := by
  cases r <;> simp
theorem line63 : (sizeLine : Nat) < 2 ^ 63 := by rw [sizeLine_eq]; decide
theorem tru_ok : TruR X (fun x H Q => ∃ k, TruV X.K x H k ∧ Q k H) := by
  intro pins s σ H x v Q I rx h
  obtain ⟨k, e, q⟩ := h
  have hl := line63
  have hs : sizeLine = 16777216 := sizeLine_eq
  cases x with
  | non =>
    cases rx
    have e' : k = false := e
    subst e'
    exact truthy_none ⟨H, I, q⟩
  | bl b =>
    cases rx
    have e' : k = b := e
    subst e'
    exact wpAny_truthy_bool ⟨H, I, q⟩
  | int i =>
    obtain ⟨t, rfl⟩ := rx
    have e' : k = (i != 0) := e
    subst e'
    exact PySem.P.truthy_int ⟨H, I, q⟩
  | str y =>
    obtain ⟨t, rfl⟩ := rx
    obtain ⟨hy, e'⟩ : y.length ≤ sizeLine ∧ k = ((y.length : Int) != 0) := e
    subst e'
    exact PySem.P.truthy_str (by omega) ⟨H, I.tok _, q⟩
  | byt y =>
    obtain ⟨t, rfl⟩ := rx
    obtain ⟨hy, e'⟩ : y.size ≤ sizeLine ∧ k = ((y.size : Int) != 0) := e
    subst e'
    exact PySem.W.truthy_bytes (by omega) ⟨H, I.tok _, q⟩
  | ref p =>
    cases rx
    have e' : (∃ xs, SqL X.K H p xs ∧ k = !xs.isEmpty) ∨ (∃ xs, SqT X.K H p xs ∧ k = !xs.isEmpty) ∨ ∃ kvs, H p = some (.dK kvs) ∧ k = !kvs.isEmpty := e
    rcases e' with ⟨xs, hx, e'⟩ | ⟨xs, hx, e'⟩ | ⟨kvs, hx, e'⟩
    · subst e'
      obtain ⟨its, r, pl, hz⟩ := I.list hx
      have hlen := r.length
      exact wpAny_truthy_list pl.isList (by simp only [List.size_toArray]; omega) ⟨H, I.tok _, by rw [isEmpty_of r]; exact q⟩
    · subst e'
      obtain ⟨its, r, pl, hz⟩ := I.tuple hx
      have hlen := r.length
      exact truthy_tuple pl (by simp only [List.size_toArray]; omega) ⟨H, I.tok _, by rw [isEmpty_of r]; exact q⟩
    · subst e'
      obtain ⟨hz, hS, vs, r, m⟩ : kvs.length ≤ sizeLine ∧ (p == sysModules) = false ∧ ∃ vs, KV kvs vs ∧ s.heap.DictOf (mixKind X.prog X.w) p vs := I.hok p _ hx
      have hlen : kvs.length = vs.length := Paired.length r
      exact wpAny_truthy_dict hS m (by omega) ⟨H, I.tok _, by rw [isEmpty_kv r]; exact q⟩
  | _ => exact (show False from e).elim
/-- any expression whose test is its value's truth (a name, a call, a subscript, a field ..: he by fun _ => rfl) -/
theorem pt_truth (ha : PE X a ta) (he : ∀ whole, isTrue a X.env whole = (do let v ← whole; standAt a.pos; holding [v] (truthy v))) :
    PT X a (fun σ H Q => ta σ H fun x H' => ∃ k, TruV X.K x H' k ∧ Q k H') := by
  intro pins s σ H Q I h
  exact isTrue_plain (thn (ha pins s σ H _ I h) fun v s1 ⟨x, H1, I1, r1, q1⟩ => tru_ok pins s1 σ H1 x v Q I1 r1 q1) (he _)

/-! ### scalar builtins, by CallR -/
theorem vals1 {x : V} {us : List Value} (r : Vals [x] us) : ∃ u, us = [u] ∧ RelV x u := by
  cases r with
  | cons r1 r2 => cases r2; exact ⟨_, rfl, r1⟩
theorem vals2 {x y : V} {us : List Value} (r : Vals [x, y] us) : ∃ u w', us = [u, w'] ∧ RelV x u ∧ RelV y w' := by
  cases r with
  | cons r1 r2 =>
    cases r2 with
    | cons r3 r4 => cases r4; exact ⟨_, _, rfl, r1, r3⟩
theorem call_abs : CallR X (.builtin "abs") (fun xs H Q => ∃ i, xs = [.int i] ∧ Q (.int (if i < 0 then -i else i)) H) := by
  intro pins s σ H xs us Q I r h
  obtain ⟨i, rfl, q⟩ := h
  obtain ⟨u, rfl, t, rfl⟩ := vals1 r
  exact call_abs_int fun u tk => ⟨.int (if i < 0 then -i else i), H, I.tok _, ⟨_, rfl⟩, q⟩
theorem call_int1 : CallR X (.type "int") (fun xs H Q => (∃ i, xs = [.int i] ∧ Q (.int i) H) ∨ ∃ k, xs = [.bl k] ∧ Q (.int (if k then 1 else 0)) H) := by
  intro pins s σ H xs us Q I r h
  rcases h with ⟨i, rfl, q⟩ | ⟨k, rfl, q⟩
  · obtain ⟨u, rfl, t, rfl⟩ := vals1 r
    exact call_int_int ⟨.int i, H, I, ⟨_, rfl⟩, q⟩
  · obtain ⟨u, rfl, r1⟩ := vals1 r
    cases r1
    exact call_int_bool ⟨.int (if k then 1 else 0), H, I.tok _, ⟨_, rfl⟩, q⟩
end
end L2

namespace L2
open PySem PySem.Spec PyProof.Rows

/-! ### an instance, its attributes a map -/
structure ObjM (h : Heap) (x dx C : Addr) (mA : Str → Option Value) : Prop where
  obj : h.get? x = some (PySem.W.instObj C dx)
  ns : h.Ns1 dx mA
  ne : dx ≠ x

theorem lookIn_ns {h : Heap} {dx : Addr} {mA : Str → Option Value} (n : h.Ns1 dx mA) : ∃ od, h.get? dx = some od ∧ ∀ name, PySem.W.lookIn name od = some (mA name) := by
  obtain ⟨o, es, ep, ho, hd, hk, _, hm⟩ := n
  refine ⟨o, ho, fun name => ?_⟩
  have e := hm name
  unfold nsFind findBy at e
  rw [← Array.find?_toList] at e
  unfold PySem.W.lookIn
  rw [hd]
  dsimp only
  split
  · rename_i y q
    rw [q] at e
    exact congrArg some e
  · rename_i q
    rw [q] at e
    have a : es.toList.any (·.refKey) = false := by
      rw [List.any_eq_false]
      intro y hy
      obtain ⟨z, t, hkey⟩ := hk y (Array.mem_toList_iff.mp hy)
      simp [DictEntry.refKey, hkey]
    have a' : ¬ es.toList.any (·.refKey) = true := by rw [a]; exact Bool.false_ne_true
    rw [if_neg a']
    exact congrArg some e

theorem ObjM.look {h : Heap} {x dx C : Addr} {mA : Str → Option Value} (I : ObjM h x dx C mA) : ∃ od, PySem.W.InstAt h x (PySem.W.instObj C dx) C (some od) ∧ ∀ name, PySem.W.lookIn name od = some (mA name) :=
  let ⟨od, ho, hl⟩ := lookIn_ns I.ns
  ⟨od, ⟨I.obj, rfl, rfl, ho⟩, hl⟩

section
variable {prog : Program} {w : World} {A : Around} {E : Value → Shared → Prop} {s : Shared} {K : PySem.W.Frag} {x dx C f : Addr} {mA : Str → Option Value} {name : Str} {v : Value}

end

section
variable {P : Program} {w : World} {H H' : Hp} {h h' : Heap} {a C dx : Addr} {fs fs' : List (Str × V)}
theorem ins_get (hok : HOk P w H h) (e : H a = some (.ins C dx fs)) : ∃ mA, ObjM h a dx C mA ∧ (∀ f, RelO (fs.lookup f) (mA f)) ∧ PySem.Within mA (fs.map (·.1)) ∧ fs.length ≤ 1000 ∧ H dx = some (.own a) := by
  obtain ⟨d, z, ne, ob, mA, n, r, q⟩ := (show ObjOk P w H h a (.ins C dx fs) from hok a _ e)
  exact ⟨mA, ⟨ob, n, ne⟩, r, q, z, d⟩
end

/-! ### what of the text a class must have -/
structure Cls (K : PySem.W.Frag) (C : Addr) : Prop where
  pg : PySem.W.plainGet K C Str.empty = true
  hd : PySem.W.hasDictIn K C = true
  po : PySem.W.plainOver K C = true
  sa : PySem.W.findIn K (.ref C) "__setattr__" = some (some (.builtin "object.__setattr__"))
theorem Cls.get {K : PySem.W.Frag} {C : Addr} (c : Cls K C) (f : Str) : PySem.W.plainGet K C f = true := c.pg
section
variable {X : Cx} {pins : List (Addr × Obj)} {σ : St} {H : Hp} {s : Shared} {a C dx : Addr} {fs : List (Str × V)} {f : Str} {v : V} {A : Around} {E : Value → Shared → Prop}

end

/-! ### readings and rules -/
section
variable {X : Cx} {o e value : Expr} {f : Str} {pos pos' tpos : Pos} {ta tv : TE}
end

/-! ### isinstance -/
section
variable {X : Cx} {pins : List (Addr × Obj)} {σ : St} {H : Hp} {s : Shared} {A : Around} {E : Value → Shared → Prop} {Q : Value → Shared → Prop} {c : Value} {b : Bool}
/-- the type of a value, as the fragment's deciders take it; for an instance its class -/
inductive TyOf (K : PySem.W.Frag) (H : Hp) : V → Value → Prop where
  | non : TyOf K H .non (.type "NoneType")
  | bl (x : Bool) : TyOf K H (.bl x) (.type "bool")
  | int (i : Int) : TyOf K H (.int i) (.type "int")
  | str (x : Str) : TyOf K H (.str x) (.type "str")
  | flt (x : UInt64) : TyOf K H (.flt x) (.type "float")
  | lst {a : Addr} {xs : List V} (e : H a = some (.lst xs)) : TyOf K H (.ref a) (.type "list")
  | frz {a : Addr} {o : Obj} {xs : List V} (e : H a = some (.frz o (.lst xs))) : TyOf K H (.ref a) (.type "list")
  | tup {a : Addr} {xs : List V} (e : H a = some (.tup xs)) : TyOf K H (.ref a) (.type "tuple")
  | dK {a : Addr} {kvs : List (Key × V)} (e : H a = some (.dK kvs)) : TyOf K H (.ref a) (.type "dict")
  | dT {a : Addr} {kvs : List (List Key × V)} (e : H a = some (.dT kvs)) : TyOf K H (.ref a) (.type "dict")
  | ins {a C dx : Addr} {fs : List (Str × V)} (e : H a = some (.ins C dx fs)) (cl : Cls K C) (ha : PySem.W.findIn K (.ref C) "__class__" = some (some (.builtin "object.__class__")))
      (hn : PySem.W.specialIn K (.builtin "object.__class__") "__get__" = some (some (.builtin "getset_descriptor.__get__"))) (htk : PySem.W.takesIn K (.builtin "object.__class__") = some true)
      (hm : PySem.W.mroIn K C (.type "object") = some true) : TyOf K H (.ref a) (.ref C)
/-- isinstance(x, c) for one class c, a built-in or an own one: kitOne's answer -/
theorem isinst_ok {x : V} {u t : Value} (I : Inv X pins σ H s) (rx : RelV x u) (ty : TyOf X.K H x t) (e : PySem.W.kitOne X.K t c = some b) (h : ∀ tk, Q (.bool b) { s with toks := tk }) :
    wpAny (model X.prog X.w) A (call (.builtin "isinstance") [u, c]) Q E s := by
  cases ty with
  | non => cases (show u = Value.none from rx); exact PySem.W.kia_one PySem.W.kitx_none I.kIn True.intro e (fun z => nomatch z) h
  | bl y => cases (show u = Value.bool y from rx); exact PySem.W.kia_one PySem.W.kitx_bool I.kIn True.intro e (fun z => nomatch z) h
  | int i => obtain ⟨t, q⟩ := (show ∃ t, u = Value.int i t from rx); cases q; exact PySem.W.kia_one PySem.W.kitx_int I.kIn True.intro e (fun z => nomatch z) h
  | str y => obtain ⟨t, q⟩ := (show ∃ t, u = Value.str y t from rx); cases q; exact PySem.W.kia_one PySem.W.kitx_str I.kIn True.intro e (fun z => nomatch z) h
  | flt y => obtain ⟨t, q⟩ := (show ∃ t, u = Value.float y t from rx); cases q; exact PySem.W.kia_one PySem.W.kitx_float I.kIn True.intro e (fun z => nomatch z) h
  | @lst a xs ea =>
    cases (show u = Value.ref a from rx)
    obtain ⟨_, _, n, _, h1⟩ := (show ObjOk X.prog X.w H s.heap a (.lst xs) from I.hok a _ ea)
    exact PySem.W.kia_one PySem.W.kitx_list I.kIn ⟨_, h1, rfl⟩ e (fun z => nomatch z) h
  | @frz a ob xs ea =>
    cases (show u = Value.ref a from rx)
    obtain ⟨_, _, _, n, _, h1⟩ := (show ObjOk X.prog X.w H s.heap a (.frz ob (.lst xs)) from I.hok a _ ea)
    exact PySem.W.kia_one PySem.W.kitx_list I.kIn ⟨_, h1, rfl⟩ e (fun z => nomatch z) h
  | @tup a xs ea =>
    cases (show u = Value.ref a from rx)
    obtain ⟨_, _, _, p⟩ := (show ObjOk X.prog X.w H s.heap a (.tup xs) from I.hok a _ ea)
    obtain ⟨o, h1, h2, _⟩ := p
    exact PySem.W.kia_one PySem.W.kitx_tuple I.kIn ⟨o, h1, h2⟩ e (fun z => nomatch z) h
  | @dK a kvs ea =>
    cases (show u = Value.ref a from rx)
    obtain ⟨_, _, vs, _, p⟩ := (show ObjOk X.prog X.w H s.heap a (.dK kvs) from I.hok a _ ea)
    obtain ⟨o, es, ep, h1, h2, _⟩ := p
    exact PySem.W.kia_one PySem.W.kitx_dict I.kIn ⟨o, h1, h2.1⟩ e (fun z => nomatch z) h
  | @dT a kvs ea =>
    cases (show u = Value.ref a from rx)
    obtain ⟨_, _, xs, _, o, es, ep, h1, h2, _⟩ := (show ObjOk X.prog X.w H s.heap a (.dT kvs) from I.hok a _ ea)
    exact PySem.W.kia_one PySem.W.kitx_dict I.kIn ⟨o, h1, h2.1⟩ e (fun z => nomatch z) h
  | @ins a C dx fs ea cl ha hn htk hm =>
    cases (show u = Value.ref a from rx)
    obtain ⟨mA, O, _⟩ := ins_get I.hok ea
    obtain ⟨od, J, _⟩ := O.look
    exact PySem.W.kia_one (PySem.W.kitx_own (cl.get _) cl.hd ha hn htk hm) I.kIn J e (fun z => nomatch z) h
end
end L2

namespace L2
open PySem PySem.Spec PyProof.Rows

/-! ### room -/
structure Room (k : Nat) (A : Around) : Prop where
  hd : A.handled = none
  dp : A.depth + 3 * k + 5 < recursionLimit
  un : A.units + 16 * k + 200 < cLine
theorem Room.mono {j k : Nat} {A : Around} (r : Room k A) (h : j ≤ k) : Room j A := ⟨r.hd, by have := r.dp; omega, by have := r.un; omega⟩
theorem Room.deeper {k : Nat} {A : Around} (r : Room (k + 1) A) (env : Env) : Room k (A.deeper env) :=
  ⟨r.hd, by have := r.dp; show A.depth + 1 + 3 * k + 5 < _; omega, by have := r.un; show A.units + 3 + 16 * k + 200 < _; omega⟩
theorem Room.depth {k : Nat} {A : Around} (r : Room k A) : A.depth < recursionLimit := by have := r.dp; omega
theorem Room.units {k : Nat} {A : Around} (r : Room k A) : A.units + 64 < cLine := by have := r.un; omega
/-! ### argument lists and displays -/
def tNil : TA := fun _ H Q => Q [] H
def tCons (ta : TE) (tr : TA) : TA := fun σ H Q => ta σ H fun x H1 => tr σ H1 fun xs H2 => Q (x :: xs) H2
section
variable {X : Cx} {e : Expr} {es : List Expr} {te : TE} {t : TA} {pos : Pos}
theorem pa_nil : PA X [] tNil := fun _ _ _ _ H Q I h => Calls.spliced_nil ⟨[], H, I, .nil, h⟩
theorem pa_cons (ha : PE X e te) (hr : PA X es t) (hs : starEach (e :: es) X.env = (false, eval e X.env) :: starEach es X.env := by rfl) : PA X (e :: es) (tCons te t) := by
  intro pos pins s σ H Q I h
  rw [hs]
  show wpAny _ _ (spliced ((false, eval e X.env) :: backTo pos (starEach es X.env))) _ _ s
  refine Calls.spliced_cons (thn (ha pins s σ H _ I h) fun u s1 ⟨x, H1, I1, r1, q1⟩ => ?_)
  exact thn (hr pos pins s1 σ H1 _ I1 q1) fun us s2 ⟨xs, H2, I2, r2, q2⟩ => ⟨x :: xs, H2, I2, .cons r1 r2, q2⟩

/-- a tuple, a list of written items -/
def tTup (t : TA) : TE := fun σ H Q => t σ H fun xs H1 => xs.length ≤ sizeLine ∧ ∀ p, H1 p = none → Q (.ref p) (upd H1 p (.tup xs))
def tLst (t : TA) : TE := fun σ H Q => t σ H fun xs H1 => xs.length ≤ sizeLine ∧ ∀ p, H1 p = none → Q (.ref p) (upd H1 p (.lst xs))
theorem pe_tup {x1} (h : PA X es t) : PE X (.Tuple es x1 pos) (tTup t) := by
  intro pins s σ H Q I hq
  refine wpAny_Tuple_spliced (thn (h pos pins s σ H _ I hq) fun us s1 ⟨xs, H1, I1, r, z, q⟩ => ⟨by rw [← r.length]; exact z, ?_⟩)
  have hf : H1 s1.heap.objs.size = none := I1.hok.fresh (Nat.le_refl _)
  refine ⟨.ref s1.heap.objs.size, upd H1 s1.heap.objs.size (.tup xs), I1.laid (t' := s1.toks) (fun b u e => Heap.get?_push_of_some _ e) (Nat.le_refl _) ?_, rfl, q _ hf⟩
  exact ⟨z, us, r, ⟨_, Heap.get?_push_size _ rfl, rfl, _, rfl⟩⟩
theorem pe_lst (h : PA X es t) : PE X (.List es pos) (tLst t) := by
  intro pins s σ H Q I hq
  refine wpAny_List_spliced (thn (h pos pins s σ H _ I hq) fun us s1 ⟨xs, H1, I1, r, z, q⟩ => ⟨by rw [← r.length]; exact z, ?_⟩)
  have hf : H1 s1.heap.objs.size = none := I1.hok.fresh (Nat.le_refl _)
  refine ⟨.ref s1.heap.objs.size, upd H1 s1.heap.objs.size (.lst xs), I1.laid (t' := s1.toks) (fun b u e => Heap.get?_push_of_some _ e) (Nat.le_refl _) ?_, rfl, q _ hf⟩
  exact ⟨z, us, 0, r, Heap.get?_push_size _ rfl⟩
end

/-! ### what a def promises -/
/-- a def's promise: the bound arguments in the parameters' order, the heap, the wanted end, the wanted exception -/
abbrev Sp := List V → Hp → VK → XK → Prop
/-- how an exception lies behind a call (file 08 gives it): the callers' frames, abstract heap and state ahead of the call, the wish, the exception, the state -/
abbrev CXT := List Env → Hp → Shared → XK → Value → Shared → Prop

/-- the state at a call -/
structure Env0 (P : Program) (w : World) (K : PySem.W.Frag) (mg : Str → Option Value) (base : Heap) (A : Around) (outer : List Env) (s : Shared) (H : Hp) : Prop where
  frames : A.frames = some outer
  mod : Mod K mg base
  bs : ∀ b o, base.get? b = some o → s.heap.get? b = some o ∧ H b = none
  bsz : base.objs.size ≤ s.heap.objs.size
  funs : s.heap.FunFrames base outer
  frf : ∀ b ∈ frs outer, H b = none
  hok : HOk P w H s.heap
  bare : AllBare s.gens
/-- a call's end -/
def CE (outer : List Env) (P : Program) (w : World) (H : Hp) (s : Shared) (Q : VK) (u : Value) (s' : Shared) : Prop :=
  ∃ v H', s'.os = s.os ∧ AllBare s'.gens ∧ Un (frs outer) [] H H' s.heap s'.heap ∧ HOk P w H' s'.heap ∧ RelV v u ∧ Q v H'
def CR (CX : CXT) (outer : List Env) (P : Program) (w : World) (H : Hp) (s : Shared) (Q : VK) (E : XK) (r : Result) (s' : Shared) : Prop :=
  match r with
  | .ok (.ret u) => CE outer P w H s Q u s'
  | .ok _ => False
  | .error e => CX outer H s E e s'
structure FnOk (P : Program) (w : World) (K : PySem.W.Frag) (mg : Str → Option Value) (base : Heap) (CX : CXT) (k : Nat) (f : Addr) (fd : FuncData) (ps : List Str) (sp : Sp) : Prop where
  len : ∀ vs H Q E, sp vs H Q E → vs.length = ps.length
  run : ∀ (A : Around) (outer : List Env) (s : Shared) (H : Hp) (args : Args) (us : List Value) (vs : List V) (Q : VK) (E : XK), Room k A → Env0 P w K mg base A outer s H → BindsTo s fd args (ps.zip us) → Vals vs us → sp vs H Q E →
    codeAny (model P w) A (.call (.ref f) args) (CR CX outer P w H s Q E) s
/-- a weaker promise -/
theorem FnOk.imp {P : Program} {w : World} {K : PySem.W.Frag} {mg : Str → Option Value} {base : Heap} {CX : CXT} {k : Nat} {f : Addr} {fd : FuncData} {ps : List Str} {sp sp' : Sp} (F : FnOk P w K mg base CX k f fd ps sp)
    (h : ∀ vs H Q E, sp' vs H Q E → sp vs H Q E) : FnOk P w K mg base CX k f fd ps sp' :=
  ⟨fun vs H Q E q => F.len vs H Q E (h _ _ _ _ q), fun A outer s H args us vs Q E hr he hb hv hs => F.run A outer s H args us vs Q E hr he hb hv (h _ _ _ _ hs)⟩

section
variable {X : Cx} {pins : List (Addr × Obj)} {σ : St} {H : Hp} {s s' : Shared}
/-- from a body: what a callee wants -/
theorem Inv.env0 (I : Inv X pins σ H s) : Env0 X.prog X.w X.K X.mg X.base X.A X.stack s H :=
  ⟨I.ok.frames, I.ok.mod, I.bs, Nat.le_trans I.ok.bsz I.sz, I.stack, I.stkFree, I.hok, I.bare⟩
/-- behind a call -/
theorem Inv.after {Q : VK} {u : Value} (I : Inv X pins σ H s) (h : CE X.stack X.prog X.w H s Q u s') : EP X pins σ Q u s' := by
  obtain ⟨v, H', os, bare, un, hok, r, q⟩ := h
  obtain ⟨hh, g, d, t, os'⟩ := s'
  obtain rfl : os' = s.os := os
  exact ⟨v, H', I.call (h' := hh) (g' := g) (d' := d) (t' := t) (ch := []) un hok bare (fun b z => absurd z (by simp)), r, q⟩
end

/-! ### calls -/
/-- f(..): the written arguments, then the defaults dvs; E: what is wanted of an exception -/
def tCall (sp : Sp) (dvs : List V) (E : XK) (t : TA) : TE := fun σ H Q => t σ H fun vs H1 => sp (vs ++ dvs) H1 Q E
/-- how the parameters are bound: us the positional arguments, kw the keywords' values by name, ds the defaults that fill up -/
def Binds (K : PySem.W.Frag) (fd : FuncData) (ps : List Str) (ds : List Value) : Prop :=
  ∀ (s : Shared) (us : List Value), K.In s.heap → (us ++ ds).length = ps.length → BindsTo s fd ⟨us, []⟩ (ps.zip (us ++ ds))
/-- every parameter is given -/
theorem Binds.all {K : PySem.W.Frag} {fd : FuncData} {ps : List Str} (h : ∀ us : List Value, us.length = ps.length → bindArgs fd ⟨us, []⟩ = pure (ps.zip us)) : Binds K fd ps [] := fun s us _ hl => by
  rw [List.append_nil] at hl ⊢
  exact .of_eq (h us hl)

/-- an exception of a callee reaches what this body wants of exceptions -/
def Passes (CX : CXT) (X : Cx) (E : XK) : Prop := ∀ (pins : List (Addr × Obj)) (σ : St) (H : Hp) (s : Shared) (e : Value) (s' : Shared), Inv X pins σ H s → CX X.stack H s E e s' → X.xe e s'

section
variable {X : Cx} {CX : CXT} {k : Nat} {f C : Addr} {fd : FuncData} {ps : List Str} {sp : Sp} {dvs : List V} {ds : List Value} {E : XK} {x m : Str} {p pos apos : Pos} {e o : Expr} {es : List Expr} {ta : TE} {t : TA}

/-- the callee runs -/
theorem run_fn {pins : List (Addr × Obj)} {σ : St} {H : Hp} {s : Shared} {Q : VK} {us : List Value} {vs : List V} (F : FnOk X.prog X.w X.K X.mg X.base CX k f fd ps sp) (hr : Room k X.A) (hb : Binds X.K fd ps ds) (hd : Vals dvs ds) (hx : Passes CX X E)
    (I : Inv X pins σ H s) (r : Vals vs us) (h : sp (vs ++ dvs) H Q E) : wpAny (model X.prog X.w) X.A (call (.ref f) us) (EP X pins σ Q) X.xe s := by
  have r2 : Vals (vs ++ dvs) (us ++ ds) := r.append hd
  have hl : (us ++ ds).length = ps.length := by rw [← r2.length]; exact F.len _ _ _ _ h
  refine wpAny_call (codeAny_mono (F.run X.A X.stack s H ⟨us, []⟩ (us ++ ds) (vs ++ dvs) Q E hr I.env0 (hb s us I.kIn hl) r2 h) fun r s' hq => ?_)
  cases r with
  | error e => exact hx pins σ H s e s' I hq
  | ok fl =>
    cases fl with
    | ret u => exact I.after hq
    | next => exact False.elim hq
    | brk => exact False.elim hq
    | cont => exact False.elim hq

theorem pe_call (F : FnOk X.prog X.w X.K X.mg X.base CX k f fd ps sp) (hr : Room k X.A) (hg : Gl X x) (hm : X.mg x = some (.ref f)) (hk : PySem.W.keepIn X.K (.ref f) = true) (hb : Binds X.K fd ps ds) (hd : Vals dvs ds) (hx : Passes CX X E)
    (ha : PA X (e :: es) t) (hdb : (x == ("__debug__" : Str)) = false := by decide) (he : starEach (e :: es) X.env = (false, eval e X.env) :: starEach es X.env := by rfl) (hpl : (backTo pos (starEach es X.env)).any (·.1) = false := by rfl) :
    PE X (.Call (.Name x p) (e :: es) [] pos) (tCall sp dvs E t) := by
  intro pins s σ H Q I h
  refine wpAny_Call_Name_kw (ld_glob I hg hm ?_ hdb)
  refine PySem.W.callWith_K (h₀ := X.base) I.ok.mod.kin hk (thn (ha pos pins s σ H _ I h) fun us s1 ⟨vs, H1, I1, r, q⟩ => ⟨I1.kIn, ?_⟩) he hpl
  exact run_fn F hr hb hd hx I1 r q
end

/-! ### keywords -/
section
variable {X : Cx} {CX : CXT} {k : Nat} {f C : Addr} {fd : FuncData} {ps ks : List Str} {sp : Sp} {E : XK} {x m : Str} {p pos apos kpos : Pos} {e o : Expr} {es : List Expr} {kws : List Keyword} {te ta : TE} {t tk : TA} {nm : Option Str}
variable {g : List Value → List Value → List Value} {gV : List V → List V → List V}
end

/-! ### a def's body keeps its promise -/
/-- names: the parameters first -/
structure FnScope (N P : List Str) (sc : Scope) : Prop where
  kind : sc.kind = .function
  co : sc.isCoroutine = false
  gen : sc.isGenerator = false
  nd : N.Nodup
  pre : N.take P.length = P
  par : ∀ x ∈ P, sc.names.lookup x = some .local ∨ sc.names.lookup x = some .cell
  nofree : ∀ y ∈ sc.names, y.2 ≠ .free

theorem bindL_out {kindOf : Str → Option NameKind} {x : Str} : ∀ {binds : List (Str × Value)} {m : Str → Option Value}, (∀ v, (x, v) ∉ binds) → bindL kindOf binds m x = m x
  | [], _, _ => rfl
  | (n, v) :: r, m, h => by
    unfold bindL
    rw [bindL_out fun w hw => h w (List.mem_cons_of_mem _ hw)]
    split
    · have : x ≠ n := by rintro rfl; exact h v List.mem_cons_self
      simp [this]
    · rfl
theorem bindC_out {kindOf : Str → Option NameKind} {x : Str} : ∀ {binds : List (Str × Value)} {m : Str → Option Value}, (∀ v, (x, v) ∉ binds) → bindC kindOf binds m x = m x
  | [], _, _ => rfl
  | (n, v) :: r, m, h => by
    unfold bindC
    rw [bindC_out fun w hw => h w (List.mem_cons_of_mem _ hw)]
    split
    · rfl
    · have : x ≠ n := by rintro rfl; exact h v List.mem_cons_self
      simp [this]
theorem bindL_get {kindOf : Str → Option NameKind} {x : Str} {v : Value} : ∀ {P : List Str} {vs : List Value} {i : Nat} {m : Str → Option Value}, P.Nodup → P[i]? = some x → vs[i]? = some v → kindOf x = some .local →
    bindL kindOf (P.zip vs) m x = some v
  | [], _, _, _, _, h, _, _ => by simp at h
  | _ :: _, [], _, _, _, _, h, _ => by simp at h
  | p :: P, w :: vs, 0, m, nd, h1, h2, hk => by
    simp at h1 h2; subst h1; subst h2
    show bindL kindOf ((p, w) :: P.zip vs) m p = _
    unfold bindL
    rw [bindL_out fun v hv => (List.nodup_cons.mp nd).1 (List.of_mem_zip hv).1, if_pos hk]
    simp
  | p :: P, w :: vs, i + 1, m, nd, h1, h2, hk => by
    show bindL kindOf ((p, w) :: P.zip vs) m x = _
    unfold bindL
    exact bindL_get (i := i) (List.nodup_cons.mp nd).2 (by simpa using h1) (by simpa using h2) hk
theorem bindC_get {kindOf : Str → Option NameKind} {x : Str} {v : Value} : ∀ {P : List Str} {vs : List Value} {i : Nat} {m : Str → Option Value}, P.Nodup → P[i]? = some x → vs[i]? = some v → kindOf x ≠ some .local →
    bindC kindOf (P.zip vs) m x = some v
  | [], _, _, _, _, h, _, _ => by simp at h
  | _ :: _, [], _, _, _, _, h, _ => by simp at h
  | p :: P, w :: vs, 0, m, nd, h1, h2, hk => by
    simp at h1 h2; subst h1; subst h2
    show bindC kindOf ((p, w) :: P.zip vs) m p = _
    unfold bindC
    rw [bindC_out fun v hv => (List.nodup_cons.mp nd).1 (List.of_mem_zip hv).1, if_neg hk]
    simp
  | p :: P, w :: vs, i + 1, m, nd, h1, h2, hk => by
    show bindC kindOf ((p, w) :: P.zip vs) m x = _
    unfold bindC
    exact bindC_get (i := i) (List.nodup_cons.mp nd).2 (by simpa using h1) (by simpa using h2) hk

/-- the names' values at the entry -/
def start (N : List Str) (vs : List V) : St := vs.map some ++ List.replicate (N.length - vs.length) none

/-- the context of a def's body, at its entry; an exception leaves the frame, then lies as CX says -/
def cxOf (CX : CXT) (P : Program) (w : World) (K : PySem.W.Frag) (mg : Str → Option Value) (base : Heap) (N : List Str) (qual : Str) (scope : Scope) (f : Addr) (cd : Value) (A : Around) (outer : List Env) (s : Shared) (H : Hp) (E : XK) : Cx where
  prog := P
  w := w
  K := K
  mg := mg
  base := base
  A := A.deeper (envOfC qual scope s.heap.objs.size f cd)
  N := N
  s₀ := s
  H₀ := H
  env := envOfC qual scope s.heap.objs.size f cd
  outer := outer
  stack := envOfC qual scope s.heap.objs.size f cd :: outer
  ex := []
  calm := true
  fn := fun _ => true
  pn := []
  xe := fun e s' => wpAny (model P w) (A.deeper (envOfC qual scope s.heap.objs.size f cd)) (leaving (envOfC qual scope s.heap.objs.size f cd) e) (fun _ s'' => CX outer H s E e s'') (fun e' s'' => CX outer H s E e' s'') s'

theorem cell_has {sc : Scope} {n : Nat} {x : Str} (h : sc.names.lookup x = some .cell) : ∃ c, (cellsFrom n sc.names []).lookup x = some c := by
  have q := PySem.W.cellsFrom_some sc.names n [] (.inl h)
  exact Option.isSome_iff_exists.mp q

theorem inv_start {CX : CXT} {P : Program} {w : World} {K : PySem.W.Frag} {mg : Str → Option Value} {base : Heap} {N ps : List Str} {qual : Str} {scope : Scope} {f : Addr} {cd : Value} {A : Around} {outer : List Env} {s s1 : Shared} {H : Hp} {E : XK} {us : List Value} {vs : List V}
    (S : FnScope N ps scope) (hd : A.handled = none) (e0 : Env0 P w K mg base A outer s H) (hl : vs.length = ps.length) (r : Vals vs us)
    (x : InCallC s s.heap.objs.size (bindL (envOfC qual scope s.heap.objs.size f cd).kindOf (ps.zip us) fun _ => none) (cellsFrom (s.heap.objs.size + 1) scope.names []) (bindC (envOfC qual scope s.heap.objs.size f cd).kindOf (ps.zip us) fun _ => none) s1) :
    Inv (cxOf CX P w K mg base N qual scope f cd A outer s H E) [] (start N vs) H s1 := by
  have hpl : ps.length ≤ N.length := by have := congrArg List.length S.pre; rw [List.length_take] at this; omega
  obtain ⟨h1, tk, rfl, hk⟩ := x.done
  have noA : ∀ b : Addr, b ∉ (cxOf CX P w K mg base N qual scope f cd A outer s H E).ex := fun b z => absurd (show b ∈ ([] : List Addr) from z) (by simp)
  refine ⟨⟨e0.mod, S.kind, rfl, rfl, Nat.le_refl _, fun y z c h1 h2 => ?_, fun y hy => ?_, fun y c _ h => ?_, fun _ => hd, Around.frames_deeper e0.frames, .inr ⟨rfl, rfl⟩, fun b z => absurd z (noA b), e0.bs, e0.bsz, fun b _ _ => noA b, fun b z => absurd z (noA b), e0.funs, e0.frf⟩,
    rfl, e0.bare, Un.kept hk, ⟨_, x.toInCall.ns, fun i y v h1 h2 h3 => ?_⟩, fun y c h => ⟨_, x.cell y c h⟩, e0.hok.fresh (Nat.le_refl _), fun y c h => ?_, fun p hp => absurd (show p ∈ ([] : List (Addr × Obj)) from hp) (by simp), e0.hok.kept hk, ?_⟩
  · exact name_of_addr x.apart (PySem.mem_of_lookup h1) (PySem.mem_of_lookup h2)
  · have hy : scope.names.lookup y = some .cell ∨ scope.names.lookup y = some .free := hy
    rcases hy with hy | hy
    · exact cell_has hy
    · exact absurd rfl (S.nofree _ (PySem.mem_of_lookup hy))
  · exact Nat.le_of_lt (x.above y c (PySem.mem_of_lookup h))
  · have hi : i < vs.length := by
      unfold start at h2
      by_cases hi : i < vs.length
      · exact hi
      · rw [List.getElem?_append_right (by simpa using hi)] at h2
        rw [List.getElem?_replicate] at h2
        split at h2 <;> cases h2
    have ha : vs[i]? = some v := by
      unfold start at h2
      rw [List.getElem?_append_left (by simpa using hi), List.getElem?_map] at h2
      cases e : vs[i]? with
      | none => rw [e] at h2; cases h2
      | some a => rw [e] at h2; cases h2; rfl
    obtain ⟨u, hu, rv⟩ := r.get ha
    have hp : ps[i]? = some y := by
      rw [← S.pre, List.getElem?_take_of_lt (by omega)]; exact h1
    have ndP : ps.Nodup := by rw [← S.pre]; exact S.nd.sublist (List.take_sublist _ _)
    refine ⟨u, rv, ?_⟩
    rcases S.par y (List.mem_of_getElem? hp) with k | k
    · exact .inl ⟨k, bindL_get ndP hp hu k⟩
    · obtain ⟨c, e⟩ := cell_has (n := s.heap.objs.size + 1) k
      refine .inr ⟨.inl k, c, e, ?_⟩
      have q := x.cell y c e
      rw [bindC_get ndP hp hu (by show scope.names.lookup y ≠ _; rw [k]; decide)] at q
      exact q
  · exact e0.hok.fresh (Nat.le_of_lt (x.above y c (PySem.mem_of_lookup h)))
  · unfold start
    show _ = N.length
    rw [List.length_append, List.length_map, List.length_replicate]
    omega

/-- THE RULE: a def (or a method) of the text, by its body. The body's reading t is chosen for each entry; it is run at the parameters' values -/
theorem fn_of {CX : CXT} {P : Program} {w : World} {K : PySem.W.Frag} {mg : Str → Option Value} {base : Heap} {k : Nat} {f : Addr} {name qual : Str} {params : Arguments} {body : List Stmt} {scope : Scope} {dV kV doc pm cdv ct oc : Value} {an od : Option Addr}
    {osl : Array (Option Value)} {N ps : List Str} {sp : Sp} (lk : K.lookup f = some ⟨oc, od, .func (PySem.W.fnOf name qual params body scope dV kV doc pm an cdv ct), osl⟩) (hcd : PySem.W.codeIn K cdv qual = true) (S : FnScope N ps scope)
    (len : ∀ vs H Q E, sp vs H Q E → vs.length = ps.length)
    (hbody : ∀ (A : Around) (outer : List Env) (s : Shared) (H : Hp) (vs : List V) (Q : VK) (E : XK), Room k (A.deeper (envOfC qual scope s.heap.objs.size f cdv)) → sp vs H Q E →
      ∃ t, PSs (cxOf CX P w K mg base N qual scope f cdv A outer s H E) body t ∧ t { nx := fun _ H' => Q .non H', rt := Q } (start N vs) H) :
    FnOk P w K mg base CX (k + 1) f (PySem.W.fnOf name qual params body scope dV kV doc pm an cdv ct) ps sp := by
  refine ⟨len, fun A outer s H args us vs Q E hr e0 hb r hsp => ?_⟩
  have hl := len _ _ _ _ hsp
  have KX : K.In s.heap := e0.mod.kin.keeps fun b o e => (e0.bs b o e).1
  have lim : s.heap.NoLimit := e0.mod.nolimit.keeps fun b o e => (e0.bs b o e).1
  have hkind : ∀ y ∈ ps.zip us, scope.names.lookup y.1 = some .local ∨ (scope.names.lookup y.1 = some .cell ∧ ((cellsFrom (s.heap.objs.size + 1) scope.names []).lookup y.1).isSome = true) := fun ⟨n, v⟩ hy => by
    rcases S.par n (List.of_mem_zip hy).1 with q | q
    · exact .inl q
    · exact .inr ⟨q, PySem.W.cellsFrom_some _ _ _ (.inl q)⟩
  refine codeAny_call_function hr.depth (KX _ _ lk) rfl S.co S.gen rfl (PySem.W.codeRec_of KX hcd) (hb _ _ _ _ ?_)
  refine wpAny_newFunctionEnv_cells S.kind hkind fun env he s1 x => ?_
  subst he
  refine ⟨lim.keeps x.toInCall.keep, codeAny_func ?_⟩
  obtain ⟨t, ht, hq⟩ := hbody A outer s H vs Q E (hr.deeper _) hsp
  have I : Inv (cxOf CX P w K mg base N qual scope f cdv A outer s H E) [] (start N vs) H s1 := inv_start S hr.hd e0 hl r x
  refine wpAny_mono (ht [] s1 (start N vs) H _ I hq) (fun fl s' hs => ?_) fun e s' hs => hs
  have fin : ∀ {σ' : St} {H' : Hp} {v : V} {u : Value}, Inv (cxOf CX P w K mg base N qual scope f cdv A outer s H E) [] σ' H' s' → RelV v u → Q v H' → CE outer P w H s Q u s' :=
    fun {σ' H' v u} J rv q => ⟨v, H', J.os, J.bare, J.base, J.hok, rv, q⟩
  cases fl with
  | ret u =>
    obtain ⟨v, σ', H', J, rv, q⟩ := hs
    exact fin J rv q
  | next =>
    obtain ⟨σ', H', J, q⟩ := hs
    exact fin (v := V.non) (u := Value.none) J rfl q
  | brk =>
    obtain ⟨_, _, _, q⟩ := hs
    exact False.elim q
  | cont =>
    obtain ⟨_, _, _, q⟩ := hs
    exact False.elim q
end L2

namespace L2
open PySem PySem.Spec PyProof.Rows
section
variable {X : Cx} {x : Str} {p pos : Pos} {e : Expr} {es : List Expr} {t : TA} {id T : String} {r : List V → Hp → VK → Prop}

def tCB (r : List V → Hp → VK → Prop) (t : TA) : TE := fun σ H Q => t σ H fun vs H1 => r vs H1 Q
/-- f(e, ..), f a built-in function -/
theorem pe_callB (hc : CallR X (.builtin id) r) (hg : Gl X x) (hm : X.mg x = none) (hv : bootBuiltins x = some (.builtin id)) (ha : PA X (e :: es) t) (hn : x ≠ "__name__" := by decide) (hdb : (x == ("__debug__" : Str)) = false := by decide)
    (he : starEach (e :: es) X.env = (false, eval e X.env) :: starEach es X.env := by rfl) (hpl : (backTo pos (starEach es X.env)).any (·.1) = false := by rfl) : PE X (.Call (.Name x p) (e :: es) [] pos) (tCB r t) := by
  intro pins s σ H Q I h
  refine wpAny_Call_Name_kw (ld_blt I hg hm hv ?_ hn hdb)
  exact PyProof.Rows.callWith_builtin1 (thn (ha pos pins s σ H _ I h) fun us s1 ⟨vs, H1, I1, r1, q1⟩ => hc pins s1 σ H1 vs us Q I1 r1 q1) he hpl
/-- T(e, ..), T a built-in type -/
theorem pe_callTy (hc : CallR X (.type T) r) (hg : Gl X x) (hm : X.mg x = none) (hv : bootBuiltins x = some (.type T)) (ha : PA X (e :: es) t) (hn : x ≠ "__name__" := by decide) (hdb : (x == ("__debug__" : Str)) = false := by decide)
    (he : starEach (e :: es) X.env = (false, eval e X.env) :: starEach es X.env := by rfl) (hpl : (backTo pos (starEach es X.env)).any (·.1) = false := by rfl) : PE X (.Call (.Name x p) (e :: es) [] pos) (tCB r t) := by
  intro pins s σ H Q I h
  refine wpAny_Call_Name_kw (ld_blt I hg hm hv ?_ hn hdb)
  exact PyProof.Rows.callWith_type1 (thn (ha pos pins s σ H _ I h) fun us s1 ⟨vs, H1, I1, r1, q1⟩ => hc pins s1 σ H1 vs us Q I1 r1 q1) he hpl
end
end L2

namespace HT
open PySem PyProof.Rows

section
open PySem.SeqAt
open PySem.AutoSeq1 (wpAny_loadPart')
open PySem.MeetsSeq PySem.MeetsSeq2 PySem.MeetsSeq3

end

section
variable {prog : Program} {w : World} {A : Around} {E : Value → Shared → Prop} {s : Shared}

/-! ### t[a:b], not the whole -/
/-- a slice's bound as a place among n (d where it is left out) -/
def sIx (n d : Nat) : Option Int → Nat
  | none => d
  | some v => if v < 0 then (v + (n : Int)).toNat else min v.toNat n
end
end HT

namespace L2
open PySem PySem.Spec PyProof.Rows

/-! ### the parts of a slice -/
abbrev TO := St → Hp → (Option Int → Hp → Prop) → Prop
/-- a slice's part (left out, or an int) -/
def PO (X : Cx) (e : Option Expr) (t : TO) : Prop :=
  ∀ (pins : List (Addr × Obj)) (s : Shared) (σ : St) (H : Hp) (Q : Option Int → Hp → Prop), Inv X pins σ H s → t σ H Q →
    wpAny (model X.prog X.w) X.A (evalPart e X.env) (fun u s' => ∃ o H', Inv X pins σ H' s' ∧ IsPart u o ∧ Q o H') X.xe s
def tNoPart : TO := fun _ H Q => Q none H
def tPart (t : TE) : TO := fun σ H Q => t σ H fun x H1 => ∃ i, x = .int i ∧ Q (some i) H1

section
variable {X : Cx} {e : Expr} {te : TE} {lo hi : Option Expr} {tl th : TO} {pos p2 : Pos}

theorem po_none : PO X none tNoPart := by
  intro pins s σ H Q I h
  rw [evalPart_none]
  exact wpAny_pure ⟨none, H, I, .none, h⟩
theorem po_some (h : PE X e te) : PO X (some e) (tPart te) := by
  intro pins s σ H Q I hw
  rw [evalPart_some]
  refine thn (h pins s σ H _ I hw) fun u s1 ⟨x, H1, I1, r1, q1⟩ => ?_
  obtain ⟨i, rfl, q⟩ := q1
  obtain ⟨t, rfl⟩ := r1
  exact ⟨some i, H1, I1, .int i t, q⟩

/-- what a slice of a value is, by values: the slice object stands at sl -/
def SlR (X : Cx) (r : V → Option Int → Option Int → Hp → VK → Prop) : Prop :=
  ∀ (pins : List (Addr × Obj)) (s : Shared) (σ : St) (H : Hp) (x : V) (v vl vu : Value) (lo hi : Option Int) (sl : Addr) (Q : VK), Inv X pins σ H s → RelV x v → s.heap.IsSliceOf sl vl vu .none → IsPart vl lo → IsPart vu hi → r x lo hi H Q →
    ∃ T id, typeLookup (.type T) "__getitem__" = pure (some (.builtin id)) ∧ s.TypeIs v T ∧ wpAny (model X.prog X.w) X.A (getItem v (.ref sl)) (EP X pins σ Q) X.xe s
def tSl (r : V → Option Int → Option Int → Hp → VK → Prop) (te : TE) (tl th : TO) : TE := fun σ H Q => te σ H fun x H1 => tl σ H1 fun l H2 => th σ H2 fun u H3 => r x l u H3 Q
/-- a[lo:hi], any a -/
theorem pe_slice {r : V → Option Int → Option Int → Hp → VK → Prop} (hr : SlR X r) (he : PE X e te) (hl : PO X lo tl) (hu : PO X hi th) : PE X (.Subscript e (.Slice lo hi none p2) pos) (tSl r te tl th) := by
  intro pins s σ H Q I h
  refine Subscript_ (thn (he pins s σ H _ I h) fun v s1 ⟨x, H1, I1, r1, q1⟩ => ?_)
  refine wpAny_Slice (thn (hl pins s1 σ H1 _ I1 q1) fun vl s2 ⟨l, H2, I2, pl, q2⟩ => thn (hu pins s2 σ H2 _ I2 q2) fun vu s3 ⟨u, H3, I3, pu, q3⟩ => ?_)
  rw [evalPart_none]
  refine wpAny_pure ?_
  have I4 : Inv X pins σ H3 { s3 with heap := s3.heap.push { cls := .type "slice", data := .fields #[vl, vu, .none] } } := I3.kept (t' := s3.toks) fun b ob q => Heap.get?_push_of_some _ q
  obtain ⟨T, id, hT, ht, hg⟩ := hr pins { s3 with heap := s3.heap.push { cls := .type "slice", data := .fields #[vl, vu, .none] } } σ H3 x v vl vu l u s3.heap.objs.size Q I4 r1 (Heap.IsSliceOf.new ..) pl pu q3
  show wpAny (model X.prog X.w) X.A (subscriptTail e (.Slice lo hi none p2) v (.ref s3.heap.objs.size)) (EP X pins σ Q) X.xe { s3 with heap := s3.heap.push { cls := .type "slice", data := .fields #[vl, vu, .none] } }
  exact tail_any (ops := [.ref s3.heap.objs.size, v]) ht hT hg (by with_unfolding_all rfl)

/-- the items of xs[lo:hi] -/
def cutV (xs : List V) (lo hi : Option Int) : List V := (xs.drop (HT.sIx xs.length 0 lo)).take (HT.sIx xs.length xs.length hi - HT.sIx xs.length 0 lo)
theorem cutV_length (xs : List V) (lo hi : Option Int) : (cutV xs lo hi).length ≤ xs.length := by
  unfold cutV
  rw [List.length_take, List.length_drop]
  omega
end
end L2

namespace L2
open PySem PySem.Spec PyProof.Rows

/-! ### places -/
/-- the place that an index of any sign means -/
def ixN (n : Nat) (i : Int) : Option Nat := if 0 ≤ i then (if i < n then some i.toNat else none) else if -(n : Int) ≤ i then some (i + n).toNat else none
def atI {α : Type} (xs : List α) (i : Int) : Option α := (ixN xs.length i).bind fun j => xs[j]?
theorem ixN_seq {n : Nat} {i : Int} {j : Nat} (h : ixN n i = some j) : seqIndex? i n = some j ∧ j < n ∧ -(n : Int) ≤ i ∧ i < n := by
  unfold ixN at h
  by_cases h0 : 0 ≤ i
  · rw [if_pos h0] at h
    by_cases h1 : i < n
    · rw [if_pos h1] at h
      have e : i.toNat = j := Option.some.inj h
      exact ⟨by rw [seqIndex_of h0 h1, e], by omega, by omega, h1⟩
    · rw [if_neg h1] at h; cases h
  · rw [if_neg h0] at h
    by_cases h1 : -(n : Int) ≤ i
    · rw [if_pos h1] at h
      have e : (i + n).toNat = j := Option.some.inj h
      exact ⟨by rw [seqIndex_neg (by omega) h1, e], by omega, h1, by omega⟩
    · rw [if_neg h1] at h; cases h
theorem atI_get {α : Type} {xs : List α} {i : Int} {v : α} (h : atI xs i = some v) : ∃ j, seqIndex? i xs.length = some j ∧ xs[j]? = some v ∧ j < xs.length ∧ -(xs.length : Int) ≤ i ∧ i < xs.length := by
  unfold atI at h
  cases e : ixN xs.length i with
  | none => rw [e] at h; cases h
  | some j =>
    rw [e] at h
    obtain ⟨h1, h2, h3, h4⟩ := ixN_seq e
    exact ⟨j, h1, h, h2, h3, h4⟩
/-! ### what may be subscripted -/
/-- what stands as an index of a plain subscript -/
def PlainIx (b : Expr) : Prop := ∀ o i, subscripted b false o i = operate [o, i] (getItem o i)
/-- a subscript by values -/
def IxR (X : Cx) (r : R2) : Prop :=
  ∀ (value slice : Expr) (pins : List (Addr × Obj)) (s : Shared) (σ : St) (H : Hp) (x y : V) (v u : Value) (Q : VK), Inv X pins σ H s → RelV x v → RelV y u → r x y H Q →
    subscripted slice false v u = operate [v, u] (getItem v u) → wpAny (model X.prog X.w) X.A (subscriptTail value slice v u) (EP X pins σ Q) X.xe s
/-- a call of a builtin's method by values: the receiver, the arguments -/
def MtR (X : Cx) (id : String) (r : V → List V → Hp → VK → Prop) : Prop :=
  ∀ (pins : List (Addr × Obj)) (s : Shared) (σ : St) (H : Hp) (x : V) (xs : List V) (v : Value) (us : List Value) (Q : VK), Inv X pins σ H s → RelV x v → Vals xs us → r x xs H Q →
    wpAny (model X.prog X.w) X.A (call (.builtin id) (v :: us)) (EP X pins σ Q) X.xe s
section
variable {X : Cx} {a b : Expr} {ta tb : TE} {pos : Pos}
/-- a[b] -/
theorem pe_ix {r : R2} (hr : IxR X r) (ha : PE X a ta) (hb : PE X b tb) (hs : PlainIx b) : PE X (.Subscript a b pos) (tOp r ta tb) := by
  intro pins s σ H Q I h
  exact Subscript_ (binT ha hb I h fun v u s2 x y H2 I2 rx ry q => hr a b pins s2 σ H2 x y v u Q I2 rx ry q (hs _ _))

def rIxL (K : PySem.W.Frag) : R2 := fun x y H Q => ∃ p xs i v, x = .ref p ∧ y = .int i ∧ SqL K H p xs ∧ atI xs i = some v ∧ Q v H
def rIxT (K : PySem.W.Frag) : R2 := fun x y H Q => ∃ p xs i v, x = .ref p ∧ y = .int i ∧ SqT K H p xs ∧ atI xs i = some v ∧ Q v H
theorem ix_list : IxR X (rIxL X.K) := by
  intro value slice pins s σ H x y v u Q I rx ry h hs
  obtain ⟨p, xs, i, z, rfl, rfl, hq, he, q⟩ := h
  cases rx
  obtain ⟨t, rfl⟩ := ry
  obtain ⟨its, r, pl, hz⟩ := I.list hq
  obtain ⟨j, h1, h2, h3, h4, h5⟩ := atI_get he
  obtain ⟨w, ew, rw'⟩ := r.get h2
  have hl := r.length
  have hn := line63
  have fin : EP X pins σ Q w s := ⟨z, H, I, rw', q⟩
  by_cases h0 : 0 ≤ i
  · have hj : i.toNat = j := by
      rw [seqIndex_of h0 h5] at h1
      exact Option.some.inj h1
    exact item_listR pl.isList h0 (by omega) (by rw [hj]; simpa using ew) fin hs
  · have hj : (i + (its.toArray.size : Int)).toNat = j := by
      rw [seqIndex_neg (by omega) h4] at h1
      rw [List.size_toArray, ← hl]
      exact Option.some.inj h1
    exact subscriptTail_builtinR (x := w) pl.isList.typeIs slot_list_getitem.lookup
      (wpAny_getItem_list_neg (Q := fun r s' => r = w ∧ EP X pins σ Q r s') pl.isList (by omega) (by rw [List.size_toArray] <;> omega) (by omega) (by rw [hj]; simpa using ew) ⟨rfl, fin⟩) hs
theorem ix_tup : IxR X (rIxT X.K) := by
  intro value slice pins s σ H x y v u Q I rx ry h hs
  obtain ⟨p, xs, i, z, rfl, rfl, hq, he, q⟩ := h
  cases rx
  obtain ⟨t, rfl⟩ := ry
  obtain ⟨its, r, pl, hz⟩ := I.tuple hq
  obtain ⟨j, h1, h2, h3, h4, h5⟩ := atI_get he
  obtain ⟨w, ew, rw'⟩ := r.get h2
  have hl := r.length
  have hn := line63
  have fin : EP X pins σ Q w s := ⟨z, H, I, rw', q⟩
  exact subscriptTail_builtinR (x := w) pl.typeIs slot_tuple_getitem.lookup
    (getItem_tuple (j := j) (Q := fun r s' => r = w ∧ EP X pins σ Q r s') pl (by omega) (by omega) (by rw [List.size_toArray, ← hl]; exact h1) (by simpa using ew) ⟨rfl, fin⟩) hs
/-! ### xs[i] = v, any sign -/
/-- the list's object behind a store -/
theorem mapSeq_set (its : List Value) (n j : Nat) (u : Value) : Obj.mapSeq (·.setIfInBounds j u) { cls := .type "list", data := .seq its.toArray n } = { cls := .type "list", data := .seq (its.set j u).toArray n } := by
  simp [Obj.mapSeq]
theorem Inv.lst {pins : List (Addr × Obj)} {σ : St} {H : Hp} {s : Shared} {p : Addr} {xs : List V} (I : Inv X pins σ H s) (h : H p = some (.lst xs)) :
    ∃ (its : List Value) (n : Nat), Vals xs its ∧ s.heap.get? p = some { cls := .type "list", data := .seq its.toArray n } ∧ xs.length ≤ sizeLine := by
  obtain ⟨z, its, n, r, e⟩ := I.hok p _ h
  exact ⟨its, n, r, e, z⟩
/-- the list at p is written by an update of its object -/
theorem Inv.lstUpd {pins : List (Addr × Obj)} {σ : St} {H : Hp} {s : Shared} {p : Addr} {xs ys : List V} {its its' : List Value} {n n' : Nat} {f : Obj → Obj} (I : Inv X pins σ H s) (h : H p = some (.lst xs))
    (ho : s.heap.get? p = some { cls := .type "list", data := .seq its.toArray n }) (hf : f { cls := .type "list", data := .seq its.toArray n } = { cls := .type "list", data := .seq its'.toArray n' }) (r : Vals ys its') (hz : ys.length ≤ sizeLine) (t : Nat) :
    Inv X pins σ (upd H p (.lst ys)) { s with heap := s.heap.update p f, toks := t } := by
  have e : (s.heap.update p f).get? p = some { cls := .type "list", data := .seq its'.toArray n' } := by
    rw [Heap.get?_update_self f ho (by rw [hf] <;> rfl), hf]
  refine I.write (x := p) (e := p) (by rw [h]; trivial) (.inl rfl) (fun b u hb q => (Heap.get?_update_other _ _ (Ne.symm hb)).trans q) ⟨_, e⟩ ?_
  exact ⟨hz, its', n', r, e⟩
def rSetL : V → V → V → Hp → (Hp → Prop) → Prop := fun o i v H Q => ∃ p xs k j, o = .ref p ∧ i = .int k ∧ H p = some (.lst xs) ∧ ixN xs.length k = some j ∧ Q (upd H p (.lst (xs.set j v)))
theorem set_list : PSet X rSetL := by
  intro pins s σ H o i v ov iv u Q I ro ri rv h
  obtain ⟨p, xs, k, j, rfl, rfl, hp, hj, q⟩ := h
  cases ro
  obtain ⟨t, rfl⟩ := ri
  obtain ⟨its, n, r, ho, hz⟩ := I.lst hp
  obtain ⟨h1, h2, h3, h4⟩ := ixN_seq hj
  have hl := r.length
  have hn := line63
  have I' : Inv X pins σ (upd H p (.lst (xs.set j v))) { s with heap := s.heap.update p (Obj.mapSeq (·.setIfInBounds j u)) } :=
    I.lstUpd hp ho (mapSeq_set its n j u) (r.set rv j) (by rw [List.length_set]; exact hz) s.toks
  by_cases h0 : 0 ≤ k
  · have hk : k.toNat = j := by
      rw [seqIndex_of h0 h4] at h1
      exact Option.some.inj h1
    exact PySem.W.ki_setAt ho h0 (by omega) (by rw [List.size_toArray, ← hl]; exact h4) (by rw [hk]; exact ⟨_, I', q⟩)
  · have hk : (k + (its.toArray.size : Int)).toNat = j := by
      rw [seqIndex_neg (by omega) h3] at h1
      rw [List.size_toArray, ← hl]
      exact Option.some.inj h1
    exact PySem.W.ki_setBack ho (by omega) (by rw [List.size_toArray, ← hl]; exact h3) (by omega) (by rw [hk]; exact ⟨_, I', q⟩)

/-! ### slices -/
theorem slice_bounds (lo hi : Option Int) (n : Nat) : (sliceBounds lo hi none n).1 = ((HT.sIx n 0 lo : Nat) : Int) ∧ (sliceBounds lo hi none n).2.1 = ((HT.sIx n n hi : Nat) : Int) ∧ (sliceBounds lo hi none n).2.2 = 1 := by
  refine ⟨?_, ?_, rfl⟩
  · cases lo with
    | none => simp [sliceBounds, HT.sIx]
    | some i =>
      simp only [sliceBounds, HT.sIx, Option.getD_none, show (1 : Int) > 0 by decide, if_true]
      by_cases h : i < 0
      · simp only [h, if_true] <;> omega
      · simp only [h, if_false] <;> omega
  · cases hi with
    | none => simp [sliceBounds, HT.sIx]
    | some i =>
      simp only [sliceBounds, HT.sIx, Option.getD_none, show (1 : Int) > 0 by decide, if_true]
      by_cases h : i < 0
      · simp only [h, if_true] <;> omega
      · simp only [h, if_false] <;> omega
theorem slicePick_cut (its : List Value) (lo hi : Option Int) : slicePick its.toArray lo hi none = ((its.drop (HT.sIx its.length 0 lo)).take (HT.sIx its.length its.length hi - HT.sIx its.length 0 lo)).toArray := by
  obtain ⟨h1, h2, h3⟩ := slice_bounds lo hi its.toArray.size
  unfold slicePick
  rw [h1, h2, h3]
  simp only [sliceRange_one, pick_run, List.size_toArray] <;> rfl
/-- xs[lo:hi] of a list: a new list -/
def rSlL (K : PySem.W.Frag) : V → Option Int → Option Int → Hp → VK → Prop := fun x lo hi H Q => ∃ a xs, x = .ref a ∧ SqL K H a xs ∧ ∀ p, H p = none → Q (.ref p) (upd H p (.lst (cutV xs lo hi)))
theorem sl_list : SlR X (rSlL X.K) := by
  intro pins s σ H x v vl vu lo hi sl Q I rx hs pl pu h
  obtain ⟨a, xs, rfl, hx, q⟩ := h
  cases rx
  obtain ⟨its, r, ht, hz⟩ := I.list hx
  have hlen := r.length
  refine ⟨"list", _, slot_list_getitem.lookup, ht.isList.typeIs, ?_⟩
  refine wpAny_getItem_list_slice ht.isList hs pl pu .none (by simp) ?_ (by rw [List.size_toArray] <;> omega)
  rw [slicePick_cut, ← hlen]
  refine ⟨.ref s.heap.objs.size, _, I.laid (t' := s.toks) (o := .lst (cutV xs lo hi)) (fun b ob q => Heap.get?_push_of_some _ q) (Nat.le_refl _) ?_, rfl, q _ (I.hok.fresh (Nat.le_refl _))⟩
  exact ⟨Nat.le_trans (cutV_length xs lo hi) hz, _, 0, (r.drop (HT.sIx xs.length 0 lo)).take (HT.sIx xs.length xs.length hi - HT.sIx xs.length 0 lo), Heap.get?_push_size _ rfl⟩

/-! ### len, list(x), tuple(x) of any list or tuple that is read -/
theorem call_len_seq : CallR X (.builtin "len") (fun xs H Q => ∃ p ys, xs = [.ref p] ∧ (SqL X.K H p ys ∨ SqT X.K H p ys) ∧ Q (.int ys.length) H) := by
  intro pins s σ H xs us Q I r h
  obtain ⟨p, ys, rfl, hq, q⟩ := h
  obtain ⟨u, rfl, rx⟩ := vals1 r
  cases rx
  have hn := line63
  rcases hq with hq | hq
  · obtain ⟨its, r', pl, hz⟩ := I.list hq
    have hlen := r'.length
    exact Calls.call_len_list pl.isList (by simp only [List.size_toArray] <;> omega) ⟨.int ys.length, H, I.tok _, ⟨s.toks + 1, by rw [List.size_toArray, hlen]⟩, q⟩
  · obtain ⟨its, r', pl, hz⟩ := I.tuple hq
    have hlen := r'.length
    exact len_tuple pl (by simp only [List.size_toArray] <;> omega) ⟨.int ys.length, H, I.tok _, ⟨s.toks + 1, by rw [List.size_toArray, hlen]⟩, q⟩
theorem call_list_of : CallR X (.type "list") (fun xs H Q => ∃ p ys, xs = [.ref p] ∧ (SqL X.K H p ys ∨ SqT X.K H p ys) ∧ ∀ l, H l = none → Q (.ref l) (upd H l (.lst ys))) := by
  intro pins s σ H xs us Q I r h
  obtain ⟨p, ys, rfl, hq, q⟩ := h
  obtain ⟨u, rfl, rx⟩ := vals1 r
  cases rx
  have fin : ∀ (its : List Value), Vals ys its → ys.length ≤ sizeLine → ∀ (h' : Heap) (c' : Nat), (∀ b o', s.heap.get? b = some o' → h'.get? b = some o') →
      h'.get? s.heap.objs.size = some { cls := .type "list", dict := none, data := .seq its.toArray c', slots := #[] } → EP X pins σ Q (.ref s.heap.objs.size) { s with heap := h' } := fun its r' hz h' c' kp e =>
    ⟨.ref s.heap.objs.size, _, I.laid (t' := s.toks) kp (Nat.le_refl _) (show ObjOk X.prog X.w _ h' _ (.lst ys) from ⟨hz, its, c', r', e⟩), rfl, q _ (I.hok.fresh (Nat.le_refl _))⟩
  rcases hq with hq | hq
  · obtain ⟨its, r', pl, hz⟩ := I.list hq
    have hlen := r'.length
    obtain ⟨o, ho, hc, n, hd⟩ := pl.isList
    exact call_list_seq p (.inl rfl) ho hc hd (fun h' c' kp e => fin its r' hz h' c' kp e) (by simp only [List.size_toArray] <;> omega)
  · obtain ⟨its, r', pl, hz⟩ := I.tuple hq
    have hlen := r'.length
    obtain ⟨o, ho, hc, n, hd⟩ := pl
    exact call_list_seq p (.inr rfl) ho hc hd (fun h' c' kp e => fin its r' hz h' c' kp e) (by simp only [List.size_toArray] <;> omega)
/-! ### the call of a builtin's method: o.m(..) -/
/-- the value is of that builtin type -/
def tyV (K : PySem.W.Frag) (T : String) (x : V) (H : Hp) : Prop := match x with
  | .str _ => T = "str"
  | .int _ => T = "int"
  | .ref p => (T = "list" ∧ ∃ xs, SqL K H p xs) ∨ (T = "tuple" ∧ ∃ o, K.lookup p = some o ∧ o.cls = .type "tuple" ∧ o.dict = none) ∨
      (T = "dict" ∧ ((∃ kvs, H p = some (.dK kvs)) ∨ ∃ kvs, H p = some (.dT kvs))) ∨ (T = "set" ∧ ∃ S n, H p = some (.set S n))
  | _ => False
theorem tyV_is {pins : List (Addr × Obj)} {σ : St} {H : Hp} {s : Shared} {T : String} {x : V} {v : Value} (I : Inv X pins σ H s) (r : RelV x v) (ty : tyV X.K T x H) :
    s.TypeIs v T ∧ ∀ a, v = .ref a → ∃ ob, s.heap.get? a = some ob ∧ ob.dict = none := by
  cases x with
  | str z =>
    obtain ⟨t, rfl⟩ := r
    cases (show T = "str" from ty)
    exact ⟨typeIs_str s z t, fun _ e => nomatch e⟩
  | int i =>
    obtain ⟨t, rfl⟩ := r
    cases (show T = "int" from ty)
    exact ⟨typeIs_int s i t, fun _ e => nomatch e⟩
  | ref p =>
    cases r
    rcases ty with ⟨rfl, xs, hq⟩ | ⟨rfl, o, hk, hc, hd⟩ | ⟨rfl, hk⟩ | ⟨rfl, S, n, hk⟩
    · obtain ⟨its, _, pl, _⟩ := I.list hq
      refine ⟨pl.isList.typeIs, fun a e => ?_⟩
      cases e
      obtain ⟨o, n, e, c, hd, _⟩ := pl
      exact ⟨o, e, hd⟩
    · refine ⟨⟨o, I.kIn p o hk, hc⟩, fun a e => ?_⟩
      cases e
      exact ⟨o, I.kIn _ o hk, hd⟩
    · have z : ∃ o, s.heap.get? p = some o ∧ o.ExactDict := by
        rcases hk with ⟨kvs, hk⟩ | ⟨kvs, hk⟩
        · obtain ⟨_, _, _, _, o, _, _, e, ex, _⟩ := I.hok p _ hk
          exact ⟨o, e, ex⟩
        · obtain ⟨_, _, _, _, o, _, _, e, ex, _⟩ := I.hok p _ hk
          exact ⟨o, e, ex⟩
      obtain ⟨o, e, ex⟩ := z
      refine ⟨⟨o, e, ex.1⟩, fun a e2 => ?_⟩
      cases e2
      exact ⟨o, e, ex.2.1⟩
    · obtain ⟨o, _, _, _, e, ex, _⟩ := I.hok p _ hk
      refine ⟨⟨o, e, ex.1⟩, fun a e2 => ?_⟩
      cases e2
      exact ⟨o, e, ex.2.1⟩
  | _ => exact False.elim ty
def tBM0 (K : PySem.W.Frag) (T : String) (r : V → List V → Hp → VK → Prop) (to : TE) : TE := fun σ H Q => to σ H fun x H1 => tyV K T x H1 ∧ r x [] H1 Q
def tBM (K : PySem.W.Frag) (T : String) (r : V → List V → Hp → VK → Prop) (to : TE) (t : TA) : TE := fun σ H Q => to σ H fun x H1 => tyV K T x H1 ∧ t σ H1 fun xs H2 => r x xs H2 Q
variable {o e : Expr} {es : List Expr} {to : TE} {t : TA} {name : Str} {apos cpos : Pos} {T id : String} {r : V → List V → Hp → VK → Prop}
theorem pe_bm0 (pa : PlainAttrs T) (slot : Slot T name id) (hty : typeOf (.builtin id) = pure (.type "method_descriptor")) (hm : MtR X id r) (ho : PE X o to)
    (hbase : attributeBase o name X.env (eval o X.env) = eval o X.env := by rfl) (hline : (apos.endLine == cpos.line) = true := by rfl) : PE X (.Call (.Attribute o name apos) [] [] cpos) (tBM0 X.K T r to) := by
  intro pins s σ H Q I h
  refine wpAny_Call_method0_late hbase hline (thn (ho pins s σ H _ I h) fun v s1 ⟨x, H1, I1, r1, ty, q1⟩ => ?_)
  obtain ⟨h1, h2⟩ := tyV_is I1 r1 ty
  exact ⟨T, id, pa, slot, hty, h1, h2, Calls.callWith_builtin rfl (PySem.evalArgs_none (hm pins s1 σ H1 x [] v [] Q I1 r1 .nil q1))⟩
theorem pe_bm (pa : PlainAttrs T) (slot : Slot T name id) (hty : typeOf (.builtin id) = pure (.type "method_descriptor")) (hm : MtR X id r) (ho : PE X o to) (ha : PA X (e :: es) t)
    (hbase : attributeBase o name X.env (eval o X.env) = eval o X.env := by rfl)
    (hfew : ((backTo cpos (starEach (e :: es) X.env)).all (fun x => !x.1) && (backToKw cpos (keywordEach [] X.env)).all (fun x => x.1.isSome)
      && decide ((e :: es).length + ([] : List Keyword).length + (if ([] : List Keyword).isEmpty then 0 else 1) < 30)) = true := by rfl)
    (hline : (apos.endLine == cpos.line) = true := by rfl) (hs : starEach (e :: es) X.env = (false, eval e X.env) :: starEach es X.env := by rfl) (hplain : (backTo cpos (starEach es X.env)).any (·.1) = false := by rfl) :
    PE X (.Call (.Attribute o name apos) (e :: es) [] cpos) (tBM X.K T r to t) := by
  intro pins s σ H Q I h
  refine wpAny_Call_method_late hbase hfew hline rfl (thn (ho pins s σ H _ I h) fun v s1 ⟨x, H1, I1, r1, ty, q1⟩ => ?_)
  obtain ⟨h1, h2⟩ := tyV_is I1 r1 ty
  refine ⟨T, id, pa, slot, hty, h1, h2, ?_⟩
  have hA := ha cpos pins s1 σ H1 _ I1 q1
  rw [hs] at hA ⊢
  refine Calls.callWith_builtin (by show (false || (backTo cpos (starEach es X.env)).any (·.1)) = false; rw [hplain] <;> rfl) (Calls.evalArgs_plain ?_)
  exact thn hA fun us s2 ⟨vs, H2, I2, r2, q2⟩ => hm pins s2 σ H2 x vs v us Q I2 r1 r2 q2
/- xs.append(e), list.index on a module's tuple .. are MtR facts of 06m -/
end
end L2

namespace L2
open PySem PySem.Spec PyProof.Rows

def MtM (X : Cx) (id : String) (r : V → List V → Hp → VK → Prop) : Prop :=
  ∀ (pins : List (Addr × Obj)) (s : Shared) (σ : St) (H : Hp) (x : V) (xs : List V) (v : Value) (us : List Value) (Q : VK), Inv X pins σ H s → RelV x v → Vals xs us → r x xs H Q →
    wpAny (model X.prog X.w) X.A (call (.builtin id) (v :: us)) (EP X pins σ Q) X.xe s

/-! ### lists of values -/
theorem Vals.one : ∀ {x : V} {us : List Value}, Vals [x] us → ∃ u, us = [u] ∧ RelV x u
  | _, _, .cons r .nil => ⟨_, rfl, r⟩
theorem Vals.zero : ∀ {us : List Value}, Vals [] us → us = []
  | _, .nil => rfl
theorem Vals.reverse {xs : List V} {us : List Value} (h : Vals xs us) : Vals xs.reverse us.reverse := by
  induction h with
  | nil => exact .nil
  | cons r t ih => rw [List.reverse_cons, List.reverse_cons]; exact Vals.append ih (.cons r .nil)
section
variable {X : Cx} {pins : List (Addr × Obj)} {σ : St} {H : Hp} {s : Shared} {l b : Addr} {xs ys zs : List V}

/-! ### the two steps: a tracked list is rewritten, a new list is laid -/
theorem Inv.lset {its its' : List Value} {n : Nat} {f : Array Value → Array Value} {t' : Nat} (I : Inv X pins σ H s) (hH : H l = some (.lst xs))
    (e : s.heap.get? l = some { cls := .type "list", data := .seq its.toArray n }) (hf : f its.toArray = its'.toArray) (hv : Vals ys its') (hz : ys.length ≤ sizeLine) :
    Inv X pins σ (upd H l (.lst ys)) { s with heap := s.heap.update l (Obj.mapSeq f), toks := t' } := by
  have q := PySem.IsL.update e f
  rw [hf] at q
  refine I.write (x := l) (e := l) (by rw [hH]; exact trivial) (.inl rfl) (fun b' u hb hu => (Heap.get?_update_other s.heap (Obj.mapSeq f) (Ne.symm hb)).trans hu) ⟨_, q⟩ ?_
  exact ⟨hz, its', _, hv, q⟩
theorem Inv.lnew {its : List Value} {t' : Nat} (I : Inv X pins σ H s) (hv : Vals ys its) (hz : ys.length ≤ sizeLine) :
    Inv X pins σ (upd H s.heap.objs.size (.lst ys)) { s with heap := s.heap.push { cls := .type "list", data := .seq its.toArray }, toks := t' } :=
  I.laid (fun _ _ q => Heap.get?_push_of_some _ q) (Nat.le_refl _) ⟨hz, its, 0, hv, Heap.get?_push_size _ rfl⟩
theorem Inv.fresh (I : Inv X pins σ H s) : H s.heap.objs.size = none := I.hok.fresh (Nat.le_refl _)
theorem Inv.lstM (I : Inv X pins σ H s) (hH : H l = some (.lst xs)) : xs.length ≤ sizeLine ∧ ∃ (its : List Value) (n : Nat), Vals xs its ∧ xs.length = its.length ∧ s.heap.get? l = some { cls := .type "list", data := .seq its.toArray n } := by
  obtain ⟨z, its, n, r, e⟩ := I.hok l _ hH
  exact ⟨z, its, n, r, r.length, e⟩

theorem notLongL {n : Nat} (h : n ≤ sizeLine) : Builtin.List.listTooLong n = false := by
  unfold Builtin.List.listTooLong
  exact decide_eq_false (by omega)
end

section
variable {X : Cx}

/-! ### methods -/
def rAppend : V → List V → Hp → VK → Prop := fun x vs H Q => ∃ l xs y, x = .ref l ∧ vs = [y] ∧ H l = some (.lst xs) ∧ xs.length < sizeLine ∧ Q .non (upd H l (.lst (xs ++ [y])))
theorem mt_append : MtM X "list.append" rAppend := by
  intro pins s σ H x vs v us Q I rx rv h
  obtain ⟨l, xs, y, rfl, rfl, hH, hz, q⟩ := h
  cases rx
  obtain ⟨u, rfl, ru⟩ := rv.one
  obtain ⟨z, its, n, r, hl, e⟩ := I.lstM hH
  refine call_meets F.slot_list_append ⟨_, e, rfl⟩ F.entry_list_append (F.args_list_append_2 _ _) (PySem.list_append l its.toArray n u (by rw [List.size_toArray]; omega)) ⟨e, ?_⟩
  refine ⟨.non, _, I.lset (its' := its ++ [u]) hH e (by simp) (r.append (.cons ru .nil)) ?_, rfl, q⟩
  rw [List.length_append, List.length_singleton]
  omega

def rExtend : V → List V → Hp → VK → Prop := fun x vs H Q => ∃ l b xs zs, x = .ref l ∧ vs = [.ref b] ∧ H l = some (.lst xs) ∧ H b = some (.lst zs) ∧ xs.length + zs.length ≤ sizeLine ∧ Q .non (upd H l (.lst (xs ++ zs)))
theorem mt_extend : MtM X "list.extend" rExtend := by
  intro pins s σ H x vs v us Q I rx rv h
  obtain ⟨l, b, xs, zs, rfl, rfl, hH, hB, hz, q⟩ := h
  cases rx
  obtain ⟨u, rfl, ru⟩ := rv.one
  cases ru
  obtain ⟨z, its, n, r, hl, e⟩ := I.lstM hH
  obtain ⟨z2, its2, n2, r2, hl2, e2⟩ := I.lstM hB
  have hsz : its.toArray.size + its2.toArray.size ≤ sizeLine := by rw [List.size_toArray, List.size_toArray]; omega
  have hlong : ¬ (!its.toArray.isEmpty && Builtin.List.listTooLong (its.toArray.size + its2.toArray.size)) = true := by
    rw [notLongL hsz, Bool.and_false]
    exact Bool.false_ne_true
  refine call_meets F.slot_list_extend ⟨_, e, rfl⟩ F.entry_list_extend (F.args_list_extend_2 _ _)
    (AutoSeq1.list_extend_list_list_0 l its.toArray n b its2.toArray n2 hlong (by rw [List.size_toArray]; omega) (by omega)) ⟨e, e2, ?_⟩
  refine ⟨.non, _, I.lset (its' := its ++ its2) hH e (by simp) (r.append r2) ?_, rfl, q⟩
  rw [List.length_append]
  omega

def rClear : V → List V → Hp → VK → Prop := fun x vs H Q => ∃ l xs, x = .ref l ∧ vs = [] ∧ H l = some (.lst xs) ∧ Q .non (upd H l (.lst []))
theorem mt_clear : MtM X "list.clear" rClear := by
  intro pins s σ H x vs v us Q I rx rv h
  obtain ⟨l, xs, rfl, rfl, hH, q⟩ := h
  cases rx
  have hus := rv.zero
  subst hus
  obtain ⟨z, its, n, r, hl, e⟩ := I.lstM hH
  refine call_meets F.slot_list_clear ⟨_, e, rfl⟩ F.entry_list_clear (F.args_list_clear_1 _) (AutoSeq1.list_clear_list_0 l its.toArray n (by rw [List.size_toArray]; omega)) ⟨e, ?_⟩
  exact ⟨.non, _, I.lset (its' := []) (ys := []) hH e rfl .nil (Nat.zero_le _), rfl, q⟩

/-! ### list + list, list += list, list * int -/
def rCat : R2 := fun x y H Q => ∃ l b xs zs, x = .ref l ∧ y = .ref b ∧ H l = some (.lst xs) ∧ H b = some (.lst zs) ∧ xs.length + zs.length ≤ sizeLine ∧ ∀ p, H p = none → Q (.ref p) (upd H p (.lst (xs ++ zs)))
theorem op_cat : OpR X (binaryOp .Add) rCat := by
  intro pins s σ H x y v u Q I rx ry h
  obtain ⟨l, b, xs, zs, rfl, rfl, hH, hB, hz, q⟩ := h
  cases rx
  cases ry
  obtain ⟨z, its, n, r, hl, e⟩ := I.lstM hH
  obtain ⟨z2, its2, n2, r2, hl2, e2⟩ := I.lstM hB
  refine PySem.P.add_list e e2 ?_ (by rw [List.size_toArray, List.size_toArray]; omega)
  have ea : its.toArray ++ its2.toArray = (its ++ its2).toArray := by simp
  rw [ea]
  exact ⟨.ref _, _, I.lnew (t' := s.toks) (r.append r2) (by rw [List.length_append]; omega), rfl, q _ I.fresh⟩
end

/-! ### xs[a:b] = ys -/
section
variable {prog : Program} {w : World} {A : Around} {E : Value → Shared → Prop} {s : Shared}
set_option maxRecDepth 100000 in
end

section
variable {X : Cx}
end
end L2

namespace Att
open PySem PySem.W PySem.Calls PyProof.Rows

/-! ### the script -/
theorem ints_of_wellAll {P : Params} {h : Heap} : ∀ (ns : List Int) (vs : List Value), WellAll P h vs (ns.map WData.int) → IntsAre vs ns := by
  intro ns
  induction ns with
  | nil =>
    intro vs w
    rw [List.map_nil] at w
    cases w
    exact .nil
  | cons n ns ih =>
    intro vs w
    rw [List.map_cons] at w
    cases w with
    | cons a b =>
      cases a
      exact .cons _ _ (ih _ b)

theorem script_of {l : OpenLaw} {n : Nat} (hn : l.most = some n) {P : Params} {h : Heap} {args : List WData} {vals : List Value}
    (hpre : l.row.toRowW.claim.pre args = true) (hwl : WellAll P h vals args) :
    ∃ a vs ns, vals = [Value.ref a] ∧ args = [WData.list (ns.map WData.int)] ∧ h.get? a = some { cls := .type "list", data := .seq vs.toArray } ∧ IntsAre vs ns ∧ ns.length ≤ n := by
  have hsh : WShape.hasAll [] args [.list .int] = true := (pre_splitW hpre).1
  have hc : l.pre.holds [] { args := args } = true := (pre_splitW hpre).2
  obtain ⟨d, r, rfl, h1, h2⟩ := hasAllW_cons hsh
  obtain rfl := hasAllW_nil h2
  obtain ⟨xs, rfl, h3⟩ := hasW_list h1
  obtain ⟨ns, rfl⟩ := items_int h3
  have hlen : ns.length ≤ n := by
    unfold OpenLaw.pre at hc
    have h4 : (WTm.not (.lt (.lit (.int (n : Int))) (.len (.arg 0)))).holds [] { args := [.list (ns.map .int)] } = true := by
      have h4 := (holds_andW hc).1
      rw [hn] at h4
      exact h4
    have h5 := condW_of h4 (w_not (w_lt w_lit (w_len_list (w_arg rfl))))
    rw [List.length_map] at h5
    refine Nat.le_of_not_lt fun q => ?_
    have q' : (n : Int) < ((ns.length : Nat) : Int) := by omega
    first
      | (rw [decide_eq_true q'] at h5; exact absurd h5 (by decide))
      | (simp at h5; omega)
  cases hwl with
  | cons w1 w2 =>
    cases w2
    cases w1 with
    | list ho hall => exact ⟨_, _, ns, rfl, rfl, ho, ints_of_wellAll ns _ hall, hlen⟩

theorem post_true (l : OpenLaw) (args : List WData) : l.row.toRowW.claim.post args (.bool true) args = true :=
  postW_of (r := l.row.toRowW) (X := (true == true))
    (show WShape.has [] (.bool true) .bool = true by first | rfl | decide | simp [WShape.has, WShape.arms, WShape.armsAll])
    (show (WTm.eq .res (.lit (.bool true))).value [] { args := args, res := some (.bool true), after := args } = some (.bool (true == true)) from w_eq_bool (w_res rfl) w_lit) rfl

/-- the same from a codeAny of the CALL (for a layer whose function contracts speak of calls) -/
theorem attach_call {l : OpenLaw} {n : Nat} {q : Program} {loose : List Str} {XP : (Str → Option Value) → Heap → Prop} {YP : World → Heap → Prop} {d : DefRec}
    (hn : l.most = some n) (hdf : d.params.defaults = [])
    (call : ∀ (w : World) (s₀ s₁ : Shared) (mg mb : Str → Option Value) (fa : Addr) (o : Obj) (pm cd doc : Value) (a : Addr) (vs : List Value) (ns : List Int),
      Ground q loose [] XP w s₀ mg mb s₁.heap → YP w s₁.heap →
      s₁.heap.get? fa = some o → o.data = .func (docDef d.name d.params d.body d.scope pm cd doc) → s₁.heap.CodeRec cd d.name → mg d.name = some (.ref fa) →
      s₁.heap.get? a = some { cls := .type "list", data := .seq vs.toArray } → IntsAre vs ns → ns.length ≤ n → s₁.gens = #[] →
      codeAny (model l.prog w) callerA (.call (.ref fa) ⟨[.ref a], []⟩) (fun r s' => r = .ok (.ret (.bool true)) ∧ OldK s₁.heap s'.heap ∧ s'.os = s₁.os ∧ AllBare s'.gens) s₁) :
    WalkO q loose XP YP l.row.toRowW d [] (fun f vs => PySem.call f vs) := by
  intro w s₀ s₁ mg mb G Y fa o pm cd doc dV kV ho hd hcd hD hmg hg args vals as hpre hlay hrd hwl hlo
  obtain rfl : dV = .none := Dflts.none hD hdf
  obtain rfl : kV = .none := Dflts.noKw hD
  obtain ⟨a, vs, ns, rfl, rfl, hobj, hints, hlen⟩ := script_of hn hpre hwl
  refine enter_call (codeAny_mono (call w s₀ s₁ mg mb fa o pm cd doc a vs ns G Y ho (fd_plain hd) hcd hmg hobj hints hlen hg) fun r s' hq => ?_)
  obtain ⟨rfl, h2, h3, h4⟩ := hq
  exact ⟨.inl ⟨.bool true, .bool true, [], rfl, fun _ => rfl, .bool true, post_true l _, fun _ => ⟨List.Pairwise.nil, fun _ hm => (nomatch hm)⟩⟩, h2, h3, h4⟩

/-! ### rules over ANY heap (no ledger) from facts about the written part K: the library's own take a ledger (News) for what they write -/
section
variable {prog : Program} {w : World} {A : Around} {E : Value → Shared → Prop} {s : Shared} {K : Frag}

end
end Att

namespace L2
open PySem PySem.Spec PyProof.Rows

theorem vals_ints : ∀ {vs : List Value} {ns : List Int}, IntsAre vs ns → Vals (ns.map V.int) vs
  | _, _, .nil => .nil
  | _, _, .cons n t h => .cons ⟨t, rfl⟩ (vals_ints h)

/-- nothing is tracked but the script, known to the object (or it is an object of the module) -/
def Only (H : Hp) : Prop := ∀ b, H b = none ∨ ∃ o xs, H b = some (.frz o (.lst xs))

/-- THE HEAD: the law's promise, at the heap behind the top. F, the promise of the law's def, may use that base is part of the heap (so K.In base, base.Ns mainGlobals mg stand in Mod) -/
theorem law_call {P : Program} {w : World} {K : PySem.W.Frag} {mg mb : Str → Option Value} {CX : CXT} {k : Nat} {fa a : Addr} {fd : FuncData} {x : Str} {sp : Sp} {s₁ : Shared} {vs : List Value} {ns : List Int}
    (KX : K.In s₁.heap) (hns : s₁.heap.Ns mainGlobals mg) (hb : s₁.heap.Ns builtinsNs mb) (hbb : ∀ x : Str, x ≠ "__name__" → mb x = bootBuiltins x) (hlim : s₁.heap.NoLimit) (hg : s₁.gens = #[])
    (ha : s₁.heap.get? a = some { cls := .type "list", data := .seq vs.toArray }) (hi : IntsAre vs ns) (hl : ns.length ≤ sizeLine) (hr : Room k callerA)
    (F : ∀ base : Heap, K.In base → base.Ns mainGlobals mg → FnOk P w K mg base CX k fa fd [x] sp) (hbind : ∀ (s : Shared) (u : Value), BindsTo s fd ⟨[u], []⟩ [(x, u)])
    (hsp : ∀ H : Hp, Only H → SqL K H a (ns.map V.int) → sp [.ref a] H (fun v _ => v = .bl true) fun _ _ _ => False)
    (hCX : ∀ H e s', CX [] H s₁ (fun _ _ _ => False) e s' → False) :
    codeAny (model P w) callerA (.call (.ref fa) ⟨[.ref a], []⟩) (fun r s' => r = .ok (.ret (.bool true)) ∧ OldK s₁.heap s'.heap ∧ s'.os = s₁.os ∧ AllBare s'.gens) s₁ := by
  have rv := vals_ints hi
  have lenV := hi.length
  -- from an abstract heap in which nothing but the script may be tracked
  have core : ∀ H : Hp, Only H → SqL K H a (ns.map V.int) → HOk P w H s₁.heap → (∀ b, H b ≠ none → b = a) → (H a ≠ none → K.lookup a = none) →
      codeAny (model P w) callerA (.call (.ref fa) ⟨[.ref a], []⟩) (fun r s' => r = .ok (.ret (.bool true)) ∧ OldK s₁.heap s'.heap ∧ s'.os = s₁.os ∧ AllBare s'.gens) s₁ := by
    intro H hO hS hok hA hK
    have base_of : ∀ {b : Addr} {o : Obj}, s₁.heap.get? b = some o → H b = none → (hidT s₁.heap H).get? b = some o := fun e n => hidT_get e n
    have noA : ∀ {b : Addr} {o : Obj} {es : Array DictEntry} {ep : Nat}, s₁.heap.get? b = some o → o.data = .dict es ep → H b = none := fun {b o es ep} e d => by
      cases q : H b with
      | none => rfl
      | some u =>
        have e' : b = a := hA b (by rw [q]; simp)
        subst e'
        rw [ha] at e; cases e
        have d' : Data.seq vs.toArray _ = Data.dict es ep := d
        cases d'
    have nsK : ∀ {b : Addr} {m : Str → Option Value}, s₁.heap.Ns b m → (hidT s₁.heap H).Ns b m := fun {b m} ⟨o, es, ep, e, d, r⟩ => ⟨o, es, ep, base_of e (noA e d), d, r⟩
    have hKb : K.In (hidT s₁.heap H) := fun b o e => base_of (KX b o e) (by
      cases q : H b with
      | none => rfl
      | some u =>
        have e' : b = a := hA b (by rw [q]; simp)
        subst e'
        rw [hK (by rw [q]; simp)] at e; cases e)
    have hM : Mod K mg (hidT s₁.heap H) := ⟨hKb, nsK hns, ⟨mb, nsK hb, hbb⟩, let ⟨mc, h1, h2⟩ := hlim; ⟨mc, nsK h1, h2⟩⟩
    have e0 : Env0 P w K mg (hidT s₁.heap H) callerA [] s₁ H := ⟨rfl, hM, fun b o e => of_hidT e, Nat.le_of_eq (hidT_size _ _), trivial, fun b hb => absurd (show b ∈ ([] : List Addr) from hb) (by simp), hok, .of_eq hg⟩
    refine codeAny_mono ((F _ hKb (nsK hns)).run callerA [] s₁ H ⟨[.ref a], []⟩ [.ref a] [.ref a] _ _ hr e0 (hbind s₁ (.ref a)) (.cons rfl .nil) (hsp H hO hS)) fun r s' h => ?_
    cases r with
    | error e => exact (hCX H e s' h).elim
    | ok fl =>
      cases fl with
      | next => exact False.elim h
      | brk => exact False.elim h
      | cont => exact False.elim h
      | ret u =>
        obtain ⟨v, H', os, bare, un, hok', r', q⟩ := h
        have q' : v = .bl true := q
        subst q'
        obtain rfl : u = Value.bool true := r'
        refine ⟨rfl, OldK.of_keep fun b o e => ?_, os, bare⟩
        cases q : H b with
        | none => exact un.keep b o e q (by intro z; exact absurd (show b ∈ ([] : List Addr) from z) (by simp)) (by simp)
        | some u =>
          rcases hO b with z | ⟨ob, xs, z⟩
          · rw [q] at z; cases z
          · have z2 := un.frzs b ob _ z
            obtain ⟨e1, _⟩ := hok b _ z
            obtain ⟨e2, _⟩ := hok' b _ z2
            rw [e] at e1; cases e1
            exact e2
  cases hk : K.lookup a with
  | some o =>
    -- the script is one of the module's own objects
    have e := KX a o hk
    rw [ha] at e
    cases e
    refine core (fun _ => none) (fun _ => .inl rfl) (.inr ⟨_, vs.toArray, _, hk, rfl, rfl, rfl, by rw [List.size_toArray, lenV]; exact hl, by simpa using rv⟩) (fun b u z => by have z' : (none : Option HO) = some u := z; cases z') (fun b z => absurd rfl z) fun z => absurd rfl z
  | none =>
    refine core (fun b => if b = a then some (.frz { cls := .type "list", data := .seq vs.toArray } (.lst (ns.map V.int))) else none) (fun b => ?_) (.inl (.inr ⟨{ cls := .type "list", data := .seq vs.toArray }, if_pos rfl⟩)) (fun b u z => ?_) (fun b z => ?_) fun _ => hk
    · by_cases hb : b = a
      · exact .inr ⟨_, _, if_pos hb⟩
      · exact .inl (if_neg hb)
    · by_cases hb : b = a
      · have z' := (if_pos hb).symm.trans z
        cases z'
        subst hb
        exact ⟨ha, by rw [List.length_map]; exact hl, vs, _, rv, ha⟩
      · have z' := (if_neg hb).symm.trans z
        cases z'
    · by_cases hb : b = a
      · exact hb
      · exact absurd (if_neg hb) z
end L2

namespace L2
open PySem PySem.Spec PyProof.Rows

/-- the goal that k_head leaves (case hc), from the law's promise. F gives the function object fd (K's own) once, then the promise over every base -/
theorem walk_of {l : PySem.W.OpenLaw} {n k : Nat} {q : Program} {loose : List Str} {XP : (Str → Option Value) → Heap → Prop} {YP : World → Heap → Prop} {d : DefRec} {K : Params → PySem.W.Frag} {CX : World → CXT} {sp : World → Sp} {x : Str}
    (hn : l.most = some n) (hn2 : n ≤ sizeLine) (hdf : d.params.defaults = []) (hr : Room k callerA)
    (hY : ∀ (w : World) (h : Heap), YP w h → (K w.params).In h)
    (F : ∀ (w : World) (mg : Str → Option Value) (fa : Addr) (h : Heap), (K w.params).In h → h.Ns mainGlobals mg → mg d.name = some (.ref fa) →
      ∃ fd : FuncData, (∀ (s : Shared) (u : Value), BindsTo s fd ⟨[u], []⟩ [(x, u)]) ∧
        ∀ base : Heap, (K w.params).In base → base.Ns mainGlobals mg → FnOk l.prog w (K w.params) mg base (CX w) k fa fd [x] (sp w))
    (hsp : ∀ (w : World) (H : Hp) (a : Addr) (ns : List Int), ns.length ≤ n → Only H → SqL (K w.params) H a (ns.map V.int) → sp w [.ref a] H (fun v _ => v = .bl true) fun _ _ _ => False)
    (hCX : ∀ (w : World) (H : Hp) (s : Shared) (e : Value) (s' : Shared), CX w [] H s (fun _ _ _ => False) e s' → False) :
    PySem.W.WalkO q loose XP YP l.row.toRowW d [] (fun f vs => PySem.call f vs) := by
  refine Att.attach_call hn hdf fun w s₀ s₁ mg mb fa o pm cd doc a vs ns G Y ho hd hcd hmg hobj hints hlen hg => ?_
  have KX := hY w _ Y
  obtain ⟨fd, hb, hF⟩ := F w mg fa _ KX G.T.g hmg
  exact law_call KX G.T.g G.T.b G.T.builtins G.T.nolimit hg hobj hints (Nat.le_trans hlen hn2) hr hF hb (fun H hO hS => hsp w H a ns hlen hO hS) fun H e s' => hCX w H s₁ e s'
end L2

/- THE LAST THEOREM (shape; LID, My.* are yours):
   My.Adr: a structure of the addresses that your layer names (classes, functions); My.Txt K t: a structure (Prop) of the equations over K;
   My.txt_mk : {K} {implicit addresses ..} (e1 : nsIn K mainGlobals "law" = some (some (.ref f))) (e2 : K.lookup f = some ⟨oc, od, .func (fnOf "law" "law" params body scope dV kV doc pm an cdv ct), sl⟩) (e3 : codeIn K cdv "law" = true) .. : ∃ t, My.Txt K t

set_option maxRecDepth 100000 in
set_option maxHeartbeats 0 in
theorem PySem.Challenge.cw_LID_holds : PySem.Challenge.rw_LID.Holds := by
  w_on; o_law; k_head; (case hw => w_witness2)
  k_fill
  refine L2.walk_of (l := PySem.Challenge.rw_LID) (n := 63) (k := 40) (x := "script") (CX := fun w => ..) (sp := fun _ => My.sp_law) rfl (by decide) rfl ⟨rfl, by decide, by decide⟩ (fun w h Y => PySem.W.kIn_of Y) ?F ?S ?C
  case F =>
    intro w mg fa h KX G hmg
    have T : ∃ t, My.Txt (L2.KOf KX) t := by
      dsimp only [L2.KOf]                          -- K must stand as «<heap const> w.params» for k_is
      refine' My.txt_mk ?e1 ?e2 ?e3 ..
      (case e1 => PySem.W.k_is)                    -- in the order: a name -> its address -> its object -> its parts
      (case e2 => PySem.W.k_is)
      ..
    obtain ⟨t, T⟩ := T
    have e0 := hmg.symm.trans (PySem.W.mg_of KX G T.law)
    cases e0                                       -- fa is the law's own address
    exact ⟨_, fun s u => .of_eq rfl, fun base kb nb => My.law_fn T kb nb⟩     -- if «.of_eq rfl» comes too early: refine' ⟨_, ?b, fun base kb nb => My.law_fn T kb nb⟩; exact fun s u => .of_eq rfl
  case S => exact fun w H a ns hl hO hS => ..
  case C => exact ..
(the tactic k_is has no namespace: write k_is) -/

/-! SHORT WORDS over the layer: a def of the text, its body, what a loop and a test want. -/
namespace L2
open PySem PySem.Spec PyProof.Rows

/-! ### the text by places -/
def defArgs (s : Stmt) : Arguments := match s with
  | .FunctionDef _ a _ _ _ _ _ _ _ _ => a
  | _ => { posonlyargs := [], args := [], vararg := none, kwonlyargs := [], kw_defaults := [], kwarg := none, defaults := [] }
def defBody (s : Stmt) : List Stmt := match s with
  | .FunctionDef _ _ b _ _ _ _ _ _ _ => b
  | _ => []
def defScope (s : Stmt) : Scope := match s with
  | .FunctionDef _ _ _ _ _ _ sc _ _ _ => sc
  | _ => { kind := .function, names := [], isGenerator := false, isCoroutine := false }

/-! ### no exception leaves a def -/
abbrev CX0 : CXT := fun _ _ _ _ _ _ => False
abbrev E0 : XK := fun _ _ _ => False
theorem pass0 {X : Cx} : Passes CX0 X E0 := fun _ _ _ _ _ _ _ h => h.elim

/-! ### a def (or method) of the text as it stands behind the top -/
structure Fun (K : PySem.W.Frag) (x qual : Str) (st : Stmt) (f : Addr) (fd : FuncData) : Prop where
  ex : ∃ (oc : Value) (od : Option Addr) (kV doc pm : Value) (an : Option Addr) (cdv ct : Value) (osl : Array (Option Value)),
    fd = PySem.W.fnOf x qual (defArgs st) (defBody st) (defScope st) .none kV doc pm an cdv ct ∧ K.lookup f = some ⟨oc, od, .func fd, osl⟩ ∧ PySem.W.codeIn K cdv qual = true
  kp : PySem.W.keepIn K (.ref f) = true
section
variable {P : Program} {w : World} {K : PySem.W.Frag} {mg : Str → Option Value} {base : Heap}
/-- THE RULE for a def: its body as a term of rules, and the reading of that term -/
theorem Fun.ok {x qual : Str} {st : Stmt} {f : Addr} {fd : FuncData} {N ps : List Str} {k : Nat} {sp : Sp} (F : Fun K x qual st f fd) (S : FnScope N ps (defScope st)) (len : ∀ vs H Q E, sp vs H Q E → vs.length = ps.length)
    (hbody : ∀ (cdv : Value) (A : Around) (outer : List Env) (s : Shared) (H : Hp) (vs : List V) (Q : VK) (E : XK), Room k (A.deeper (envOfC qual (defScope st) s.heap.objs.size f cdv)) → sp vs H Q E →
      ∃ t, PSs (cxOf CX0 P w K mg base N qual (defScope st) f cdv A outer s H E).nox (defBody st) t ∧ t { nx := fun _ H' => Q .non H', rt := Q } (start N vs) H) : FnOk P w K mg base CX0 (k + 1) f fd ps sp := by
  obtain ⟨oc, od, kV, doc, pm, an, cdv, ct, osl, rfl, lk, hcd⟩ := F.ex
  refine fn_of lk hcd S len fun A outer s H vs Q E hr hsp => ?_
  obtain ⟨t, h, q⟩ := hbody cdv A outer s H vs Q E hr hsp
  exact ⟨t, h.nox, q⟩
/-- how its arguments bind (no defaults): h is «fun _ _ _ _ _ _ us hl => match us, hl with | [_, _], _ => rfl», one _ a parameter -/
theorem Fun.binds {x qual : Str} {st : Stmt} {f : Addr} {fd : FuncData} {ps : List Str} (F : Fun K x qual st f fd)
    (h : ∀ (kV doc pm : Value) (an : Option Addr) (cdv ct : Value) (us : List Value), us.length = ps.length → bindArgs (PySem.W.fnOf x qual (defArgs st) (defBody st) (defScope st) .none kV doc pm an cdv ct) ⟨us, []⟩ = pure (ps.zip us)) : Binds K fd ps [] := by
  obtain ⟨oc, od, kV, doc, pm, an, cdv, ct, osl, rfl, lk, hcd⟩ := F.ex
  exact .all (h kV doc pm an cdv ct)
theorem fun_mk {x qual : Str} {st : Stmt} {f : Addr} {oc : Value} {od an : Option Addr} {osl : Array (Option Value)} {kV doc pm cdv ct : Value} (l : K.lookup f = some ⟨oc, od, .func (PySem.W.fnOf x qual (defArgs st) (defBody st) (defScope st) .none kV doc pm an cdv ct), osl⟩)
    (c : PySem.W.codeIn K cdv qual = true) (k : PySem.W.keepIn K (.ref f) = true) : Fun K x qual st f (PySem.W.fnOf x qual (defArgs st) (defBody st) (defScope st) .none kV doc pm an cdv ct) := ⟨⟨oc, od, kV, doc, pm, an, cdv, ct, osl, rfl, l, c⟩, k⟩
end
/-! ### expressions in short: the name that stands in the i-th slot -/
section
variable {X : Cx}
theorem pv (i : Nat) {x : Str} {pos : Pos} (hN : X.N[i]? = some x := by rfl) (hv : Vis X.env.scope x := by first | exact Or.inl rfl | exact Or.inr (Or.inl rfl) | exact Or.inr (Or.inr rfl)) (hd : (x == ("__debug__" : Str)) = false := by decide)
    (hcd : (x == ("__classdict__" : Str)) = false := by decide) : PE X (.Name x pos) (tVar i) := pe_var hN hv hd hcd
end

/-! ### tests -/
theorem iteF {A B : Prop} (h : B) : if false = true then A else B := by
  rw [if_neg Bool.false_ne_true]
  exact h
theorem iteT {A B : Prop} (h : A) : if true = true then A else B := by
  rw [if_pos rfl]
  exact h
/-! ### heaps -/
/-- all that was tracked is as it was -/
def Same (H H' : Hp) : Prop := ∀ b o, H b = some o → H' b = some o
theorem Same.refl (H : Hp) : Same H H := fun _ _ h => h
theorem Same.trans {H H1 H2 : Hp} (a : Same H H1) (b : Same H1 H2) : Same H H2 := fun c o h => b c o (a c o h)
theorem Same.free {H H' : Hp} (e : Same H H') {l : Addr} (h : H' l = Option.none) : H l = Option.none := by
  cases q : H l with
  | none => rfl
  | some o =>
    rw [e l o q] at h
    cases h
theorem Same.seq {K : PySem.W.Frag} {H H' : Hp} {a : Addr} {xs : List V} (e : Same H H') (h : SqL K H a xs) : SqL K H' a xs := by
  rcases h with (h | ⟨o, h⟩) | h
  · exact .inl (.inl (e _ _ h))
  · exact .inl (.inr ⟨o, e _ _ h⟩)
  · exact .inr h

end L2

set_option maxHeartbeats 4000000
/-! RULES OF MY OWN over the layer: great products and quotients, sequences by what the heap says, tuples compared, isinstance, calls by a packed contract. -/
namespace L2
open PySem PySem.Spec PyProof.Rows
open PySem.Builtin.Int (intBits)
def CMulB (i j : Int) : Prop := intBits i ≤ 9000 ∧ intBits j ≤ 9000
def CDivB (_ j : Int) : Prop := j ≠ 0 ∧ intBits j ≤ 9000
theorem noPy_bits {x y : Int} (h : intBits y ≤ 9000) : Builtin.divisionGoesByPylong x y = false := by
  by_cases h0 : y = 0
  · subst h0; exact PyProof.noPylong_small (by decide)
  · refine PyProof.noPylong_of_log2 ?_
    have q := intBits_le_iff.mp h
    have hn : y.natAbs ≠ 0 := by omega
    exact (Nat.log2_lt hn).mpr q
section
variable {X : Cx} {a b : Expr} {ta tb : TE} {pos : Pos}
theorem op_mulB : OpR X (binaryOp .Mult) (rI CMulB fun i j => .int (i * j)) := opI fun _ _ _ _ _ _ _ hc q => mul_int q (IntMulOk.of_le hc.1 hc.2 (by decide))
theorem op_fdivB : OpR X (binaryOp .FloorDiv) (rI CDivB fun i j => .int (i.fdiv j)) := opI fun _ _ _ _ _ _ _ hc q => floordiv_int hc.1 q (.inl (noPy_bits hc.2))
theorem op_eqI : OpR X (compareOp .Eq) (rI0 fun i j => .bl (decide (i = j))) := opB0 fun _ _ _ _ _ _ _ q => eq_int (by rw [Bool.beq_eq_decide_eq]; exact q)
theorem op_neI : OpR X (compareOp .NotEq) (rI0 fun i j => .bl (!decide (i = j))) := opB0 fun _ _ _ _ _ _ _ q => ne_int (by rw [bne, Bool.beq_eq_decide_eq]; exact q)
/-- the items at an address: a list's or a tuple's -/
def ItsAt (H : Hp) (p : Addr) (xs : List V) : Prop := H p = some (.tup xs) ∨ H p = some (.lst xs)
def rIxF : R2 := fun x y H Q => ∃ p xs i v, x = .ref p ∧ y = .int i ∧ ItsAt H p xs ∧ atI xs i = some v ∧ Q v H
theorem ix_any : IxR X rIxF := by
  intro value slice pins s σ H x y v u Q I rx ry h hs
  obtain ⟨p, xs, i, z, e1, e2, hq, he, q⟩ := h
  rcases hq with hq | hq
  · exact ix_tup value slice pins s σ H x y v u Q I rx ry ⟨p, xs, i, z, e1, e2, SqT.of hq, he, q⟩ hs
  · exact ix_list value slice pins s σ H x y v u Q I rx ry ⟨p, xs, i, z, e1, e2, SqL.of hq, he, q⟩ hs
/-- isinstance of a value and a built-in type -/
theorem call_isinst : CallR X (.builtin "isinstance") (fun xs H Q => ∃ x t n b, xs = [x, .ty n] ∧ TyOf X.K H x t ∧ PySem.W.kitOne X.K t (.type n) = some b ∧ Q (.bl b) H) := by
  intro pins s σ H xs us Q I r h
  obtain ⟨x, t, n, b, rfl, ty, e, q⟩ := h
  obtain ⟨u, w', rfl, r1, r2⟩ := vals2 r
  cases r2
  exact isinst_ok I r1 ty e fun tk => ⟨.bl b, H, I.tok _, rfl, q⟩
/-- a def of the text that keeps a contract, called by its name -/
structure Cal (P : Program) (w : World) (K : PySem.W.Frag) (mg : Str → Option Value) (base : Heap) (x : Str) (ps : List Str) (k : Nat) (sp : Sp) : Prop where
  ex : ∃ f fd, mg x = some (.ref f) ∧ PySem.W.keepIn K (.ref f) = true ∧ Binds K fd ps [] ∧ FnOk P w K mg base CX0 k f fd ps sp
/-- a def of the text as it stands -/
structure Fnd (K : PySem.W.Frag) (mg : Str → Option Value) (x : Str) (st : Stmt) (ps : List Str) : Prop where
  ex : ∃ f fd, mg x = some (.ref f) ∧ Fun K x x st f fd ∧ Binds K fd ps []
theorem Cal.imp {P : Program} {w : World} {K : PySem.W.Frag} {mg : Str → Option Value} {base : Heap} {x : Str} {ps : List Str} {k : Nat} {sp sp' : Sp} (c : Cal P w K mg base x ps k sp) (h : ∀ vs H Q E, sp' vs H Q E → sp vs H Q E) : Cal P w K mg base x ps k sp' := by
  obtain ⟨f, fd, m, kp, b, F⟩ := c.ex
  exact ⟨f, fd, m, kp, b, F.imp h⟩
theorem pe_cal {x : Str} {ps : List Str} {j k : Nat} {sp : Sp} {p : Pos} {e : Expr} {es : List Expr} {t : TA} (c : Cal X.prog X.w X.K X.mg X.base x ps j sp) (hr : Room k X.A) (hg : Gl X x) (ha : PA X (e :: es) t) (hjk : j ≤ k := by decide)
    (hdb : (x == ("__debug__" : Str)) = false := by decide) (he : starEach (e :: es) X.env = (false, eval e X.env) :: starEach es X.env := by rfl) (hpl : (backTo pos (starEach es X.env)).any (·.1) = false := by rfl) :
    PE X (.Call (.Name x p) (e :: es) [] pos) (tCall sp [] E0 t) := by
  obtain ⟨f, fd, m, kp, b, F⟩ := c.ex
  exact pe_call F (hr.mono hjk) hg m kp b .nil pass0 ha hdb he hpl
theorem Fnd.ok {P : Program} {w : World} {K : PySem.W.Frag} {mg : Str → Option Value} {base : Heap} {x : Str} {st : Stmt} {N ps : List Str} {k : Nat} {sp : Sp} (F : Fnd K mg x st ps) (S : FnScope N ps (defScope st)) (len : ∀ vs H Q E, sp vs H Q E → vs.length = ps.length)
    (hbody : ∀ (f : Addr) (cdv : Value) (A : Around) (outer : List Env) (s : Shared) (H : Hp) (vs : List V) (Q : VK) (E : XK), Room k (A.deeper (envOfC x (defScope st) s.heap.objs.size f cdv)) → sp vs H Q E →
      ∃ t, PSs (cxOf CX0 P w K mg base N x (defScope st) f cdv A outer s H E).nox (defBody st) t ∧ t { nx := fun _ H' => Q .non H', rt := Q } (start N vs) H) : Cal P w K mg base x ps (k + 1) sp := by
  obtain ⟨f, fd, m, Fu, b⟩ := F.ex
  exact ⟨f, fd, m, Fu.kp, b, Fu.ok S len (hbody f)⟩
end
theorem iteD {p : Prop} [Decidable p] {A B : Prop} (h1 : p → A) (h2 : ¬ p → B) : if decide p = true then A else B := by
  by_cases h : p
  · rw [decide_eq_true h]; exact h1 h
  · rw [decide_eq_false h]; exact h2 h
theorem iteDn {p : Prop} [Decidable p] {A B : Prop} (h1 : ¬ p → A) (h2 : p → B) : if (!decide p) = true then A else B := by
  by_cases h : p
  · rw [decide_eq_true h]; exact h2 h
  · rw [decide_eq_false h]; exact h1 h
/-- all but what lies at b is as it was -/
def Ext (b : Addr) (H H' : Hp) : Prop := ∀ a o, a ≠ b → H a = some o → H' a = some o
theorem Ext.upd (b : Addr) (H : Hp) (o : HO) : Ext b H (L2.upd H b o) := fun a u n h => by rw [upd_ne n]; exact h
theorem same_new {H : Hp} {p : Addr} (h : H p = none) (o : HO) : Same H (L2.upd H p o) := fun b u q => by rw [upd_ne (ne_of_none q h)]; exact q
end L2

/-! A comprehension of one clause without a test, its element any expression; free names are the outer def's cells. -/
namespace L2
open PySem PySem.Spec PyProof.Rows
theorem HOk.but {P : Program} {w : World} {H : Hp} {h h' : Heap} {C : Addr} (x : HOk P w H h) (n : H C = none) (k : ∀ b u, b ≠ C → h.get? b = some u → h'.get? b = some u) : HOk P w H h' := fun a o e =>
  (x a o e).stay (fun b u hb q => k b u (by rcases hb with rfl | hb; exact ne_of_none e n; exact ne_of_none hb n) q) (fun _ q => q) fun _ _ q => q
theorem Un.but {fs ex : List Addr} {H H' : Hp} {h h1 h2 : Heap} {C : Addr} (u : Un fs ex H H' h h1) (hC : h.get? C = none) (k : ∀ b u, b ≠ C → h1.get? b = some u → h2.get? b = some u) : Un fs ex H H' h h2 where
  keep := fun b o q n f e => k b o (by rintro rfl; rw [hC] at q; cases q) (u.keep b o q n f e)
  slot := fun b o q n f e => by
    obtain ⟨sl, z⟩ := u.slot b o q n f e
    exact ⟨sl, k b _ (by rintro rfl; rw [hC] at q; cases q) z⟩
  free := u.free
  there := fun b o q e => by
    obtain ⟨o', z⟩ := u.there b o q e
    exact ⟨o', k b _ (by rintro rfl; rw [hC] at q; cases q) z⟩
  tups := u.tups
  frzs := u.frzs
  tbls := u.tbls
/-- the context of a comprehension's block -/
def compCx (X : Cx) (N : List Str) (scope : Scope) (cl : List (Str × Addr)) (C : Addr) (s : Shared) (H : Hp) (ex : List Addr) : Cx :=
  { X with N := N, s₀ := s, H₀ := H, env := compEnvC scope cl C X.env, outer := X.stack, ex := ex, fn := fun _ => false, pn := [], xe := fun _ _ => False }
/-- the values of the free names, from the slots js -/
def freeV (σ : St) (js : List Nat) : St := js.map fun j => (σ[j]?).join
section
variable {X : Cx}
end
end L2

namespace L2
open PySem PySem.Spec PyProof.Rows
theorem Vals.getR : ∀ {xs : List V} {us : List Value} {i : Nat} {u : Value}, Vals xs us → us[i]? = some u → ∃ x, xs[i]? = some x ∧ RelV x u
  | _, _, _, _, .nil, e => by simp at e
  | _, _, 0, _, .cons r _, e => by simp at e; subst e; exact ⟨_, rfl, r⟩
  | _, _, i + 1, u, .cons _ t, e => by
    obtain ⟨x, h1, h2⟩ := Vals.getR (i := i) (u := u) t (by simpa using e)
    exact ⟨x, by simpa using h1, h2⟩
section
variable {X : Cx}
end
end L2

/-! An own exception without methods: its class attribute, isinstance, a handler that names a base of it. -/
namespace L2
open PySem PySem.Spec PyProof.Rows PySem.W
section
variable {prog : Program} {w : World} {A : Around} {E : Value → Shared → Prop} {h : Heap} {g : Array GenState} {d : Drawn} {t : Nat} {os : OsState} {a C : Addr} {o : Obj} {K : PySem.W.Frag}
end
end L2

/-! raise of an own exception, how it leaves a def, how it is caught. -/
namespace L2
open PySem PySem.Spec PyProof.Rows PySem.W
section
variable {X : Cx}
end
end L2

/-! try: a body whose call raises an own exception, one handler that names a base of it, a suite that hands back. -/
namespace L2
open PySem PySem.Spec PyProof.Rows PySem.W
section
variable {X : Cx} {pins : List (Addr × Obj)} {σ : St} {H : Hp} {s : Shared}
end
end L2

/-! A def that raises an own exception, and a def that catches it and asks of which classes it is. -/
namespace L2
open PySem PySem.Spec PyProof.Rows PySem.W
section
variable {X : Cx}
end
end L2

/-! A def that raises an own exception after it has made new objects. -/
namespace L2
open PySem PySem.Spec PyProof.Rows PySem.W
section
variable {X : Cx} {pins : List (Addr × Obj)} {σ : St} {H : Hp} {s : Shared}
end
end L2

namespace Cut
open PySem
open PySem.Builtin.Int (intBits)
theorem bits_om {x : Int} (h1 : -(2 ^ 64) < x) (h2 : x < 2 ^ 64) : intBits x ≤ 64 := intBits_le_64 h1 h2
theorem bits_of_abs {x t : Int} {n : Nat} (h : x.natAbs ≤ t.natAbs) (ht : intBits t ≤ n) : intBits x ≤ n := intBits_le_of_natAbs h ht
theorem gcd_step {x y : Int} (hx : 0 ≤ x) (hy : 0 < y) : Int.gcd y (x % y) = Int.gcd x y := by
  obtain ⟨m, rfl⟩ := Int.eq_ofNat_of_zero_le hx
  obtain ⟨n, rfl⟩ := Int.eq_ofNat_of_zero_le (Int.le_of_lt hy)
  have e : ((m : Int) % (n : Int)) = ((m % n : Nat) : Int) := rfl
  rw [e]
  show Nat.gcd n (m % n) = Nat.gcd m n
  rw [Nat.gcd_comm m n, Nat.gcd_rec n m, Nat.gcd_comm]
theorem gcd_abs (a b : Int) : Int.gcd (if a < 0 then -a else a) (if b < 0 then -b else b) = Int.gcd a b := by
  have e : ∀ z : Int, (if z < 0 then -z else z).natAbs = z.natAbs := fun z => by split <;> omega
  unfold Int.gcd
  rw [e, e]
theorem gcd_zero_left {x : Int} (h : 0 ≤ x) : ((Int.gcd x 0 : Nat) : Int) = x := by
  rw [Int.gcd_zero_right]; omega
end Cut
namespace Cut
end Cut
namespace Cut
/-- a point in lowest form -/
def Pt (x y z : Int) : Prop := 0 < z ∧ Int.gcd (Int.gcd x y : Nat) z = 1
theorem gcd3 (a b n : Int) : Int.gcd (Int.gcd a n : Nat) b = Nat.gcd (Nat.gcd a.natAbs b.natAbs) n.natAbs := by
  show Nat.gcd (Nat.gcd a.natAbs n.natAbs) b.natAbs = _
  rw [Nat.gcd_assoc, Nat.gcd_comm n.natAbs, ← Nat.gcd_assoc]
theorem gcd3' (a b n : Int) : Int.gcd (Int.gcd a b : Nat) n = Nat.gcd (Nat.gcd a.natAbs b.natAbs) n.natAbs := rfl
theorem gcd3n (a b n : Int) : Int.gcd (Int.gcd n a : Nat) b = Int.gcd (Int.gcd a n : Nat) b := by
  rw [Int.gcd_comm n a]
theorem gcd3_pos {a b n : Int} (hn : n ≠ 0) : 0 < ((Int.gcd (Int.gcd a n : Nat) b : Nat) : Int) := by
  rw [gcd3]
  have : 0 < Nat.gcd (Nat.gcd a.natAbs b.natAbs) n.natAbs := Nat.gcd_pos_of_pos_right _ (by omega)
  omega
theorem gcd3_dvd (a b n : Int) : ((Int.gcd (Int.gcd a n : Nat) b : Nat) : Int) ∣ a ∧ ((Int.gcd (Int.gcd a n : Nat) b : Nat) : Int) ∣ b ∧ ((Int.gcd (Int.gcd a n : Nat) b : Nat) : Int) ∣ n := by
  rw [gcd3]
  have h1 := Nat.gcd_dvd_left (Nat.gcd a.natAbs b.natAbs) n.natAbs
  have h2 := Nat.gcd_dvd_right (Nat.gcd a.natAbs b.natAbs) n.natAbs
  refine ⟨?_, ?_, ?_⟩
  · exact Int.ofNat_dvd_left.mpr (Nat.dvd_trans h1 (Nat.gcd_dvd_left _ _))
  · exact Int.ofNat_dvd_left.mpr (Nat.dvd_trans h1 (Nat.gcd_dvd_right _ _))
  · exact Int.ofNat_dvd_left.mpr h2
theorem pt_of {a b n g s : Int} (hn : n ≠ 0) (hg : g = (Int.gcd (Int.gcd a n : Nat) b : Nat)) (hs : s = g ∧ 0 < n ∨ s = -g ∧ n < 0) :
    Pt (a.fdiv s) (b.fdiv s) (n.fdiv s) ∧ a.fdiv s * n = a * n.fdiv s ∧ b.fdiv s * n = b * n.fdiv s ∧ (a.fdiv s).natAbs ≤ a.natAbs ∧ (b.fdiv s).natAbs ≤ b.natAbs ∧ (n.fdiv s).natAbs ≤ n.natAbs := by
  have gp : 0 < g := by rw [hg]; exact gcd3_pos hn
  obtain ⟨d1, d2, d3⟩ := gcd3_dvd a b n
  rw [← hg] at d1 d2 d3
  have s0 : s ≠ 0 := by rcases hs with ⟨h, _⟩ | ⟨h, _⟩ <;> omega
  have dv : ∀ z : Int, g ∣ z → s ∣ z := fun z hz => by
    rcases hs with ⟨h, _⟩ | ⟨h, _⟩ <;> rw [h]
    · exact hz
    · exact Int.neg_dvd.mpr hz
  obtain ⟨x, hx⟩ := dv a d1
  obtain ⟨y, hy⟩ := dv b d2
  obtain ⟨z, hz⟩ := dv n d3
  have ex : a.fdiv s = x := by rw [hx]; exact Int.mul_fdiv_cancel_left x s0
  have ey : b.fdiv s = y := by rw [hy]; exact Int.mul_fdiv_cancel_left y s0
  have ez : n.fdiv s = z := by rw [hz]; exact Int.mul_fdiv_cancel_left z s0
  refine ⟨⟨?_, ?_⟩, ?_, ?_, PySem.natAbs_fdiv_le a s, PySem.natAbs_fdiv_le b s, PySem.natAbs_fdiv_le n s⟩
  · rw [ez]
    rcases hs with ⟨h, hp⟩ | ⟨h, hp⟩
    · rw [hz, h] at hp
      exact Int.pos_of_mul_pos_right hp gp
    · rw [hz, h] at hp
      have : 0 < g * z := by rw [Int.neg_mul] at hp; omega
      exact Int.pos_of_mul_pos_right this gp
  · rw [ex, ey, ez, gcd3']
    rw [gcd3, hx, hy, hz, Int.natAbs_mul, Int.natAbs_mul, Int.natAbs_mul, Nat.gcd_mul_left, Nat.gcd_mul_left] at hg
    have sn : s.natAbs = g.toNat := by rcases hs with ⟨h, _⟩ | ⟨h, _⟩ <;> omega
    have pos : 0 < s.natAbs := by omega
    have q : s.natAbs * Nat.gcd (Nat.gcd x.natAbs y.natAbs) z.natAbs = s.natAbs * 1 := by omega
    exact Nat.eq_of_mul_eq_mul_left pos q
  · rw [ex, ez]
    have h1 : x * n = x * (s * z) := by rw [← hz]
    have h2 : a * z = s * x * z := by rw [← hx]
    rw [h1, h2, ← Int.mul_assoc, Int.mul_comm x s]
  · rw [ey, ez]
    have h1 : y * n = y * (s * z) := by rw [← hz]
    have h2 : b * z = s * y * z := by rw [← hy]
    rw [h1, h2, ← Int.mul_assoc, Int.mul_comm y s]
theorem pt_dvd {x y z x' y' z' : Int} (g : Int.gcd (Int.gcd x y : Nat) z = 1) (e1 : x * z' = x' * z) (e2 : y * z' = y' * z) : z ∣ z' := by
  have d1 : z.natAbs ∣ x.natAbs * z'.natAbs := ⟨x'.natAbs, by rw [← Int.natAbs_mul, e1, Int.natAbs_mul, Nat.mul_comm]⟩
  have d2 : z.natAbs ∣ y.natAbs * z'.natAbs := ⟨y'.natAbs, by rw [← Int.natAbs_mul, e2, Int.natAbs_mul, Nat.mul_comm]⟩
  have d3 : z.natAbs ∣ z.natAbs * z'.natAbs := ⟨z'.natAbs, rfl⟩
  have q := Nat.dvd_gcd (Nat.dvd_gcd d1 d2) d3
  rw [Nat.gcd_mul_right, Nat.gcd_mul_right] at q
  rw [gcd3'] at g
  rw [g, Nat.one_mul] at q
  exact Int.natAbs_dvd_natAbs.mp q
theorem pt_uniq {x y z x' y' z' : Int} (h : Pt x y z) (h' : Pt x' y' z') (e1 : x * z' = x' * z) (e2 : y * z' = y' * z) : x = x' ∧ y = y' ∧ z = z' := by
  have d1 := pt_dvd h.2 e1 e2
  have d2 := pt_dvd h'.2 e1.symm e2.symm
  have ez : z = z' := Int.dvd_antisymm (Int.le_of_lt h.1) (Int.le_of_lt h'.1) d1 d2
  subst ez
  have nz : z ≠ 0 := Int.ne_of_gt h.1
  exact ⟨Int.eq_of_mul_eq_mul_right nz e1, Int.eq_of_mul_eq_mul_right nz e2, rfl⟩
theorem gcd3_bits {a b n : Int} {k : Nat} (hn : n ≠ 0) (h : PySem.Builtin.Int.intBits n ≤ k) : PySem.Builtin.Int.intBits ((Int.gcd (Int.gcd a n : Nat) b : Nat) : Int) ≤ k := by
  refine PySem.intBits_le_of_natAbs ?_ h
  exact Nat.le_of_dvd (by omega) (Int.natAbs_dvd_natAbs.mpr (gcd3_dvd a b n).2.2)
theorem one_ne {u v : Int} (hu : 0 < u) (hv : 0 < v) : u * v ≠ 0 := Int.ne_of_gt (Int.mul_pos hu hv)
end Cut
namespace Cut
theorem pt_neg {x y z : Int} (h : Pt x y z) : Pt (-x) (-y) z := by
  refine ⟨h.1, ?_⟩
  have g := h.2
  rw [gcd3'] at g ⊢
  rw [Int.natAbs_neg, Int.natAbs_neg]
  exact g
end Cut

/-! TREES: values without addresses. What a slot holds: a tree that stays (val), a list of one's own that may grow (own), the drawing bag. -/
namespace L3
open PySem L2
open PySem.Builtin.Int (intBits)
inductive D where
  | non | bl (b : Bool) | int (i : Int) | str (x : Str) | ty (n : String) | tup (xs : List D) | lst (xs : List D) | scr (ns : List Int) | ktup (xs : List D)
inductive Sl where
  | no | val (d : D) | own (ds : List D) | bag | new (d : D) | pin (v : V) (d : D)
mutual
inductive Rep (K : PySem.W.Frag) (B : Hp) : V → D → Prop where
  | non : Rep K B .non .non
  | bl (b : Bool) : Rep K B (.bl b) (.bl b)
  | int (i : Int) : Rep K B (.int i) (.int i)
  | str (x : Str) : Rep K B (.str x) (.str x)
  | ty (n : String) : Rep K B (.ty n) (.ty n)
  | tup {a : Addr} {vs : List V} {ds : List D} (h : B a = some (.tup vs)) (r : Reps K B vs ds) : Rep K B (.ref a) (.tup ds)
  | lst {a : Addr} {vs : List V} {ds : List D} (h : B a = some (.lst vs)) (r : Reps K B vs ds) : Rep K B (.ref a) (.lst ds)
  | scr {a : Addr} {ns : List Int} (h : SqL K B a (ns.map V.int)) : Rep K B (.ref a) (.scr ns)
  | ktup {a : Addr} {vs : List V} {ds : List D} (h : SqT K B a vs) (r : Reps K B vs ds) : Rep K B (.ref a) (.ktup ds)
inductive Reps (K : PySem.W.Frag) (B : Hp) : List V → List D → Prop where
  | nil : Reps K B [] []
  | cons {v : V} {d : D} {vs : List V} {ds : List D} (h : Rep K B v d) (r : Reps K B vs ds) : Reps K B (v :: vs) (d :: ds)
end
theorem sameT {K : PySem.W.Frag} {H H' : Hp} {a : Addr} {xs : List V} (e : Same H H') (h : SqT K H a xs) : SqT K H' a xs := by
  rcases h with (h | ⟨o, h⟩) | h
  · exact .inl (.inl (e _ _ h))
  · exact .inl (.inr ⟨o, e _ _ h⟩)
  · exact .inr h
section
variable {K : PySem.W.Frag} {B B' : Hp}
mutual
theorem Rep.mono (s : Same B B') : ∀ {v : V} {d : D}, Rep K B v d → Rep K B' v d
  | _, _, .non => .non
  | _, _, .bl b => .bl b
  | _, _, .int i => .int i
  | _, _, .str x => .str x
  | _, _, .ty n => .ty n
  | _, _, .tup h r => .tup (s _ _ h) (Reps.mono s r)
  | _, _, .lst h r => .lst (s _ _ h) (Reps.mono s r)
  | _, _, .scr h => .scr (s.seq h)
  | _, _, .ktup h r => .ktup (sameT s h) (Reps.mono s r)
theorem Reps.mono (s : Same B B') : ∀ {vs : List V} {ds : List D}, Reps K B vs ds → Reps K B' vs ds
  | _, _, .nil => .nil
  | _, _, .cons h r => .cons (Rep.mono s h) (Reps.mono s r)
end
theorem Reps.length : ∀ {vs : List V} {ds : List D}, Reps K B vs ds → vs.length = ds.length
  | _, _, .nil => rfl
  | _, _, .cons _ r => by rw [List.length_cons, List.length_cons, r.length]
theorem Reps.get : ∀ {vs : List V} {ds : List D} {i : Nat} {d : D}, Reps K B vs ds → ds[i]? = some d → ∃ v, vs[i]? = some v ∧ Rep K B v d
  | _, _, _, _, .nil, e => by simp at e
  | _, _, 0, _, .cons h _, e => by simp at e; subst e; exact ⟨_, rfl, h⟩
  | _, _, i + 1, d, .cons _ r, e => by
    obtain ⟨v, h1, h2⟩ := Reps.get (i := i) (d := d) r (by simpa using e)
    exact ⟨v, by simpa using h1, h2⟩
theorem Reps.getV : ∀ {vs : List V} {ds : List D} {i : Nat} {v : V}, Reps K B vs ds → vs[i]? = some v → ∃ d, ds[i]? = some d ∧ Rep K B v d
  | _, _, _, _, .nil, e => by simp at e
  | _, _, 0, _, .cons h _, e => by simp at e; subst e; exact ⟨_, rfl, h⟩
  | _, _, i + 1, v, .cons _ r, e => by
    obtain ⟨d, h1, h2⟩ := Reps.getV (i := i) (v := v) r (by simpa using e)
    exact ⟨d, by simpa using h1, h2⟩
theorem Reps.append : ∀ {vs ws : List V} {ds es : List D}, Reps K B vs ds → Reps K B ws es → Reps K B (vs ++ ws) (ds ++ es)
  | _, _, _, _, .nil, s => s
  | _, _, _, _, .cons h r, s => .cons h (Reps.append r s)
theorem Reps.take : ∀ {vs : List V} {ds : List D} (n : Nat), Reps K B vs ds → Reps K B (vs.take n) (ds.take n)
  | _, _, 0, _ => .nil
  | _, _, _ + 1, .nil => .nil
  | _, _, n + 1, .cons h r => .cons h (Reps.take n r)
theorem Reps.drop : ∀ {vs : List V} {ds : List D} (n : Nat), Reps K B vs ds → Reps K B (vs.drop n) (ds.drop n)
  | _, _, 0, r => r
  | _, _, _ + 1, .nil => .nil
  | _, _, n + 1, .cons _ r => Reps.drop n r
theorem Reps.ints : ∀ (ns : List Int), Reps K B (ns.map V.int) (ns.map D.int)
  | [] => .nil
  | n :: r => .cons (.int n) (Reps.ints r)
end
/-- the drawing bag: two ints, the second below the modulus -/
def Bag (H : Hp) (b : Addr) : Prop := ∃ x y : Int, H b = some (.lst [.int x, .int y]) ∧ 0 ≤ x ∧ 0 ≤ y ∧ y < 2147483647
def MutAt (σ : St) (ρ : List Sl) (i : Nat) (a : Addr) : Prop := σ[i]? = some (some (.ref a)) ∧ (ρ[i]? = some .bag ∨ ∃ ds, ρ[i]? = some (.own ds))
/-- R: the heap at the entry; W: what the call may change of it (bags); B: what stays; H: now -/
structure Wd (R : Hp) (W : Addr → Prop) (B H : Hp) : Prop where
  fr : ∀ a o, R a = some o → ¬ W a → H a = some o
  bh : Same B H
  wb : ∀ a, W a → B a = none
  wh : ∀ a, W a → Bag H a
  wr : ∀ a, W a → R a ≠ none
open Classical in
/-- what stays, and the lists that were there at the entry and are no bags -/
noncomputable def mixB (R : Hp) (W : Addr → Prop) (B : Hp) : Hp := fun a => match R a with
  | some (.lst vs) => if W a then B a else some (.lst vs)
  | _ => B a
theorem mixB_mono {R : Hp} {W : Addr → Prop} {B B' : Hp} (s : Same B B') : Same (mixB R W B) (mixB R W B') := fun a o h => by
  unfold mixB at h ⊢
  split at h
  · split at h
    · rename_i z; rw [if_pos z]; exact s a o h
    · rename_i z; rw [if_neg z]; exact h
  · exact s a o h
def SlOk (K : PySem.W.Frag) (R : Hp) (W : Addr → Prop) (B H : Hp) (o : Option V) : Sl → Prop
  | .no => True
  | .val d => ∃ v, o = some v ∧ Rep K B v d
  | .own ds => ∃ a vs, o = some (.ref a) ∧ R a = none ∧ B a = none ∧ H a = some (.lst vs) ∧ Reps K B vs ds
  | .bag => ∃ b, o = some (.ref b) ∧ (W b ∨ R b = none) ∧ B b = none ∧ Bag H b
  | .new d => ∃ v, o = some v ∧ Rep K (mixB R W B) v d
  | .pin v d => o = some v ∧ Rep K (mixB R W B) v d
structure Ev (K : PySem.W.Frag) (R : Hp) (W : Addr → Prop) (B H : Hp) (σ : St) (ρ : List Sl) : Prop extends Wd R W B H where
  len : σ.length = ρ.length
  ok : ∀ (i : Nat) (k : Sl), ρ[i]? = some k → SlOk K R W B H (σ[i]?).join k
  sep : ∀ (i j : Nat) (a : Addr), MutAt σ ρ i a → MutAt σ ρ j a → i = j
structure Grow (R B B' : Hp) : Prop where
  s : Same B B'
  n : ∀ a o, B' a = some o → B a = some o ∨ R a = none
theorem Grow.refl (R B : Hp) : Grow R B B := ⟨Same.refl _, fun _ _ h => .inl h⟩
theorem Grow.trans {R B B' B'' : Hp} (g : Grow R B B') (h : Grow R B' B'') : Grow R B B'' := ⟨g.s.trans h.s, fun a o e => (h.n a o e).elim (g.n a o) .inr⟩
theorem Wd.fresh {R : Hp} {W : Addr → Prop} {B H : Hp} (w : Wd R W B H) {p : Addr} (h : H p = none) : R p = none ∧ ¬ W p ∧ B p = none := by
  have nw : ¬ W p := fun z => by
    obtain ⟨x, y, e, _⟩ := w.wh p z
    rw [h] at e; cases e
  refine ⟨?_, nw, w.bh.free h⟩
  cases q : R p with
  | none => rfl
  | some o => rw [w.fr p o q nw] at h; cases h
theorem join_some {α : Type} {o : Option (Option α)} {v : α} (h : o.join = some v) : o = some (some v) := by
  cases o with
  | none => cases h
  | some x => exact congrArg some h
section
variable {K : PySem.W.Frag} {R : Hp} {W : Addr → Prop} {B B' H H' : Hp} {σ : St} {ρ : List Sl}
theorem Ev.val (e : Ev K R W B H σ ρ) {i : Nat} {d : D} (h : ρ[i]? = some (.val d)) : ∃ v, σ[i]? = some (some v) ∧ Rep K B v d := by
  obtain ⟨v, h1, h2⟩ := e.ok i _ h
  exact ⟨v, join_some h1, h2⟩
theorem Ev.ownAt (e : Ev K R W B H σ ρ) {i : Nat} {ds : List D} (h : ρ[i]? = some (.own ds)) : ∃ a vs, σ[i]? = some (some (.ref a)) ∧ R a = none ∧ B a = none ∧ H a = some (.lst vs) ∧ Reps K B vs ds := by
  obtain ⟨a, vs, h1, h2⟩ := e.ok i _ h
  exact ⟨a, vs, join_some h1, h2⟩
theorem Ev.bagAt (e : Ev K R W B H σ ρ) {i : Nat} (h : ρ[i]? = some .bag) : ∃ b, σ[i]? = some (some (.ref b)) ∧ (W b ∨ R b = none) ∧ B b = none ∧ Bag H b := by
  obtain ⟨a, h1, h2⟩ := e.ok i _ h
  exact ⟨a, join_some h1, h2⟩
theorem Ev.mutOk (e : Ev K R W B H σ ρ) {i : Nat} {a : Addr} (m : MutAt σ ρ i a) : B a = none ∧ H a ≠ none := by
  obtain ⟨h1, h2 | ⟨ds, h2⟩⟩ := m
  · obtain ⟨b, e1, _, e3, x, y, e4, _⟩ := e.bagAt h2
    rw [h1] at e1; cases e1
    exact ⟨e3, by rw [e4]; simp⟩
  · obtain ⟨b, vs, e1, _, e3, e4, _⟩ := e.ownAt h2
    rw [h1] at e1; cases e1
    exact ⟨e3, by rw [e4]; simp⟩
/-- another heap, the slots as they are -/
theorem Ev.move (e : Ev K R W B H σ ρ) (w : Wd R W B' H') (s : Same B B') (m : ∀ i a, MutAt σ ρ i a → B' a = none ∧ (ρ[i]? = some .bag → Bag H' a) ∧ ((∃ ds, ρ[i]? = some (.own ds)) → H' a = H a)) : Ev K R W B' H' σ ρ := by
  refine ⟨w, e.len, fun i k h => ?_, e.sep⟩
  cases k with
  | no => trivial
  | new d =>
    obtain ⟨v, h1, h2⟩ := e.ok i _ h
    exact ⟨v, h1, h2.mono (mixB_mono s)⟩
  | pin v d =>
    obtain ⟨h1, h2⟩ := e.ok i _ h
    exact ⟨h1, h2.mono (mixB_mono s)⟩
  | val d =>
    obtain ⟨v, h1, h2⟩ := e.ok i _ h
    exact ⟨v, h1, h2.mono s⟩
  | own ds =>
    obtain ⟨a, vs, h1, h2, h3, h4, h5⟩ := e.ok i _ h
    obtain ⟨m1, m2, m3⟩ := m i a ⟨join_some h1, .inr ⟨ds, h⟩⟩
    exact ⟨a, vs, h1, h2, m1, by rw [m3 ⟨ds, h⟩]; exact h4, h5.mono s⟩
  | bag =>
    obtain ⟨b, h1, h2, h3, h4⟩ := e.ok i _ h
    obtain ⟨m1, m2, m3⟩ := m i b ⟨join_some h1, .inl h⟩
    exact ⟨b, h1, h2, m1, m2 h⟩
theorem Bag.upd {H : Hp} {b p : Addr} {o : HO} (h : Bag H b) (n : b ≠ p) : Bag (L2.upd H p o) b := by
  obtain ⟨x, y, e, q⟩ := h
  exact ⟨x, y, by rw [upd_ne n]; exact e, q⟩
theorem Wd.alloc (w : Wd R W B H) {p : Addr} (h : H p = none) (o : HO) : Wd R W (upd B p o) (upd H p o) := by
  obtain ⟨f1, f2, f3⟩ := w.fresh h
  refine ⟨fun a u q nw => ?_, fun a u q => ?_, fun a z => ?_, fun a z => ?_, w.wr⟩
  · rw [upd_ne (by rintro rfl; rw [f1] at q; cases q)]; exact w.fr a u q nw
  · unfold L2.upd at q ⊢
    split
    · rename_i z; rw [if_pos z] at q; exact q
    · rename_i z; rw [if_neg z] at q; exact w.bh a u q
  · rw [upd_ne (by rintro rfl; exact f2 z)]; exact w.wb a z
  · exact (w.wh a z).upd (by rintro rfl; exact f2 z)
theorem Wd.allocH (w : Wd R W B H) {p : Addr} (h : H p = none) (o : HO) : Wd R W B (upd H p o) := by
  obtain ⟨f1, f2, f3⟩ := w.fresh h
  refine ⟨fun a u q nw => ?_, fun a u q => ?_, w.wb, fun a z => ?_, w.wr⟩
  · rw [upd_ne (by rintro rfl; rw [f1] at q; cases q)]; exact w.fr a u q nw
  · rw [upd_ne (by rintro rfl; rw [f3] at q; cases q)]; exact w.bh a u q
  · exact (w.wh a z).upd (by rintro rfl; exact f2 z)
theorem Ev.notNew (e : Ev K R W B H σ ρ) {p : Addr} (h : H p = none) {i : Nat} {a : Addr} (m : MutAt σ ρ i a) : a ≠ p := by
  rintro rfl
  exact (e.mutOk m).2 h
theorem Ev.alloc (e : Ev K R W B H σ ρ) {p : Addr} (h : H p = none) (o : HO) : Ev K R W (upd B p o) (upd H p o) σ ρ := by
  obtain ⟨f1, f2, f3⟩ := e.toWd.fresh h
  refine e.move (e.toWd.alloc h o) (same_new f3 o) fun i a m => ?_
  have n := e.notNew h m
  refine ⟨by rw [upd_ne n]; exact (e.mutOk m).1, fun z => ?_, fun _ => upd_ne n⟩
  obtain ⟨b, e1, _, _, e4⟩ := e.bagAt z
  rw [m.1] at e1; cases e1
  exact e4.upd n
theorem Ev.allocH (e : Ev K R W B H σ ρ) {p : Addr} (h : H p = none) (o : HO) : Ev K R W B (upd H p o) σ ρ := by
  refine e.move (e.toWd.allocH h o) (Same.refl _) fun i a m => ?_
  have n := e.notNew h m
  refine ⟨(e.mutOk m).1, fun z => ?_, fun _ => upd_ne n⟩
  obtain ⟨b, e1, _, _, e4⟩ := e.bagAt z
  rw [m.1] at e1; cases e1
  exact e4.upd n
theorem Ev.grow (e : Ev K R W B H σ ρ) {p : Addr} (h : H p = none) (o : HO) : Grow R B (upd B p o) := by
  obtain ⟨f1, f2, f3⟩ := e.toWd.fresh h
  refine ⟨same_new f3 o, fun a u q => ?_⟩
  by_cases z : a = p
  · subst z; exact .inr f1
  · rw [upd_ne z] at q; exact .inl q
/-- a list of one's own that no slot holds goes over to what stays -/
theorem Ev.freeze (e : Ev K R W B H σ ρ) {a : Addr} {vs : List V} (h : H a = some (.lst vs)) (hr : R a = none) (hb : B a = none) (hm : ∀ i, ¬ MutAt σ ρ i a) : Ev K R W (upd B a (.lst vs)) H σ ρ ∧ Grow R B (upd B a (.lst vs)) := by
  have nw : ¬ W a := fun z => e.wr a z hr
  refine ⟨e.move ⟨e.fr, fun b u q => ?_, fun b z => ?_, e.wh, e.wr⟩ (same_new hb _) (fun i b m => ?_), ⟨same_new hb _, fun b u q => ?_⟩⟩
  · by_cases z : b = a
    · subst z; rw [upd_same] at q; cases q; exact h
    · rw [upd_ne z] at q; exact e.bh b u q
  · rw [upd_ne (by rintro rfl; exact nw z)]; exact e.wb b z
  · have n : b ≠ a := by rintro rfl; exact hm i m
    refine ⟨by rw [upd_ne n]; exact (e.mutOk m).1, fun z => ?_, fun _ => rfl⟩
    obtain ⟨c, e1, _, _, e4⟩ := e.bagAt z
    rw [m.1] at e1; cases e1
    exact e4
  · by_cases z : b = a
    · subst z; exact .inr hr
    · rw [upd_ne z] at q; exact .inl q
theorem getElem?_set_some {α : Type} {l : List α} {i j : Nat} {x y : α} (h : (l.set i x)[j]? = some y) : (j = i ∧ y = x) ∨ (j ≠ i ∧ l[j]? = some y) := by
  by_cases e : i = j
  · subst e
    rw [List.getElem?_set_self'] at h
    cases q : l[i]? with
    | none => rw [q] at h; cases h
    | some z => rw [q] at h; exact .inl ⟨rfl, (Option.some.inj h).symm⟩
  · rw [List.getElem?_set_ne e] at h
    exact .inr ⟨fun z => e z.symm, h⟩
theorem mut_set {i j : Nat} {v : V} {k : Sl} {a : Addr} (m : MutAt (σ.set i (some v)) (ρ.set i k) j a) : (j = i ∧ v = .ref a ∧ (k = .bag ∨ ∃ ds, k = .own ds)) ∨ (j ≠ i ∧ MutAt σ ρ j a) := by
  obtain ⟨h1, h2⟩ := m
  rcases getElem?_set_some h1 with ⟨e, h1⟩ | ⟨e, h1⟩
  · refine .inl ⟨e, (Option.some.inj h1).symm, ?_⟩
    rcases h2 with h2 | ⟨ds, h2⟩
    · rcases getElem?_set_some h2 with ⟨_, h2⟩ | ⟨n, _⟩
      · exact .inl h2.symm
      · exact absurd e n
    · rcases getElem?_set_some h2 with ⟨_, h2⟩ | ⟨n, _⟩
      · exact .inr ⟨ds, h2.symm⟩
      · exact absurd e n
  · refine .inr ⟨e, h1, ?_⟩
    rcases h2 with h2 | ⟨ds, h2⟩
    · rcases getElem?_set_some h2 with ⟨n, _⟩ | ⟨_, h2⟩
      · exact absurd n e
      · exact .inl h2
    · rcases getElem?_set_some h2 with ⟨n, _⟩ | ⟨_, h2⟩
      · exact absurd n e
      · exact .inr ⟨ds, h2⟩
/-- a slot is given a value -/
theorem Ev.set (e : Ev K R W B H σ ρ) (i : Nat) {v : V} {k : Sl} (hk : SlOk K R W B H (some v) k) (hm : ∀ a, v = .ref a → (k = .bag ∨ ∃ ds, k = .own ds) → ∀ j, j ≠ i → ¬ MutAt σ ρ j a) : Ev K R W B H (σ.set i (some v)) (ρ.set i k) := by
  refine ⟨e.toWd, by rw [List.length_set, List.length_set]; exact e.len, fun j k' h => ?_, fun x y a hx hy => ?_⟩
  · rcases getElem?_set_some h with ⟨rfl, rfl⟩ | ⟨n, h⟩
    · have lt : j < σ.length := by
        rw [e.len]
        by_cases z : j < ρ.length
        · exact z
        · rw [List.getElem?_eq_none (by rw [List.length_set]; omega)] at h; cases h
      have q : ((σ.set j (some v))[j]?).join = some v := by rw [List.getElem?_set_self lt]; rfl
      rw [q]; exact hk
    · rw [List.getElem?_set_ne (fun z => n z.symm)]
      exact e.ok j k' h
  · rcases mut_set hx with ⟨e1, v1, k1⟩ | ⟨n1, m1⟩
    · rcases mut_set hy with ⟨e2, _⟩ | ⟨n2, m2⟩
      · rw [e1, e2]
      · exact absurd m2 (hm a v1 k1 y n2)
    · rcases mut_set hy with ⟨e2, v2, k2⟩ | ⟨n2, m2⟩
      · exact absurd m1 (hm a v2 k2 x n1)
      · exact e.sep x y a m1 m2
theorem Ev.setV (e : Ev K R W B H σ ρ) (i : Nat) {v : V} {d : D} (r : Rep K B v d) : Ev K R W B H (σ.set i (some v)) (ρ.set i (.val d)) :=
  e.set i ⟨v, rfl, r⟩ fun _ _ z => by rcases z with z | ⟨_, z⟩ <;> cases z
theorem Ev.setO (e : Ev K R W B H σ ρ) (i : Nat) {a : Addr} {vs : List V} {ds : List D} (hr : R a = none) (hb : B a = none) (hh : H a = some (.lst vs)) (r : Reps K B vs ds) (hm : ∀ j, j ≠ i → ¬ MutAt σ ρ j a) : Ev K R W B H (σ.set i (some (.ref a))) (ρ.set i (.own ds)) :=
  e.set i ⟨a, vs, rfl, hr, hb, hh, r⟩ fun b z _ => by cases z; exact hm
/-- a slot's own list is written: another content -/
theorem Ev.write (e : Ev K R W B H σ ρ) {i : Nat} {a : Addr} {ds ds' : List D} {vs : List V} (h : σ[i]? = some (some (.ref a))) (ho : ρ[i]? = some (.own ds)) (r : Reps K B vs ds') : Ev K R W B (upd H a (.lst vs)) σ (ρ.set i (.own ds')) := by
  obtain ⟨a', vs0, e1, e2, e3, e4, _⟩ := e.ownAt ho
  rw [h] at e1; cases e1
  have nw : ¬ W a := fun z => e.wr a z e2
  have me : MutAt σ ρ i a := ⟨h, .inr ⟨ds, ho⟩⟩
  refine ⟨⟨fun b u q z => ?_, fun b u q => ?_, e.wb, fun b z => ?_, e.wr⟩, by rw [List.length_set]; exact e.len, fun j k q => ?_, fun x y b hx hy => ?_⟩
  · rw [upd_ne (by rintro rfl; rw [e2] at q; cases q)]; exact e.fr b u q z
  · rw [upd_ne (by rintro rfl; rw [e3] at q; cases q)]; exact e.bh b u q
  · exact (e.wh b z).upd (by rintro rfl; exact nw z)
  · rcases getElem?_set_some q with ⟨rfl, rfl⟩ | ⟨n, q⟩
    · exact ⟨a, vs, by rw [h]; rfl, e2, e3, upd_same, r⟩
    · have z := e.ok j k q
      cases k with
      | no => trivial
      | new d => exact z
      | pin v d => exact z
      | val d => exact z
      | own es =>
        obtain ⟨b, ws, z1, z2, z3, z4, z5⟩ := z
        refine ⟨b, ws, z1, z2, z3, ?_, z5⟩
        rw [upd_ne (by rintro rfl; exact n (e.sep j i b ⟨join_some z1, .inr ⟨es, q⟩⟩ me))]; exact z4
      | bag =>
        obtain ⟨b, z1, z2, z3, z4⟩ := z
        exact ⟨b, z1, z2, z3, z4.upd (by rintro rfl; exact n (e.sep j i b ⟨join_some z1, .inl q⟩ me))⟩
  · have back : ∀ x, MutAt σ (ρ.set i (.own ds')) x b → MutAt σ ρ x b := fun x m => by
      obtain ⟨m1, m2⟩ := m
      by_cases z : x = i
      · subst z; exact ⟨m1, .inr ⟨ds, ho⟩⟩
      · refine ⟨m1, ?_⟩
        rw [List.getElem?_set_ne (fun w => z w.symm)] at m2
        exact m2
    exact e.sep x y b (back x hx) (back y hy)
theorem Ev.fz (e : Ev K R W B H σ ρ) {i : Nat} {ds : List D} (ho : ρ[i]? = some (.own ds)) : ∃ B', Ev K R W B' H σ (ρ.set i (.val (.lst ds))) ∧ Grow R B B' := by
  obtain ⟨a, vs, e1, e2, e3, e4, e5⟩ := e.ownAt ho
  have me : MutAt σ ρ i a := ⟨e1, .inr ⟨ds, ho⟩⟩
  have f := (e.setV (d := .non) i (v := .non) .non)
  have f2 := f.freeze e4 e2 e3 (fun j m => by
    rcases mut_set m with ⟨_, z, _⟩ | ⟨n, m⟩
    · cases z
    · exact n (e.sep j i a m me))
  refine ⟨_, ?_, f2.2⟩
  have g := f2.1.setV i (v := .ref a) (d := .lst ds) (.lst upd_same (e5.mono f2.2.s))
  rw [List.set_set, List.set_set] at g
  have q : σ.set i (some (.ref a)) = σ := by
    apply List.ext_getElem?
    intro j
    by_cases z : i = j
    · subst z
      have lt : i < σ.length := by
        by_cases z : i < σ.length
        · exact z
        · rw [List.getElem?_eq_none (by omega)] at e1; cases e1
      rw [List.getElem?_set_self lt, e1]
    · rw [List.getElem?_set_ne z]
  rw [q] at g
  exact g
end
end L3

/-! The readings of the hand layer over trees: what an expression, a test, a statement comes to, without any heap. -/
namespace L3
open PySem L2
open PySem.Builtin.Int (intBits)
abbrev UE := List Sl → (D → Prop) → Prop
abbrev UL := List Sl → (List D → Prop) → Prop
abbrev UT := List Sl → (Bool → Prop) → Prop
inductive Arg where
  | val (d : D) | bag (i : Nat)
abbrev UA := List Sl → (List Arg → Prop) → Prop
structure UEnds where
  nx : List Sl → Prop
  rt : Sl → Prop
  bk : List Sl → Prop := fun _ => False
  ct : List Sl → Prop := fun _ => False
abbrev US := UEnds → List Sl → Prop
abbrev UG := D → List Sl → (List Sl → Prop) → Prop
abbrev UGs := List D → List Sl → (List Sl → Prop) → Prop
section
variable (K : PySem.W.Frag)
def RefE (t : TE) (u : UE) : Prop := ∀ (ρ : List Sl) (k : D → Prop), u ρ k → ∀ (R : Hp) (W : Addr → Prop) (B H : Hp) (σ : St) (Q : VK), Ev K R W B H σ ρ →
  (∀ d v B' H', k d → Ev K R W B' H' σ ρ → Grow R B B' → Rep K B' v d → Q v H') → t σ H Q
/-- a new list that nothing else holds -/
def RefO (t : TE) (u : UL) : Prop := ∀ (ρ : List Sl) (k : List D → Prop), u ρ k → ∀ (R : Hp) (W : Addr → Prop) (B H : Hp) (σ : St) (Q : VK), Ev K R W B H σ ρ →
  (∀ ds a vs B' H', k ds → Ev K R W B' H' σ ρ → Grow R B B' → R a = none → B' a = none → H' a = some (.lst vs) → Reps K B' vs ds → (∀ i, ¬ MutAt σ ρ i a) → Q (.ref a) H') → t σ H Q
def RefT (t : TT) (u : UT) : Prop := ∀ (ρ : List Sl) (k : Bool → Prop), u ρ k → ∀ (R : Hp) (W : Addr → Prop) (B H : Hp) (σ : St) (Q : Bool → Hp → Prop), Ev K R W B H σ ρ →
  (∀ b B' H', k b → Ev K R W B' H' σ ρ → Grow R B B' → Q b H') → t σ H Q
def RefL (t : TA) (u : UL) : Prop := ∀ (ρ : List Sl) (k : List D → Prop), u ρ k → ∀ (R : Hp) (W : Addr → Prop) (B H : Hp) (σ : St) (Q : List V → Hp → Prop), Ev K R W B H σ ρ →
  (∀ ds vs B' H', k ds → Ev K R W B' H' σ ρ → Grow R B B' → Reps K B' vs ds → Q vs H') → t σ H Q
inductive ArgsOk (B : Hp) (σ : St) (ρ : List Sl) : List V → List Arg → Prop where
  | nil : ArgsOk B σ ρ [] []
  | val {v : V} {d : D} {vs : List V} {as : List Arg} (h : Rep K B v d) (r : ArgsOk B σ ρ vs as) : ArgsOk B σ ρ (v :: vs) (.val d :: as)
  | bag {v : V} {i : Nat} {vs : List V} {as : List Arg} (h : σ[i]? = some (some v)) (hb : ρ[i]? = some .bag) (r : ArgsOk B σ ρ vs as) : ArgsOk B σ ρ (v :: vs) (.bag i :: as)
def RefA (t : TA) (u : UA) : Prop := ∀ (ρ : List Sl) (k : List Arg → Prop), u ρ k → ∀ (R : Hp) (W : Addr → Prop) (B H : Hp) (σ : St) (Q : List V → Hp → Prop), Ev K R W B H σ ρ →
  (∀ as vs B' H', k as → Ev K R W B' H' σ ρ → Grow R B B' → ArgsOk K B' σ ρ vs as → Q vs H') → t σ H Q
/-- of what stays: without the lists that were there at the entry -/
def newL (R B : Hp) : Hp := fun a => match B a with
  | some (.lst vs) => if (R a).isNone then some (.lst vs) else none
  | o => o
/-- what a def hands back -/
def ResOk (R : Hp) (B H : Hp) (v : V) : Sl → Prop
  | .no => False
  | .val d => Rep K B v d
  | .own ds => ∃ a vs, v = .ref a ∧ R a = none ∧ B a = none ∧ H a = some (.lst vs) ∧ Reps K B vs ds
  | .bag => ∃ b, v = .ref b ∧ R b = none ∧ B b = none ∧ Bag H b
  | .new d => Rep K (newL R B) v d
  | .pin _ _ => False
structure Sim (R : Hp) (W : Addr → Prop) (B : Hp) (U : UEnds) (D : Ends) : Prop where
  nx : ∀ ρ σ B' H', U.nx ρ → Ev K R W B' H' σ ρ → Grow R B B' → D.nx σ H'
  bk : ∀ ρ σ B' H', U.bk ρ → Ev K R W B' H' σ ρ → Grow R B B' → D.bk σ H'
  ct : ∀ ρ σ B' H', U.ct ρ → Ev K R W B' H' σ ρ → Grow R B B' → D.ct σ H'
  rt : ∀ r v B' H', U.rt r → Wd R W B' H' → Grow R B B' → ResOk K R B' H' v r → D.rt v H'
def RefS (t : TS) (u : US) : Prop := ∀ (U : UEnds) (ρ : List Sl), u U ρ → ∀ (R : Hp) (W : Addr → Prop) (B H : Hp) (σ : St) (D : Ends), Ev K R W B H σ ρ → Sim K R W B U D → t D σ H
def RefG (g : TG) (u : UG) : Prop := ∀ (d : D) (ρ : List Sl) (k : List Sl → Prop), u d ρ k → ∀ (R : Hp) (W : Addr → Prop) (B H : Hp) (σ : St) (v : V) (Q : St → Hp → Prop), Ev K R W B H σ ρ → Rep K B v d →
  (∀ ρ' σ', k ρ' → Ev K R W B H σ' ρ' → (∀ j a, MutAt σ' ρ' j a → MutAt σ ρ j a) → Q σ' H) → g v σ H Q
def RefGs (g : TGs) (u : UGs) : Prop := ∀ (ds : List D) (ρ : List Sl) (k : List Sl → Prop), u ds ρ k → ∀ (R : Hp) (W : Addr → Prop) (B H : Hp) (σ : St) (vs : List V) (Q : St → Hp → Prop), Ev K R W B H σ ρ → Reps K B vs ds →
  (∀ ρ' σ', k ρ' → Ev K R W B H σ' ρ' → (∀ j a, MutAt σ' ρ' j a → MutAt σ ρ j a) → Q σ' H) → g vs σ H Q
/-- what is walked -/
def ItOk (B : Hp) (J : It) (ds : List D) : Prop := ∀ (H : Hp), Same B H → ∀ i, (i < ds.length → J.go i H) ∧ (ds.length ≤ i → J.stop i H) ∧ ∀ x H', i < ds.length → J.yld i H x H' → H' = H ∧ ∃ d, ds[i]? = some d ∧ Rep K B x d
def RefI (t : TI) (u : UL) : Prop := ∀ (ρ : List Sl) (k : List D → Prop), u ρ k → ∀ (R : Hp) (W : Addr → Prop) (B H : Hp) (σ : St) (Q : It → Hp → Prop), Ev K R W B H σ ρ →
  (∀ ds J B' H', k ds → Ev K R W B' H' σ ρ → Grow R B B' → ItOk K B' J ds → Q J H') → t σ H Q
end
theorem newL_sub {R B : Hp} : Same (newL R B) B := fun a o h => by
  unfold newL at h
  split at h
  · rename_i vs e
    split at h
    · rw [e]; exact h
    · cases h
  · exact h
theorem newL_mono {R B B' : Hp} (s : Same B B') : Same (newL R B) (newL R B') := fun a o h => by
  have hB := s a o (newL_sub a o h)
  unfold newL at h ⊢
  rw [hB]
  split at h
  · rename_i vs e
    split at h
    · rename_i z
      have := Option.some.inj h
      subst this
      dsimp only
      rw [if_pos z]
    · cases h
  · rename_i ne
    cases o with
    | lst vs => exact absurd h (ne vs)
    | _ => rfl
theorem newL_weak {R R' B : Hp} (w : ∀ a, R' a = none → R a = none) : Same (newL R' B) (newL R B) := fun a o h => by
  have hB := newL_sub a o h
  unfold newL at h ⊢
  rw [hB] at h ⊢
  cases o with
  | lst vs =>
    dsimp only at h ⊢
    split at h
    · rename_i z
      rw [if_pos (by rw [Option.isNone_iff_eq_none] at z ⊢; exact w a z)]
    · cases h
  | _ => rfl
theorem newL_at {R B : Hp} {a : Addr} {vs : List V} (h : B a = some (.lst vs)) (n : R a = none) : newL R B a = some (.lst vs) := by
  unfold newL
  rw [h]
  dsimp only
  rw [if_pos (by rw [n]; rfl)]
theorem newL_out {R B : Hp} {a : Addr} {vs : List V} (h : newL R B a = some (.lst vs)) : B a = some (.lst vs) ∧ R a = none := by
  have hB := newL_sub a _ h
  refine ⟨hB, ?_⟩
  unfold newL at h
  rw [hB] at h
  dsimp only at h
  split at h
  · rename_i z; rw [Option.isNone_iff_eq_none] at z; exact z
  · cases h
theorem Sim.grow {K : PySem.W.Frag} {R : Hp} {W : Addr → Prop} {B B' : Hp} {U : UEnds} {D : Ends} (s : Sim K R W B U D) (g : Grow R B B') : Sim K R W B' U D :=
  ⟨fun ρ σ C H h e q => s.nx ρ σ C H h e (g.trans q), fun ρ σ C H h e q => s.bk ρ σ C H h e (g.trans q), fun ρ σ C H h e q => s.ct ρ σ C H h e (g.trans q), fun r v C H h e q z => s.rt r v C H h e (g.trans q) z⟩
section
variable (X : Cx)
def PE3 (e : Expr) (u : UE) : Prop := ∃ t, PE X e t ∧ RefE X.K t u
def PO3 (e : Expr) (u : UL) : Prop := ∃ t, PE X e t ∧ RefO X.K t u
def PT3 (e : Expr) (u : UT) : Prop := ∃ t, PT X e t ∧ RefT X.K t u
def PW3 (e : Expr) (u : UT) : Prop := ∃ t, PW X e t ∧ RefT X.K t u
def PL3 (es : List Expr) (u : UL) : Prop := ∃ t, PA X es t ∧ RefL X.K t u
def PA3 (es : List Expr) (u : UA) : Prop := ∃ t, PA X es t ∧ RefA X.K t u
def PS3 (s : Stmt) (u : US) : Prop := ∃ t, PS X s t ∧ RefS X.K t u
def PSs3 (s : List Stmt) (u : US) : Prop := ∃ t, PSs X s t ∧ RefS X.K t u
def PG3 (e : Expr) (u : UG) : Prop := ∃ t, PG X e t ∧ RefG X.K t u
def PGs3 (e : List Expr) (u : UGs) : Prop := ∃ t, PGs X e t ∧ RefGs X.K t u
def PI3 (tg e : Expr) (u : UL) : Prop := ∃ t, PI X tg e t ∧ RefI X.K t u
end
/-! ### expressions -/
def uVar (i : Nat) : UE := fun ρ k => ∃ d, ρ[i]? = some (.val d) ∧ k d
def uC (d : D) : UE := fun _ k => k d
def uI (C : Int → Int → Prop) (g : Int → Int → D) (ua ub : UE) : UE := fun ρ k => ua ρ fun x => ub ρ fun y => ∃ i j, x = .int i ∧ y = .int j ∧ C i j ∧ k (g i j)
def uI0 (g : Int → Int → D) (ua ub : UE) : UE := fun ρ k => ua ρ fun x => ub ρ fun y => ∃ i j, x = .int i ∧ y = .int j ∧ k (g i j)
def uNeg (ua : UE) : UE := fun ρ k => ua ρ fun x => ∃ i, x = .int i ∧ k (.int (-i))
section
variable {K : PySem.W.Frag} {X : Cx}
theorem refVar (i : Nat) : RefE K (tVar i) (uVar i) := by
  intro ρ k h R W B H σ Q e q
  obtain ⟨d, h, z⟩ := h
  obtain ⟨v, e1, r⟩ := e.val h
  exact ⟨v, e1, q d v B H z e (Grow.refl _ _) r⟩
theorem refC {v : V} {d : D} (h : ∀ B, Rep K B v d) : RefE K (tC v) (uC d) := fun ρ k z R W B H σ Q e q => q d v B H z e (Grow.refl _ _) (h B)
theorem ref2 {ta tb : TE} {ua ub : UE} {r : R2} {f : D → D → (D → Prop) → Prop} (ha : RefE K ta ua) (hb : RefE K tb ub)
    (hr : ∀ (x y : D) (k : D → Prop), f x y k → ∀ (R : Hp) (W : Addr → Prop) (B H : Hp) (σ : St) (ρ : List Sl) (v w : V) (Q : VK), Ev K R W B H σ ρ → Rep K B v x → Rep K B w y → (∀ d v B' H', k d → Ev K R W B' H' σ ρ → Grow R B B' → Rep K B' v d → Q v H') → r v w H Q) :
    RefE K (tOp r ta tb) (fun ρ k => ua ρ fun x => ub ρ fun y => f x y k) := by
  intro ρ k h R W B H σ Q e q
  refine ha ρ _ h R W B H σ _ e fun x v B1 H1 h1 e1 g1 r1 => ?_
  refine hb ρ _ h1 R W B1 H1 σ _ e1 fun y w B2 H2 h2 e2 g2 r2 => ?_
  exact hr x y k h2 R W B2 H2 σ ρ v w Q e2 (r1.mono g2.s) r2 fun d u B3 H3 h3 e3 g3 r3 => q d u B3 H3 h3 e3 ((g1.trans g2).trans g3) r3
theorem ref1 {ta : TE} {ua : UE} {r : V → Hp → VK → Prop} {f : D → (D → Prop) → Prop} (ha : RefE K ta ua)
    (hr : ∀ (x : D) (k : D → Prop), f x k → ∀ (R : Hp) (W : Addr → Prop) (B H : Hp) (σ : St) (ρ : List Sl) (v : V) (Q : VK), Ev K R W B H σ ρ → Rep K B v x → (∀ d v B' H', k d → Ev K R W B' H' σ ρ → Grow R B B' → Rep K B' v d → Q v H') → r v H Q) :
    RefE K (tUn r ta) (fun ρ k => ua ρ fun x => f x k) := by
  intro ρ k h R W B H σ Q e q
  refine ha ρ _ h R W B H σ _ e fun x v B1 H1 h1 e1 g1 r1 => ?_
  exact hr x k h1 R W B1 H1 σ ρ v Q e1 r1 fun d u B3 H3 h3 e3 g3 r3 => q d u B3 H3 h3 e3 (g1.trans g3) r3
theorem Rep.intV {B : Hp} {v : V} {i : Int} (r : Rep K B v (.int i)) : v = .int i := by cases r; rfl
theorem Rep.blV {B : Hp} {v : V} {b : Bool} (r : Rep K B v (.bl b)) : v = .bl b := by cases r; rfl
theorem Rep.nonV {B : Hp} {v : V} (r : Rep K B v .non) : v = .non := by cases r; rfl
theorem Rep.tupV {B : Hp} {v : V} {ds : List D} (r : Rep K B v (.tup ds)) : ∃ a vs, v = .ref a ∧ B a = some (.tup vs) ∧ Reps K B vs ds := by
  cases r with | tup h r => exact ⟨_, _, rfl, h, r⟩
theorem Rep.lstV {B : Hp} {v : V} {ds : List D} (r : Rep K B v (.lst ds)) : ∃ a vs, v = .ref a ∧ B a = some (.lst vs) ∧ Reps K B vs ds := by
  cases r with | lst h r => exact ⟨_, _, rfl, h, r⟩
theorem Rep.scrV {B : Hp} {v : V} {ns : List Int} (r : Rep K B v (.scr ns)) : ∃ a, v = .ref a ∧ SqL K B a (ns.map V.int) := by
  cases r with | scr h => exact ⟨_, rfl, h⟩
theorem refI {C : Int → Int → Prop} {f : Int → Int → V} {g : Int → Int → D} {ta tb : TE} {ua ub : UE} (hg : ∀ B i j, Rep K B (f i j) (g i j)) (ha : RefE K ta ua) (hb : RefE K tb ub) : RefE K (tOp (rI C f) ta tb) (uI C g ua ub) :=
  ref2 ha hb fun x y k h R W B H σ ρ v w Q e rx ry q => by
    obtain ⟨i, j, rfl, rfl, hc, hk⟩ := h
    exact ⟨i, j, rx.intV, ry.intV, hc, q _ _ B H hk e (Grow.refl _ _) (hg B i j)⟩
theorem refI0 {f : Int → Int → V} {g : Int → Int → D} {ta tb : TE} {ua ub : UE} (hg : ∀ B i j, Rep K B (f i j) (g i j)) (ha : RefE K ta ua) (hb : RefE K tb ub) : RefE K (tOp (rI0 f) ta tb) (uI0 g ua ub) :=
  ref2 ha hb fun x y k h R W B H σ ρ v w Q e rx ry q => by
    obtain ⟨i, j, rfl, rfl, hk⟩ := h
    exact ⟨i, j, rx.intV, ry.intV, q _ _ B H hk e (Grow.refl _ _) (hg B i j)⟩
theorem refNeg {ta : TE} {ua : UE} (ha : RefE K ta ua) : RefE K (tUn (rU fun i => .int (-i)) ta) (uNeg ua) :=
  ref1 (f := fun x k => ∃ i, x = .int i ∧ k (.int (-i))) ha fun x k h R W B H σ ρ v Q e rx q => by
    obtain ⟨i, rfl, hk⟩ := h
    exact ⟨i, rx.intV, q _ _ B H hk e (Grow.refl _ _) (.int _)⟩
variable {a b : Expr} {ua ub : UE} {pos : Pos}
theorem v3 (i : Nat) {x : Str} {pos : Pos} (hN : X.N[i]? = some x := by rfl) (hv : Vis X.env.scope x := by first | exact Or.inl rfl | exact Or.inr (Or.inl rfl) | exact Or.inr (Or.inr rfl)) (hd : (x == ("__debug__" : Str)) = false := by decide)
    (hcd : (x == ("__classdict__" : Str)) = false := by decide) : PE3 X (.Name x pos) (uVar i) := ⟨_, pe_var hN hv hd hcd, refVar i⟩
theorem e_int {i j pos} : PE3 X (.Constant (.int i) j pos) (uC (.int i)) := ⟨_, pe_int, refC fun _ => .int _⟩
theorem e_bl {b j pos} : PE3 X (.Constant (.bool b) j pos) (uC (.bl b)) := ⟨_, pe_bl, refC fun _ => .bl _⟩
theorem e_non {j pos} : PE3 X (.Constant .none j pos) (uC .non) := ⟨_, pe_non, refC fun _ => .non⟩
theorem e_add (ha : PE3 X a ua) (hb : PE3 X b ub) : PE3 X (.BinOp a .Add b pos) (uI0 (fun i j => .int (i + j)) ua ub) := by
  obtain ⟨_, h1, r1⟩ := ha; obtain ⟨_, h2, r2⟩ := hb
  exact ⟨_, pe_op op_add h1 h2, refI0 (fun _ _ _ => .int _) r1 r2⟩
theorem e_sub (ha : PE3 X a ua) (hb : PE3 X b ub) : PE3 X (.BinOp a .Sub b pos) (uI0 (fun i j => .int (i - j)) ua ub) := by
  obtain ⟨_, h1, r1⟩ := ha; obtain ⟨_, h2, r2⟩ := hb
  exact ⟨_, pe_op op_sub h1 h2, refI0 (fun _ _ _ => .int _) r1 r2⟩
theorem e_mul (ha : PE3 X a ua) (hb : PE3 X b ub) : PE3 X (.BinOp a .Mult b pos) (uI CMulB (fun i j => .int (i * j)) ua ub) := by
  obtain ⟨_, h1, r1⟩ := ha; obtain ⟨_, h2, r2⟩ := hb
  exact ⟨_, pe_op op_mulB h1 h2, refI (fun _ _ _ => .int _) r1 r2⟩
theorem e_fdiv (ha : PE3 X a ua) (hb : PE3 X b ub) : PE3 X (.BinOp a .FloorDiv b pos) (uI CDivB (fun i j => .int (i.fdiv j)) ua ub) := by
  obtain ⟨_, h1, r1⟩ := ha; obtain ⟨_, h2, r2⟩ := hb
  exact ⟨_, pe_op op_fdivB h1 h2, refI (fun _ _ _ => .int _) r1 r2⟩
theorem e_mod (ha : PE3 X a ua) (hb : PE3 X b ub) : PE3 X (.BinOp a .Mod b pos) (uI (fun _ j => 0 < j) (fun i j => .int (i % j)) ua ub) := by
  obtain ⟨_, h1, r1⟩ := ha; obtain ⟨_, h2, r2⟩ := hb
  exact ⟨_, pe_op op_mod h1 h2, refI (fun _ _ _ => .int _) r1 r2⟩
theorem e_neg (ha : PE3 X a ua) : PE3 X (.UnaryOp .USub a pos) (uNeg ua) := by
  obtain ⟨_, h1, r1⟩ := ha
  exact ⟨_, pe_un un_neg h1, refNeg r1⟩
/-- a comparison of ints, as a value -/
def Cm (op : CmpOp) (f : Int → Int → Bool) (X : Cx) : Prop := OpR X (compareOp op) (rI0 fun i j => .bl (f i j))
theorem e_cmp {op : CmpOp} {f : Int → Int → Bool} (ho : Cm op f X) (ha : PE3 X a ua) (hb : PE3 X b ub) (hm : behindInMarks op b = false) : PE3 X (.Compare a [op] [b] pos) (uI0 (fun i j => .bl (f i j)) ua ub) := by
  obtain ⟨_, h1, r1⟩ := ha; obtain ⟨_, h2, r2⟩ := hb
  exact ⟨_, pe_cmpR ho h1 h2 hm, refI0 (fun _ _ _ => .bl _) r1 r2⟩
/-! ### tests -/
def uB (ua : UE) : UT := fun ρ k => ua ρ fun x => ∃ c, x = .bl c ∧ k c
def uNotT (u : UT) : UT := fun ρ k => u ρ fun c => k (!c)
def uAndT (u w : UT) : UT := fun ρ k => u ρ fun c => if c = true then w ρ k else k false
def uOrT (u w : UT) : UT := fun ρ k => u ρ fun c => if c = true then k true else w ρ k
theorem refB {ta : TE} {ua : UE} (ha : RefE K ta ua) : RefT K (tB ta) (uB ua) := by
  intro ρ k h R W B H σ Q e q
  refine ha ρ _ h R W B H σ _ e fun x v B1 H1 h1 e1 g1 r1 => ?_
  obtain ⟨c, rfl, hk⟩ := h1
  exact ⟨c, r1.blV, q c B1 H1 hk e1 g1⟩
theorem t_val {e : Expr} {u : UE} (h : PE3 X e u) (he : ∀ whole, isTrue e X.env whole = (do let v ← whole; standAt e.pos; holding [v] (truthy v)) := by intro _; rfl) : PT3 X e (uB u) := by
  obtain ⟨_, h1, r1⟩ := h
  exact ⟨_, pt_val h1 he, refB r1⟩
theorem t_cmp {op : CmpOp} {f : Int → Int → Bool} (ho : Cm op f X) (ha : PE3 X a ua) (hb : PE3 X b ub) (hm : behindInMarks op b = false) : PT3 X (.Compare a [op] [b] pos) (uB (uI0 (fun i j => .bl (f i j)) ua ub)) := by
  obtain ⟨_, h1, r1⟩ := ha; obtain ⟨_, h2, r2⟩ := hb
  exact ⟨_, pt_cmpR ho h1 h2 hm, refB (refI0 (fun _ _ _ => .bl _) r1 r2)⟩
theorem refNotT {t : TT} {u : UT} (h : RefT K t u) : RefT K (tNot t) (uNotT u) := fun ρ k z R W B H σ Q e q => h ρ _ z R W B H σ _ e fun b B' H' h1 e1 g1 => q (!b) B' H' h1 e1 g1
theorem refAndT {t t' : TT} {u u' : UT} (h : RefT K t u) (h' : RefT K t' u') : RefT K (tAnd t t') (uAndT u u') := by
  intro ρ k z R W B H σ Q e q
  refine h ρ _ z R W B H σ _ e fun b B1 H1 h1 e1 g1 => ?_
  cases b with
  | true =>
    rw [if_pos rfl] at h1 ⊢
    exact h' ρ _ h1 R W B1 H1 σ _ e1 fun c B2 H2 h2 e2 g2 => q c B2 H2 h2 e2 (g1.trans g2)
  | false =>
    rw [if_neg Bool.false_ne_true] at h1 ⊢
    exact q false B1 H1 h1 e1 g1
theorem refOrT {t t' : TT} {u u' : UT} (h : RefT K t u) (h' : RefT K t' u') : RefT K (tOr t t') (uOrT u u') := by
  intro ρ k z R W B H σ Q e q
  refine h ρ _ z R W B H σ _ e fun b B1 H1 h1 e1 g1 => ?_
  cases b with
  | false =>
    rw [if_neg Bool.false_ne_true] at h1 ⊢
    exact h' ρ _ h1 R W B1 H1 σ _ e1 fun c B2 H2 h2 e2 g2 => q c B2 H2 h2 e2 (g1.trans g2)
  | true =>
    rw [if_pos rfl] at h1 ⊢
    exact q true B1 H1 h1 e1 g1
theorem t_not {u : UT} (h : PT3 X a u) : PT3 X (.UnaryOp .Not a pos) (uNotT u) := by
  obtain ⟨_, h1, r1⟩ := h
  exact ⟨_, pt_not h1, refNotT r1⟩
theorem w_and1 {u : UT} (h : PT3 X a u) : PW3 X (.BoolOp .And [a] pos) u := by
  obtain ⟨_, h1, r1⟩ := h
  exact ⟨_, pw_and1 h1, r1⟩
theorem w_or1 {u : UT} (h : PT3 X a u) : PW3 X (.BoolOp .Or [a] pos) u := by
  obtain ⟨_, h1, r1⟩ := h
  exact ⟨_, pw_or1 h1, r1⟩
theorem w_and {rest : List Expr} {u u' : UT} (h : PT3 X a u) (h' : PW3 X (.BoolOp .And (b :: rest) pos) u') : PW3 X (.BoolOp .And (a :: b :: rest) pos) (uAndT u u') := by
  obtain ⟨_, h1, r1⟩ := h; obtain ⟨_, h2, r2⟩ := h'
  exact ⟨_, pw_and h1 h2, refAndT r1 r2⟩
theorem w_or {rest : List Expr} {u u' : UT} (h : PT3 X a u) (h' : PW3 X (.BoolOp .Or (b :: rest) pos) u') : PW3 X (.BoolOp .Or (a :: b :: rest) pos) (uOrT u u') := by
  obtain ⟨_, h1, r1⟩ := h; obtain ⟨_, h2, r2⟩ := h'
  exact ⟨_, pw_or h1 h2, refOrT r1 r2⟩
theorem w_t {u : UT} (h : PW3 X a u) : PT3 X a u := by
  obtain ⟨_, h1, r1⟩ := h
  exact ⟨_, h1.pt, r1⟩
/-! ### and, or, not as values -/
def uAndV (u w : UE) : UE := fun ρ k => u ρ fun x => ∃ c, x = .bl c ∧ if c = true then w ρ k else k (.bl false)
theorem e_one {op : BoolOp} (h : PE3 X a ua) : PE3 X (.BoolOp op [a] pos) ua := by
  obtain ⟨_, h1, r1⟩ := h
  exact ⟨_, pe_one h1, r1⟩
theorem e_and {rest : List Expr} (h : PE3 X a ua) (h' : PE3 X (.BoolOp .And (b :: rest) pos) ub) : PE3 X (.BoolOp .And (a :: b :: rest) pos) (uAndV ua ub) := by
  obtain ⟨_, h1, r1⟩ := h; obtain ⟨_, h2, r2⟩ := h'
  refine ⟨_, pe_and h1 h2, fun ρ k z R W B H σ Q e q => ?_⟩
  refine r1 ρ _ z R W B H σ _ e fun x v B1 H1 z1 e1 g1 s1 => ?_
  obtain ⟨c, rfl, z1⟩ := z1
  refine ⟨c, s1.blV, ?_⟩
  cases c with
  | true =>
    rw [if_pos rfl] at z1 ⊢
    exact r2 ρ _ z1 R W B1 H1 σ _ e1 fun d w B2 H2 h2 e2 g2 s2 => q d w B2 H2 h2 e2 (g1.trans g2) s2
  | false =>
    rw [if_neg Bool.false_ne_true] at z1 ⊢
    exact q _ _ B1 H1 z1 e1 g1 (.bl _)
/-- a if c else b -/
def uIfE (c : UT) (u w : UE) : UE := fun ρ k => c ρ fun b => if b = true then u ρ k else w ρ k
theorem e_ifE {c : Expr} {uc : UT} (hc : PT3 X c uc) (ha : PE3 X a ua) (hb : PE3 X b ub) : PE3 X (.IfExp c a b pos) (uIfE uc ua ub) := by
  obtain ⟨_, h0, r0⟩ := hc; obtain ⟨_, h1, r1⟩ := ha; obtain ⟨_, h2, r2⟩ := hb
  refine ⟨_, pe_ifExp h0 h1 h2, fun ρ k z R W B H σ Q e q => ?_⟩
  refine r0 ρ _ z R W B H σ _ e fun c B1 H1 z1 e1 g1 => ?_
  cases c with
  | true =>
    rw [if_pos rfl] at z1 ⊢
    exact r1 ρ _ z1 R W B1 H1 σ _ e1 fun d w B2 H2 h2 e2 g2 s2 => q d w B2 H2 h2 e2 (g1.trans g2) s2
  | false =>
    rw [if_neg Bool.false_ne_true] at z1 ⊢
    exact r2 ρ _ z1 R W B1 H1 σ _ e1 fun d w B2 H2 h2 e2 g2 s2 => q d w B2 H2 h2 e2 (g1.trans g2) s2
/-! ### lists of expressions, displays -/
def uNil : UL := fun _ k => k []
def uCons (u : UE) (w : UL) : UL := fun ρ k => u ρ fun d => w ρ fun ds => k (d :: ds)
variable {e : Expr} {es : List Expr} {u : UE} {w : UL}
theorem refNil : RefL K tNil uNil := fun ρ k h R W B H σ Q e q => q [] [] B H h e (Grow.refl _ _) .nil
theorem refCons {te : TE} {t : TA} (h1 : RefE K te u) (h2 : RefL K t w) : RefL K (tCons te t) (uCons u w) := by
  intro ρ k h R W B H σ Q e q
  refine h1 ρ _ h R W B H σ _ e fun d v B1 H1 z1 e1 g1 r1 => ?_
  refine h2 ρ _ z1 R W B1 H1 σ _ e1 fun ds vs B2 H2 z2 e2 g2 r2 => ?_
  exact q _ _ B2 H2 z2 e2 (g1.trans g2) (.cons (r1.mono g2.s) r2)
theorem l_nil : PL3 X [] uNil := ⟨_, pa_nil, refNil⟩
theorem l_cons (ha : PE3 X e u) (hr : PL3 X es w) (hs : starEach (e :: es) X.env = (false, eval e X.env) :: starEach es X.env := by rfl) : PL3 X (e :: es) (uCons u w) := by
  obtain ⟨_, h1, r1⟩ := ha; obtain ⟨_, h2, r2⟩ := hr
  exact ⟨_, pa_cons h1 h2 hs, refCons r1 r2⟩
def uTup (w : UL) : UE := fun ρ k => w ρ fun ds => ds.length ≤ sizeLine ∧ k (.tup ds)
theorem e_tup {x1} (h : PL3 X es w) : PE3 X (.Tuple es x1 pos) (uTup w) := by
  obtain ⟨_, h1, r1⟩ := h
  refine ⟨_, pe_tup h1, fun ρ k z R W B H σ Q e q => ?_⟩
  refine r1 ρ _ z R W B H σ _ e fun ds vs B1 H1 z1 e1 g1 s1 => ?_
  refine ⟨by rw [s1.length]; exact z1.1, fun p hp => ?_⟩
  have g2 := e1.grow hp (.tup vs)
  exact q _ _ _ _ z1.2 (e1.alloc hp _) (g1.trans g2) (.tup upd_same (s1.mono g2.s))
def uLst (w : UL) : UL := fun ρ k => w ρ fun ds => ds.length ≤ sizeLine ∧ k ds
theorem o_lst (h : PL3 X es w) : PO3 X (.List es pos) (uLst w) := by
  obtain ⟨_, h1, r1⟩ := h
  refine ⟨_, pe_lst h1, fun ρ k z R W B H σ Q e q => ?_⟩
  refine r1 ρ _ z R W B H σ _ e fun ds vs B1 H1 z1 e1 g1 s1 => ?_
  refine ⟨by rw [s1.length]; exact z1.1, fun p hp => ?_⟩
  obtain ⟨f1, f2, f3⟩ := e1.toWd.fresh hp
  exact q ds p vs B1 _ z1.2 (e1.allocH hp _) g1 f1 f3 upd_same s1 fun i m => e1.notNew hp m rfl
def uFr (w : UL) : UE := fun ρ k => w ρ fun ds => k (.lst ds)
theorem refFr {t : TE} (h : RefO K t w) : RefE K t (uFr w) := by
  intro ρ k z R W B H σ Q e q
  refine h ρ _ z R W B H σ _ e fun ds a vs B1 H1 z1 e1 g1 hr hb hh rp hm => ?_
  obtain ⟨e2, g2⟩ := e1.freeze hh hr hb hm
  exact q _ _ _ _ z1 e2 (g1.trans g2) (.lst upd_same (rp.mono g2.s))
theorem o_e (h : PO3 X e w) : PE3 X e (uFr w) := by
  obtain ⟨_, h1, r1⟩ := h
  exact ⟨_, h1, refFr r1⟩
/-! ### items -/
def uIx (ua ub : UE) : UE := fun ρ k => ua ρ fun x => ub ρ fun y => ∃ ds i d, (x = .tup ds ∨ x = .lst ds) ∧ y = .int i ∧ atI ds i = some d ∧ k d
theorem atI_reps {B : Hp} {vs : List V} {ds : List D} {i : Int} {d : D} (r : Reps K B vs ds) (h : atI ds i = some d) : ∃ v, atI vs i = some v ∧ Rep K B v d := by
  unfold atI at h ⊢
  rw [r.length]
  cases q : ixN ds.length i with
  | none => rw [q] at h; cases h
  | some j =>
    rw [q] at h
    exact r.get h
theorem e_ix (ha : PE3 X a ua) (hb : PE3 X b ub) (hs : PlainIx b) : PE3 X (.Subscript a b pos) (uIx ua ub) := by
  obtain ⟨_, h1, r1⟩ := ha; obtain ⟨_, h2, r2⟩ := hb
  refine ⟨_, pe_ix ix_any h1 h2 hs, ref2 r1 r2 fun x y k h R W B H σ ρ v w' Q e rx ry q => ?_⟩
  obtain ⟨ds, i, d, hx, rfl, ha, hk⟩ := h
  rcases hx with rfl | rfl
  · obtain ⟨p, vs, rfl, hp, rp⟩ := rx.tupV
    obtain ⟨z, hz, rz⟩ := atI_reps rp ha
    exact ⟨p, vs, i, z, rfl, ry.intV, .inl (e.bh _ _ hp), hz, q d z B H hk e (Grow.refl _ _) rz⟩
  · obtain ⟨p, vs, rfl, hp, rp⟩ := rx.lstV
    obtain ⟨z, hz, rz⟩ := atI_reps rp ha
    exact ⟨p, vs, i, z, rfl, ry.intV, .inr (e.bh _ _ hp), hz, q d z B H hk e (Grow.refl _ _) rz⟩
end
end L3

/-! Calls, built-in functions, statements, loops, comprehensions, defs, over trees. -/
namespace L3
open PySem L2
open PySem.Builtin.Int (intBits)
/-! ### what a def promises over trees -/
abbrev FS := List Sl → (Sl → Prop) → Prop
def bags : List Sl → Nat
  | [] => 0
  | .bag :: r => bags r + 1
  | _ :: r => bags r
inductive ArgsIn (K : PySem.W.Frag) (W : Addr → Prop) (B : Hp) : List V → List Sl → Prop where
  | nil : ArgsIn K W B [] []
  | val {v : V} {d : D} {vs : List V} {as : List Sl} (h : Rep K B v d) (r : ArgsIn K W B vs as) : ArgsIn K W B (v :: vs) (.val d :: as)
  | bag {b : Addr} {vs : List V} {as : List Sl} (h : W b) (r : ArgsIn K W B vs as) : ArgsIn K W B (.ref b :: vs) (.bag :: as)
structure Exit (K : PySem.W.Frag) (W : Addr → Prop) (B H : Hp) (v : V) (r : Sl) (B' H' : Hp) : Prop where
  wd : Wd H W B' H'
  g : Grow H B B'
  res : ResOk K H B' H' v r
def Con (K : PySem.W.Frag) (n : Nat) (F : FS) : Sp := fun vs H Q _ => ∃ (W : Addr → Prop) (B : Hp) (as : List Sl) (k : Sl → Prop), F as k ∧ as.length = n ∧ Nat.ble (bags as) 1 = true ∧ Same B H ∧ (∀ a, W a → B a = none ∧ Bag H a) ∧ ArgsIn K W B vs as ∧
  ∀ r v B' H', k r → Exit K W B H v r B' H' → Q v H'
section
variable {K : PySem.W.Frag} {R : Hp} {W : Addr → Prop} {B B' H H' : Hp} {σ : St} {ρ : List Sl}
theorem ArgsIn.length : ∀ {vs : List V} {as : List Sl}, ArgsIn K W B vs as → vs.length = as.length
  | _, _, .nil => rfl
  | _, _, .val _ r => by rw [List.length_cons, List.length_cons, r.length]
  | _, _, .bag _ r => by rw [List.length_cons, List.length_cons, r.length]
theorem ArgsIn.get : ∀ {vs : List V} {as : List Sl}, ArgsIn K W B vs as → ∀ (i : Nat) (k : Sl), as[i]? = some k → (∃ v d, vs[i]? = some v ∧ k = .val d ∧ Rep K B v d) ∨ (∃ b, vs[i]? = some (.ref b) ∧ k = .bag ∧ W b)
  | _, _, .nil, i, k, e => by simp at e
  | _, _, .val h r, 0, k, e => by simp at e; subst e; exact .inl ⟨_, _, rfl, rfl, h⟩
  | _, _, .val h r, i + 1, k, e => by simpa using r.get i k (by simpa using e)
  | _, _, .bag h r, 0, k, e => by simp at e; subst e; exact .inr ⟨_, rfl, rfl, h⟩
  | _, _, .bag h r, i + 1, k, e => by simpa using r.get i k (by simpa using e)
theorem bags_none : ∀ {as : List Sl} {i : Nat}, bags as = 0 → as[i]? ≠ some .bag
  | [], i, _ => by simp
  | .bag :: r, i, h => by simp [bags] at h
  | .no :: r, 0, h => by simp
  | .no :: r, i + 1, h => by simpa using bags_none (as := r) (i := i) h
  | .val d :: r, 0, h => by simp
  | .val d :: r, i + 1, h => by simpa using bags_none (as := r) (i := i) h
  | .new d :: r, 0, h => by simp
  | .new d :: r, i + 1, h => by simpa using bags_none (as := r) (i := i) h
  | .pin v d :: r, 0, h => by simp
  | .pin v d :: r, i + 1, h => by simpa using bags_none (as := r) (i := i) h
  | .own d :: r, 0, h => by simp
  | .own d :: r, i + 1, h => by simpa using bags_none (as := r) (i := i) h
theorem bags_one : ∀ {as : List Sl} {i j : Nat}, bags as ≤ 1 → as[i]? = some .bag → as[j]? = some .bag → i = j
  | [], i, j, _, e, _ => by simp at e
  | .bag :: r, 0, 0, _, _, _ => rfl
  | .bag :: r, 0, j + 1, h, _, e => absurd (by simpa using e) (bags_none (as := r) (i := j) (by simp [bags] at h; exact h))
  | .bag :: r, i + 1, _, h, e, _ => absurd (by simpa using e) (bags_none (as := r) (i := i) (by simp [bags] at h; exact h))
  | .no :: r, 0, _, _, e, _ => by simp at e
  | .no :: r, i + 1, 0, _, _, e => by simp at e
  | .no :: r, i + 1, j + 1, h, e, e' => by rw [bags_one (as := r) (i := i) (j := j) h (by simpa using e) (by simpa using e')]
  | .val d :: r, 0, _, _, e, _ => by simp at e
  | .val d :: r, i + 1, 0, _, _, e => by simp at e
  | .val d :: r, i + 1, j + 1, h, e, e' => by rw [bags_one (as := r) (i := i) (j := j) h (by simpa using e) (by simpa using e')]
  | .new d :: r, 0, _, _, e, _ => by simp at e
  | .new d :: r, i + 1, 0, _, _, e => by simp at e
  | .new d :: r, i + 1, j + 1, h, e, e' => by rw [bags_one (as := r) (i := i) (j := j) h (by simpa using e) (by simpa using e')]
  | .pin v d :: r, 0, _, _, e, _ => by simp at e
  | .pin v d :: r, i + 1, 0, _, _, e => by simp at e
  | .pin v d :: r, i + 1, j + 1, h, e, e' => by rw [bags_one (as := r) (i := i) (j := j) h (by simpa using e) (by simpa using e')]
  | .own d :: r, 0, _, _, e, _ => by simp at e
  | .own d :: r, i + 1, 0, _, _, e => by simp at e
  | .own d :: r, i + 1, j + 1, h, e, e' => by rw [bags_one (as := r) (i := i) (j := j) h (by simpa using e) (by simpa using e')]
/-- behind a call: what the caller holds -/
theorem Ev.after {W' : Addr → Prop} (e : Ev K R W B H σ ρ) (hW : ∀ a, W' a → ∃ i : Nat, σ[i]? = some (some (.ref a)) ∧ ρ[i]? = some .bag) (wd : Wd H W' B' H') (g : Grow H B B') : Ev K R W B' H' σ ρ ∧ Grow R B B' := by
  have nb : ∀ a, B a = none → H a ≠ none → B' a = none := fun a h1 h2 => by
    cases q : B' a with
    | none => rfl
    | some o =>
      rcases g.n a o q with z | z
      · rw [h1] at z; cases z
      · exact absurd z h2
  have st : ∀ a, ¬ W' a → H a ≠ none → H' a = H a := fun a h1 h2 => by
    cases q : H a with
    | none => exact absurd q h2
    | some o => exact wd.fr a o q h1
  have bagS : ∀ a, Bag H a → Bag H' a := fun a h => by
    by_cases z : W' a
    · exact wd.wh a z
    · obtain ⟨x, y, e1, q⟩ := h
      exact ⟨x, y, by rw [st a z (by rw [e1]; simp)]; exact e1, q⟩
  have bagN : ∀ a, Bag H a → H a ≠ none := fun a ⟨x, y, e1, _⟩ => by rw [e1]; simp
  refine ⟨e.move ⟨fun a o h nw => ?_, wd.bh, fun a h => nb a (e.wb a h) (bagN a (e.wh a h)), fun a h => bagS a (e.wh a h), e.wr⟩ g.s (fun i a m => ⟨nb a (e.mutOk m).1 (e.mutOk m).2, fun z => ?_, fun ⟨ds, z⟩ => ?_⟩), ⟨g.s, fun a o h => ?_⟩⟩
  · have h1 := e.fr a o h nw
    refine wd.fr a o h1 fun z => ?_
    obtain ⟨i, z1, z2⟩ := hW a z
    obtain ⟨b, y1, y2, _⟩ := e.bagAt z2
    rw [z1] at y1; cases y1
    rcases y2 with y2 | y2
    · exact nw y2
    · rw [y2] at h; cases h
  · obtain ⟨b, y1, _, _, y4⟩ := e.bagAt z
    rw [m.1] at y1; cases y1
    exact bagS _ y4
  · refine st a (fun q => ?_) (e.mutOk m).2
    obtain ⟨j, z1, z2⟩ := hW a q
    have := e.sep i j a m ⟨z1, .inl z2⟩
    subst this
    rw [z] at z2; cases z2
  · rcases g.n a o h with z | z
    · exact .inl z
    · exact .inr (e.toWd.fresh z).1
/-- a def's own state at its entry -/
theorem Ev.start {N : List Str} {vs : List V} {as : List Sl} (hb : bags as ≤ 1) (sB : Same B H) (hw : ∀ a, W a → B a = none ∧ Bag H a) (ai : ArgsIn K W B vs as) : Ev K H W B H (L2.start N vs) (as ++ List.replicate (N.length - as.length) .no) := by
  have hl := ai.length
  have wd : Wd H W B H := ⟨fun _ _ h _ => h, sB, fun a h => (hw a h).1, fun a h => (hw a h).2, fun a h => by obtain ⟨x, y, q, _⟩ := (hw a h).2; rw [q]; simp⟩
  have lo : ∀ i k, as[i]? = some k → (L2.start N vs)[i]? = (vs[i]?).map some := fun i k h => by
    have lt : i < as.length := by
      by_cases z : i < as.length
      · exact z
      · rw [List.getElem?_eq_none (by omega)] at h; cases h
    unfold L2.start
    rw [List.getElem?_append_left (by rw [List.length_map]; omega), List.getElem?_map]
  have cs : ∀ (i : Nat) (k : Sl), (as ++ List.replicate (N.length - as.length) Sl.no)[i]? = some k → as[i]? = some k ∨ k = Sl.no := fun i k h => by
    by_cases z : i < as.length
    · rw [List.getElem?_append_left z] at h; exact .inl h
    · rw [List.getElem?_append_right (by omega)] at h
      rw [List.getElem?_replicate] at h
      split at h
      · exact .inr (Option.some.inj h).symm
      · cases h
  have bg : ∀ i : Nat, (as ++ List.replicate (N.length - as.length) Sl.no)[i]? = some Sl.bag → as[i]? = some Sl.bag := fun i h => by
    rcases cs i _ h with h | h
    · exact h
    · cases h
  refine ⟨wd, by unfold L2.start; simp [hl], fun i k h => ?_, fun i j a m1 m2 => ?_⟩
  · rcases cs i k h with h | rfl
    · rw [lo i k h]
      rcases ai.get i k h with ⟨v, d, h1, rfl, r⟩ | ⟨b, h1, rfl, r⟩
      · rw [h1]; exact ⟨v, rfl, r⟩
      · rw [h1]; exact ⟨b, rfl, .inl r, (hw b r).1, (hw b r).2⟩
    · trivial
  · have one : ∀ i, MutAt (L2.start N vs) (as ++ List.replicate (N.length - as.length) Sl.no) i a → as[i]? = some .bag := fun i m => by
      rcases m.2 with z | ⟨ds, z⟩
      · exact bg i z
      · rcases cs i _ z with z | z
        · rcases ai.get i _ z with ⟨v, d, _, q, _⟩ | ⟨b, _, q, _⟩ <;> cases q
        · cases z
    exact bags_one hb (one i m1) (one j m2)
/-- THE RULE for a def over trees -/
theorem def3 {P : Program} {w : World} {mg : Str → Option Value} {base : Heap} {x : Str} {st : Stmt} {N ps : List Str} {lv n : Nat} {F : FS} (Fd : Fnd K mg x st ps) (S : FnScope N ps (defScope st)) (hn : ps.length = n)
    (hbody : ∀ (f : Addr) (cdv : Value) (A : Around) (outer : List PySem.Env) (s : Shared) (H : Hp) (E : XK), Room lv (A.deeper (PyProof.Rows.envOfC x (defScope st) s.heap.objs.size f cdv)) →
      ∃ u, PSs3 (cxOf CX0 P w K mg base N x (defScope st) f cdv A outer s H E).nox (defBody st) u ∧ ∀ as k, as.length = n → F as k → u { nx := fun _ => k (.val .non), rt := k } (as ++ List.replicate (N.length - n) .no)) : Cal P w K mg base x ps (lv + 1) (Con K n F) := by
  refine Fd.ok S (fun vs H Q E h => ?_) (fun f cdv A outer s H vs Q E hr h => ?_)
  · obtain ⟨W, B, as, k, _, hl, _, _, _, ai, _⟩ := h
    rw [ai.length, hl, hn]
  · obtain ⟨W, B, as, k, hF, hl, hb, sB, hw, ai, q⟩ := h
    obtain ⟨u, ⟨t, ht, rt⟩, hu⟩ := hbody f cdv A outer s H E hr
    have ev := Ev.start (N := N) (Nat.le_of_ble_eq_true hb) sB hw ai
    rw [hl] at ev
    refine ⟨t, ht, rt _ _ (hu as k hl hF) H W B H (L2.start N vs) _ ev ⟨fun ρ σ B' H' h e g => ?_, fun _ _ _ _ h => h.elim, fun _ _ _ _ h => h.elim, fun r v B' H' h e g z => q r v B' H' h ⟨e, g, z⟩⟩⟩
    exact q _ _ B' H' h ⟨e.toWd, g, .non⟩
end
/-! ### calls -/
def Arg.sl : Arg → Sl
  | .val d => .val d
  | .bag _ => .bag
def fzR : Sl → (D → Prop) → Prop
  | .val d, k => k d
  | .own ds, k => k (.lst ds)
  | .new d, k => k d
  | _, _ => False
def uaNil : UA := fun _ k => k []
def uaV (u : UE) (w : UA) : UA := fun ρ k => u ρ fun d => w ρ fun as => k (.val d :: as)
def uaB (i : Nat) (w : UA) : UA := fun ρ k => ρ[i]? = some .bag ∧ w ρ fun as => k (.bag i :: as)
def sh (as : List Arg) (n : Nat) : Bool := Nat.beq as.length n && Nat.ble (bags (as.map Arg.sl)) 1
def uCall (n : Nat) (F : FS) (w : UA) : UE := fun ρ k => w ρ fun as => sh as n = true ∧ F (as.map Arg.sl) fun r => fzR r k
def uCallO (n : Nat) (F : FS) (w : UA) : UL := fun ρ k => w ρ fun as => sh as n = true ∧ F (as.map Arg.sl) fun r => ∃ ds, r = .own ds ∧ k ds
section
variable {K : PySem.W.Frag} {X : Cx} {e : Expr} {es : List Expr} {u : UE} {w : UA} {pos p : Pos} {n : Nat} {F : FS}
theorem a_nil : PA3 X [] uaNil := ⟨_, pa_nil, fun ρ k h R W B H σ Q e q => q [] [] B H h e (Grow.refl _ _) .nil⟩
theorem a_val (ha : PE3 X e u) (hr : PA3 X es w) (hs : starEach (e :: es) X.env = (false, eval e X.env) :: starEach es X.env := by rfl) : PA3 X (e :: es) (uaV u w) := by
  obtain ⟨_, h1, r1⟩ := ha; obtain ⟨_, h2, r2⟩ := hr
  refine ⟨_, pa_cons h1 h2 hs, fun ρ k h R W B H σ Q e q => ?_⟩
  refine r1 ρ _ h R W B H σ _ e fun d v B1 H1 z1 e1 g1 s1 => ?_
  refine r2 ρ _ z1 R W B1 H1 σ _ e1 fun as vs B2 H2 z2 e2 g2 s2 => ?_
  exact q _ _ B2 H2 z2 e2 (g1.trans g2) (.val (s1.mono g2.s) s2)
theorem a_bag (i : Nat) {x : Str} {px : Pos} (hr : PA3 X es w) (hN : X.N[i]? = some x := by rfl) (hv : Vis X.env.scope x := by first | exact Or.inl rfl | exact Or.inr (Or.inl rfl) | exact Or.inr (Or.inr rfl)) (hd : (x == ("__debug__" : Str)) = false := by decide)
    (hcd : (x == ("__classdict__" : Str)) = false := by decide) (hs : starEach (.Name x px :: es) X.env = (false, eval (.Name x px) X.env) :: starEach es X.env := by rfl) : PA3 X (.Name x px :: es) (uaB i w) := by
  obtain ⟨_, h2, r2⟩ := hr
  refine ⟨_, pa_cons (pe_var hN hv hd hcd) h2 hs, fun ρ k h R W B H σ Q e q => ?_⟩
  obtain ⟨hb, h⟩ := h
  obtain ⟨b, b1, b2⟩ := e.bagAt hb
  refine ⟨_, b1, ?_⟩
  refine r2 ρ _ h R W B H σ _ e fun as vs B2 H2 z2 e2 g2 s2 => ?_
  exact q _ _ B2 H2 z2 e2 g2 (.bag b1 hb s2)
theorem ArgsOk.toIn {B : Hp} {σ : St} {ρ : List Sl} {W : Addr → Prop} {R H : Hp} {W0 : Addr → Prop} (e : Ev K R W0 B H σ ρ) : ∀ {vs : List V} {as : List Arg}, ArgsOk K B σ ρ vs as → (∀ i b, Arg.bag i ∈ as → σ[i]? = some (some (.ref b)) → W b) → ArgsIn K W B vs (as.map Arg.sl)
  | _, _, .nil, _ => .nil
  | _, _, .val h r, hw => .val h (ArgsOk.toIn e r fun i b m => hw i b (List.mem_cons_of_mem _ m))
  | _, _, .bag h hb r, hw => by
    obtain ⟨b, b1, _⟩ := e.bagAt hb
    rw [h] at b1; cases b1
    exact .bag (hw _ b List.mem_cons_self h) (ArgsOk.toIn e r fun i c m => hw i c (List.mem_cons_of_mem _ m))
theorem ArgsOk.bagIn {B : Hp} {σ : St} {ρ : List Sl} : ∀ {vs : List V} {as : List Arg} {i : Nat}, ArgsOk K B σ ρ vs as → Arg.bag i ∈ as → ρ[i]? = some .bag
  | _, _, _, .nil, m => by simp at m
  | _, _, _, .val h r, m => by
    rcases List.mem_cons.mp m with m | m
    · cases m
    · exact r.bagIn m
  | _, _, _, .bag h hb r, m => by
    rcases List.mem_cons.mp m with m | m
    · cases m; exact hb
    · exact r.bagIn m
/-- the call as such: whatever comes back -/
theorem call_ok {R : Hp} {W : Addr → Prop} {B H : Hp} {σ : St} {ρ : List Sl} {vs : List V} {as : List Arg} {k : Sl → Prop} {Q : VK} {E : XK} (e : Ev K R W B H σ ρ) (ok : ArgsOk K B σ ρ vs as) (hs : sh as n = true) (hF : F (as.map Arg.sl) k)
    (q : ∀ r v B' H', k r → Ev K R W B' H' σ ρ → Grow R B B' → ResOk K H B' H' v r → Q v H') : Con K n F vs H Q E := by
  rw [sh, Bool.and_eq_true] at hs
  have h1 : as.length = n := Nat.eq_of_beq_eq_true hs.1
  have hW : ∀ a, (∃ i : Nat, Arg.bag i ∈ as ∧ σ[i]? = some (some (.ref a))) → ∃ i : Nat, σ[i]? = some (some (.ref a)) ∧ ρ[i]? = some .bag := fun a ⟨i, m, z⟩ => ⟨i, z, ok.bagIn m⟩
  refine ⟨fun a => ∃ i : Nat, Arg.bag i ∈ as ∧ σ[i]? = some (some (.ref a)), B, as.map Arg.sl, k, hF, by rw [List.length_map]; exact h1, hs.2, e.bh, fun a h => ?_, ok.toIn e fun i b m z => ⟨i, m, z⟩, fun r v B' H' hk ex => ?_⟩
  · obtain ⟨i, z1, z2⟩ := hW a h
    obtain ⟨b, b1, _, b3, b4⟩ := e.bagAt z2
    rw [z1] at b1; cases b1
    exact ⟨b3, b4⟩
  · obtain ⟨e2, g2⟩ := e.after hW ex.wd ex.g
    exact q r v B' H' hk e2 g2 ex.res
theorem e_call {x : Str} {ps : List Str} {j lv : Nat} (c : Cal X.prog X.w X.K X.mg X.base x ps j (Con X.K n F)) (hr : Room lv X.A) (hg : Gl X x) (ha : PA3 X (e :: es) w) (hjk : j ≤ lv := by decide)
    (hdb : (x == ("__debug__" : Str)) = false := by decide) (he : starEach (e :: es) X.env = (false, eval e X.env) :: starEach es X.env := by rfl) (hpl : (backTo pos (starEach es X.env)).any (·.1) = false := by rfl) :
    PE3 X (.Call (.Name x p) (e :: es) [] pos) (uCall n F w) := by
  obtain ⟨_, h1, r1⟩ := ha
  refine ⟨_, pe_cal c hr hg h1 hjk hdb he hpl, fun ρ k h R W B H σ Q e q => ?_⟩
  refine r1 ρ _ h R W B H σ _ e fun as vs B1 H1 z1 e1 g1 s1 => ?_
  rw [List.append_nil]
  refine call_ok e1 s1 z1.1 z1.2 fun r v B2 H2 hk e2 g2 res => ?_
  cases r with
  | no => exact hk.elim
  | bag => exact hk.elim
  | pin v d => exact hk.elim
  | val d => exact q d v B2 H2 hk e2 (g1.trans g2) res
  | new d => exact q d v B2 H2 hk e2 (g1.trans g2) (Rep.mono newL_sub res)
  | own ds =>
    obtain ⟨a, us, rfl, f1, f2, f3, f4⟩ := res
    obtain ⟨e3, g3⟩ := e2.freeze f3 (e1.toWd.fresh f1).1 f2 fun i m => absurd f1 (by
      have m1 : MutAt σ ρ i a := m
      exact (e1.mutOk m1).2)
    exact q _ _ _ _ hk e3 ((g1.trans g2).trans g3) (.lst upd_same (f4.mono g3.s))
theorem o_call {x : Str} {ps : List Str} {j lv : Nat} (c : Cal X.prog X.w X.K X.mg X.base x ps j (Con X.K n F)) (hr : Room lv X.A) (hg : Gl X x) (ha : PA3 X (e :: es) w) (hjk : j ≤ lv := by decide)
    (hdb : (x == ("__debug__" : Str)) = false := by decide) (he : starEach (e :: es) X.env = (false, eval e X.env) :: starEach es X.env := by rfl) (hpl : (backTo pos (starEach es X.env)).any (·.1) = false := by rfl) :
    PO3 X (.Call (.Name x p) (e :: es) [] pos) (uCallO n F w) := by
  obtain ⟨_, h1, r1⟩ := ha
  refine ⟨_, pe_cal c hr hg h1 hjk hdb he hpl, fun ρ k h R W B H σ Q e q => ?_⟩
  refine r1 ρ _ h R W B H σ _ e fun as vs B1 H1 z1 e1 g1 s1 => ?_
  rw [List.append_nil]
  refine call_ok e1 s1 z1.1 z1.2 fun r v B2 H2 hk e2 g2 res => ?_
  obtain ⟨ds, rfl, hk⟩ := hk
  obtain ⟨a, us, rfl, f1, f2, f3, f4⟩ := res
  exact q ds a us B2 H2 hk e2 (g1.trans g2) (e1.toWd.fresh f1).1 f2 f3 f4 fun i m => (e1.mutOk m).2 f1
end
/-! ### built-in functions -/
def lenD : D → Option Nat
  | .tup ds => some ds.length
  | .lst ds => some ds.length
  | .scr ns => some ns.length
  | _ => none
def uLen (u : UE) : UE := fun ρ k => u ρ fun x => ∃ n, lenD x = some n ∧ k (.int n)
def uAbs (u : UE) : UE := fun ρ k => u ρ fun x => ∃ i, x = .int i ∧ k (.int (if i < 0 then -i else i))
def uInt (u : UE) : UE := fun ρ k => u ρ fun x => (∃ i, x = .int i ∧ k (.int i)) ∨ ∃ c, x = .bl c ∧ k (.int (if c then 1 else 0))
def tyD : D → Option String
  | .int _ => some "int"
  | .bl _ => some "bool"
  | .tup _ => some "tuple"
  | .lst _ => some "list"
  | .non => some "NoneType"
  | .str _ => some "str"
  | _ => none
def uIsi (u : UE) (n : String) : UE := fun ρ k => u ρ fun x => ∃ t b, tyD x = some t ∧ (∀ K, PySem.W.kitOne K (.type t) (.type n) = some b) ∧ k (.bl b)
section
variable {K : PySem.W.Frag} {X : Cx} {e : Expr} {es : List Expr} {u : UE} {pos p : Pos} {n : Nat}
/-- a built-in function of one value -/
theorem refCB1 {te : TE} {r : List V → Hp → VK → Prop} {f : D → (D → Prop) → Prop} (ha : RefE K te u)
    (hr : ∀ (x : D) (k : D → Prop), f x k → ∀ (R : Hp) (W : Addr → Prop) (B H : Hp) (σ : St) (ρ : List Sl) (v : V) (Q : VK), Ev K R W B H σ ρ → Rep K B v x → (∀ d v B' H', k d → Ev K R W B' H' σ ρ → Grow R B B' → Rep K B' v d → Q v H') → r [v] H Q) :
    RefE K (tCB r (tCons te tNil)) (fun ρ k => u ρ fun x => f x k) := by
  intro ρ k h R W B H σ Q e q
  refine ha ρ _ h R W B H σ _ e fun x v B1 H1 h1 e1 g1 r1 => ?_
  exact hr x k h1 R W B1 H1 σ ρ v Q e1 r1 fun d u B3 H3 h3 e3 g3 r3 => q d u B3 H3 h3 e3 (g1.trans g3) r3
theorem e_len (ha : PE3 X e u) (hg : Gl X "len") (hm : X.mg "len" = none) (hs : starEach [e] X.env = (false, eval e X.env) :: starEach [] X.env := by rfl) : PE3 X (.Call (.Name "len" p) [e] [] pos) (uLen u) := by
  obtain ⟨_, h1, r1⟩ := ha
  refine ⟨_, pe_callB call_len_seq hg hm PySem.boot_len (pa_cons h1 pa_nil hs) (by decide) (by decide) hs, refCB1 (f := fun x k => ∃ n, lenD x = some n ∧ k (.int n)) r1 fun x k h R W B H σ ρ v Q e rx q => ?_⟩
  obtain ⟨n, hn, hk⟩ := h
  cases x <;> first | (cases hn; done) | skip
  · obtain ⟨a, vs, rfl, ha, r⟩ := rx.tupV
    cases hn
    rw [← r.length] at hk
    exact ⟨a, vs, rfl, .inr (SqT.of (e.bh _ _ ha)), q _ _ B H hk e (Grow.refl _ _) (.int _)⟩
  · obtain ⟨a, vs, rfl, ha, r⟩ := rx.lstV
    cases hn
    rw [← r.length] at hk
    exact ⟨a, vs, rfl, .inl (SqL.of (e.bh _ _ ha)), q _ _ B H hk e (Grow.refl _ _) (.int _)⟩
  · obtain ⟨a, rfl, ha⟩ := rx.scrV
    cases hn
    refine ⟨a, _, rfl, .inl (e.bh.seq ha), ?_⟩
    rw [List.length_map]
    exact q _ _ B H hk e (Grow.refl _ _) (.int _)
theorem e_abs (ha : PE3 X e u) (hg : Gl X "abs") (hm : X.mg "abs" = none) (hs : starEach [e] X.env = (false, eval e X.env) :: starEach [] X.env := by rfl) : PE3 X (.Call (.Name "abs" p) [e] [] pos) (uAbs u) := by
  obtain ⟨_, h1, r1⟩ := ha
  refine ⟨_, pe_callB call_abs hg hm (by decide +kernel) (pa_cons h1 pa_nil hs) (by decide) (by decide) hs, refCB1 (f := fun x k => ∃ i, x = .int i ∧ k (.int (if i < 0 then -i else i))) r1 fun x k h R W B H σ ρ v Q e rx q => ?_⟩
  obtain ⟨i, rfl, hk⟩ := h
  exact ⟨i, by rw [rx.intV], q _ _ B H hk e (Grow.refl _ _) (.int _)⟩
theorem e_toInt (ha : PE3 X e u) (hg : Gl X "int") (hm : X.mg "int" = none) (hs : starEach [e] X.env = (false, eval e X.env) :: starEach [] X.env := by rfl) : PE3 X (.Call (.Name "int" p) [e] [] pos) (uInt u) := by
  obtain ⟨_, h1, r1⟩ := ha
  refine ⟨_, pe_callTy call_int1 hg hm (by decide +kernel) (pa_cons h1 pa_nil hs) (by decide) (by decide) hs, refCB1 (f := fun x k => (∃ i, x = .int i ∧ k (.int i)) ∨ ∃ c, x = .bl c ∧ k (.int (if c then 1 else 0))) r1 fun x k h R W B H σ ρ v Q e rx q => ?_⟩
  rcases h with ⟨i, rfl, hk⟩ | ⟨c, rfl, hk⟩
  · exact .inl ⟨i, by rw [rx.intV], q _ _ B H hk e (Grow.refl _ _) (.int _)⟩
  · exact .inr ⟨c, by rw [rx.blV], q _ _ B H hk e (Grow.refl _ _) (.int _)⟩
theorem tyD_ok {B H : Hp} {v : V} {x : D} {t : String} (s : Same B H) (r : Rep K B v x) (h : tyD x = some t) : TyOf K H v (.type t) := by
  cases r <;> cases h
  · exact .non
  · exact .bl _
  · exact .int _
  · exact .str _
  · exact .tup (s _ _ (by assumption))
  · exact .lst (s _ _ (by assumption))
theorem e_isi {T : String} {y : Str} {pT : Pos} (ha : PE3 X e u) (hg : Gl X "isinstance") (hm : X.mg "isinstance" = none) (hT : PE X (.Name y pT) (tC (.ty T))) (hs : starEach [e, .Name y pT] X.env = (false, eval e X.env) :: starEach [.Name y pT] X.env)
    (hs2 : starEach [.Name y pT] X.env = (false, eval (.Name y pT) X.env) :: starEach [] X.env) (hpl : (backTo pos (starEach [.Name y pT] X.env)).any (·.1) = false) : PE3 X (.Call (.Name "isinstance" p) [e, .Name y pT] [] pos) (uIsi u T) := by
  obtain ⟨_, h1, r1⟩ := ha
  refine ⟨_, pe_callB call_isinst hg hm (by decide +kernel) (pa_cons h1 (pa_cons hT pa_nil hs2) hs) (by decide) (by decide) hs hpl, fun ρ k h R W B H σ Q e q => ?_⟩
  refine r1 ρ _ h R W B H σ _ e fun x v B1 H1 h1 e1 g1 s1 => ?_
  obtain ⟨t, b, ht, hk, z⟩ := h1
  exact ⟨v, _, T, b, rfl, tyD_ok e1.bh s1 ht, hk _, q _ _ B1 H1 z e1 g1 (.bl _)⟩
end
end L3

/-! Statements, loops, comprehensions, lists of one's own, over trees. -/
namespace L3
open PySem L2
open PySem.Builtin.Int (intBits)
section
variable {K : PySem.W.Frag} {X : Cx} {e : Expr} {es : List Expr} {u : UE} {w : UL} {pos p : Pos}
/-! ### plain statements -/
def uNext : US := fun U ρ => U.nx ρ
def uSeq (s t : US) : US := fun U ρ => s { U with nx := t U } ρ
def uBreak : US := fun U ρ => U.bk ρ
def uRet (u : UE) : US := fun U ρ => u ρ fun d => U.rt (.val d)
def uRetO (w : UL) : US := fun U ρ => w ρ fun ds => U.rt (.own ds)
def uSet (i : Nat) (u : UE) : US := fun U ρ => u ρ fun d => U.nx (ρ.set i (.val d))
def uSetO (i : Nat) (w : UL) : US := fun U ρ => w ρ fun ds => U.nx (ρ.set i (.own ds))
def uIf (c : UT) (s t : US) : US := fun U ρ => c ρ fun b => if b = true then s U ρ else t U ρ
/-- a list of one's own goes over to what stays -/
def uFz (i : Nat) (s : US) : US := fun U ρ => ∃ ds, ρ[i]? = some (.own ds) ∧ s U (ρ.set i (.val (.lst ds)))
theorem s_nil : PSs3 X [] uNext := ⟨_, pss_nil, fun U ρ h R W B H σ D e s => s.nx ρ σ B H h e (Grow.refl _ _)⟩
theorem s_one {st : Stmt} {s : US} (h : PS3 X st s) : PSs3 X [st] s := by
  obtain ⟨_, h1, r1⟩ := h
  exact ⟨_, pss_one h1, r1⟩
theorem s_cons {st : Stmt} {rest : List Stmt} {s t : US} (h : PS3 X st s) (h' : PSs3 X rest t) : PSs3 X (st :: rest) (uSeq s t) := by
  obtain ⟨_, h1, r1⟩ := h; obtain ⟨_, h2, r2⟩ := h'
  refine ⟨_, pss_cons h1 h2, fun U ρ h R W B H σ D e sm => ?_⟩
  exact r1 _ ρ h R W B H σ _ e ⟨fun ρ' σ' B' H' z e' g => r2 U ρ' z R W B' H' σ' D e' (sm.grow g), sm.bk, sm.ct, sm.rt⟩
theorem s_fz {st : List Stmt} {s : US} (i : Nat) (h : PSs3 X st s) : PSs3 X st (uFz i s) := by
  obtain ⟨_, h1, r1⟩ := h
  refine ⟨_, h1, fun U ρ h R W B H σ D e sm => ?_⟩
  obtain ⟨ds, ho, z⟩ := h
  obtain ⟨B', e', g⟩ := e.fz ho
  exact r1 U _ z R W B' H σ D e' (sm.grow g)
theorem s_break : PS3 X (.Break pos) uBreak := ⟨_, ps_break, fun U ρ h R W B H σ D e s => s.bk ρ σ B H h e (Grow.refl _ _)⟩
theorem s_never {st : Stmt} : PS3 X st (fun _ _ => False) := ⟨_, ps_never, fun U ρ h => h.elim⟩
theorem s_ret (h : PE3 X e u) : PS3 X (.Return (some e) pos) (uRet u) := by
  obtain ⟨_, h1, r1⟩ := h
  refine ⟨_, ps_ret h1, fun U ρ h R W B H σ D e s => ?_⟩
  exact r1 ρ _ h R W B H σ _ e fun d v B1 H1 z1 e1 g1 s1 => s.rt _ v B1 H1 z1 e1.toWd g1 s1
theorem s_retO (h : PO3 X e w) : PS3 X (.Return (some e) pos) (uRetO w) := by
  obtain ⟨_, h1, r1⟩ := h
  refine ⟨_, ps_ret h1, fun U ρ h R W B H σ D e s => ?_⟩
  exact r1 ρ _ h R W B H σ _ e fun ds a vs B1 H1 z1 e1 g1 f1 f2 f3 f4 f5 => s.rt (.own ds) _ B1 H1 z1 e1.toWd g1 ⟨a, vs, rfl, f1, f2, f3, f4⟩
theorem s_set {i : Nat} {x : Str} {pos' : Pos} (hN : X.N.Nodup) (hi : X.N[i]? = some x) (hx : Loc X.env.scope x) (he : PE3 X e u) (hs : swapsWith e (some (.Name x pos')) pos.line X.env = pure false := by rfl) (hf : X.fn x = true ∨ X.env.scope.names.lookup x = some .local := by first | exact .inl rfl | exact .inr rfl | assumption) :
    PS3 X (.Assign [.Name x pos'] e pos) (uSet i u) := by
  obtain ⟨_, h1, r1⟩ := he
  refine ⟨_, ps_set hN hi hx h1 hs hf, fun U ρ h R W B H σ D e s => ?_⟩
  exact r1 ρ _ h R W B H σ _ e fun d v B1 H1 z1 e1 g1 s1 => s.nx _ _ B1 H1 z1 (e1.setV i s1) g1
theorem s_setO {i : Nat} {x : Str} {pos' : Pos} (hN : X.N.Nodup) (hi : X.N[i]? = some x) (hx : Loc X.env.scope x) (he : PO3 X e w) (hs : swapsWith e (some (.Name x pos')) pos.line X.env = pure false := by rfl) (hf : X.fn x = true ∨ X.env.scope.names.lookup x = some .local := by first | exact .inl rfl | exact .inr rfl | assumption) :
    PS3 X (.Assign [.Name x pos'] e pos) (uSetO i w) := by
  obtain ⟨_, h1, r1⟩ := he
  refine ⟨_, ps_set hN hi hx h1 hs hf, fun U ρ h R W B H σ D e s => ?_⟩
  exact r1 ρ _ h R W B H σ _ e fun ds a vs B1 H1 z1 e1 g1 f1 f2 f3 f4 f5 => s.nx _ _ B1 H1 z1 (e1.setO i f1 f2 f3 f4 fun j _ => f5 j) g1
theorem s_if {c : Expr} {a b : List Stmt} {uc : UT} {s t : US} (hc : PT3 X c uc) (ha : PSs3 X a s) (hb : PSs3 X b t) : PS3 X (.If c a b pos) (uIf uc s t) := by
  obtain ⟨_, h0, r0⟩ := hc; obtain ⟨_, h1, r1⟩ := ha; obtain ⟨_, h2, r2⟩ := hb
  refine ⟨_, ps_if h0 h1 h2, fun U ρ h R W B H σ D e sm => ?_⟩
  refine r0 ρ _ h R W B H σ _ e fun c B1 H1 z1 e1 g1 => ?_
  cases c with
  | true =>
    rw [if_pos rfl] at z1 ⊢
    exact r1 U ρ z1 R W B1 H1 σ D e1 (sm.grow g1)
  | false =>
    rw [if_neg Bool.false_ne_true] at z1 ⊢
    exact r2 U ρ z1 R W B1 H1 σ D e1 (sm.grow g1)
/-! ### targets -/
def ugName (i : Nat) : UG := fun d ρ k => k (ρ.set i (.val d))
def ugNil : UGs := fun ds ρ k => ds = [] ∧ k ρ
def ugCons (g : UG) (gs : UGs) : UGs := fun ds ρ k => ∃ d r, ds = d :: r ∧ g d ρ fun ρ' => gs r ρ' k
def ugTup (n : Nat) (gs : UGs) : UG := fun d ρ k => ∃ ds, d = .tup ds ∧ ds.length = n ∧ gs ds ρ k
def uAsg (u : UE) (g : UG) : US := fun U ρ => u ρ fun d => g d ρ U.nx
theorem g_name {i : Nat} {x : Str} (hN : X.N.Nodup) (hi : X.N[i]? = some x) (hx : Loc X.env.scope x) (hf : X.fn x = true ∨ X.env.scope.names.lookup x = some .local := by first | exact .inl rfl | exact .inr rfl | assumption) : PG3 X (.Name x pos) (ugName i) :=
  ⟨_, pg_name hN hi hx hf, fun d ρ k h R W B H σ v Q e r q => q _ _ h (e.setV i r) fun j a m => by
    rcases mut_set m with ⟨_, _, z | ⟨_, z⟩⟩ | ⟨_, m⟩
    · cases z
    · cases z
    · exact m⟩
theorem gs_nil : PGs3 X [] ugNil := ⟨_, pgs_nil, fun ds ρ k h R W B H σ vs Q e r q => by
  obtain ⟨rfl, h⟩ := h
  cases r
  exact ⟨rfl, q _ _ h e fun _ _ m => m⟩⟩
theorem gs_cons {g : UG} {gs : UGs} (h1 : PG3 X e g) (h2 : PGs3 X es gs) (hs : (assignEach (e :: es) X.env).map (·.2) = assign e X.env :: (assignEach es X.env).map (·.2) := by rfl) : PGs3 X (e :: es) (ugCons g gs) := by
  obtain ⟨_, h1, r1⟩ := h1; obtain ⟨_, h2, r2⟩ := h2
  refine ⟨_, pgs_cons h1 h2 hs, fun ds ρ k h R W B H σ vs Q e r q => ?_⟩
  obtain ⟨d, rr, rfl, h⟩ := h
  cases r with
  | cons rv rs =>
    refine ⟨_, _, rfl, r1 d ρ _ h R W B H σ _ _ e rv fun ρ' σ' z e' mm => ?_⟩
    exact r2 rr ρ' k z R W B H σ' _ _ e' rs fun ρ'' σ'' z2 e2 m2 => q ρ'' σ'' z2 e2 fun j a m => mm j a (m2 j a m)
theorem g_tup {k0 : Nat} {gs : UGs} {n : Nat} (hc : X.calm = true) (h : PGs3 X es gs) (hn : (assignEach es X.env).length = n := by rfl) (hst : (assignEach es X.env).findIdx? (·.1) = none := by rfl) : PG3 X (.Tuple es k0 pos) (ugTup n gs) := by
  obtain ⟨_, h1, r1⟩ := h
  refine ⟨_, pg_tup hc h1 hn hst, fun d ρ k h R W B H σ v Q e r q => ?_⟩
  obtain ⟨ds, rfl, hl, h⟩ := h
  obtain ⟨a, vs, rfl, ha, rs⟩ := r.tupV
  exact ⟨a, vs, rfl, SqT.of (e.bh _ _ ha), by rw [rs.length]; exact hl, r1 ds ρ k h R W B H σ vs Q e rs q⟩
theorem s_asg {tg : Expr} {g : UG} (he : PE3 X e u) (hg : PG3 X tg g) (hs : swapsWithSole [tg] e pos.line X.env = pure false := by rfl) (hw : swappedStores [tg] e X.env = pure none := by rfl)
    (h1 : (assignEach [tg] X.env).map (·.2) = [assign tg X.env] := by rfl) : PS3 X (.Assign [tg] e pos) (uAsg u g) := by
  obtain ⟨_, ha, r1⟩ := he; obtain ⟨_, hb, r2⟩ := hg
  refine ⟨_, ps_asg ha hb hs hw h1, fun U ρ h R W B H σ D e s => ?_⟩
  refine r1 ρ _ h R W B H σ _ e fun d v B1 H1 z1 e1 g1 s1 => ?_
  exact r2 d ρ _ z1 R W B1 H1 σ v _ e1 s1 fun ρ' σ' z2 e2 _ => s.nx _ _ B1 H1 z2 e2 g1
def uPar (i j : Nat) (w : UL) : US := fun U ρ => w ρ fun ds => ∃ x y, ds = [x, y] ∧ U.nx ((ρ.set i (.val x)).set j (.val y))
theorem s_par {i j : Nat} {x y : Str} {a b : Expr} {px py pt : Pos} {kt k2 pt2} (hc : X.calm = true) (hN : X.N.Nodup) (hi : X.N[i]? = some x) (hj : X.N[j]? = some y) (hij : i ≠ j)
    (hx : X.env.scope.names.lookup x = some .local) (hy : X.env.scope.names.lookup y = some .local) (ha : PL3 X [a, b] w)
    (hw : swappedStores [.Tuple [.Name x px, .Name y py] kt pt] (.Tuple [a, b] k2 pt2) X.env = pure (some [x, y]))
    (hs : swapsWithSole [.Tuple [.Name x px, .Name y py] kt pt] (.Tuple [a, b] k2 pt2) pos.line X.env = pure false := by rfl) :
    PS3 X (.Assign [.Tuple [.Name x px, .Name y py] kt pt] (.Tuple [a, b] k2 pt2) pos) (uPar i j w) := by
  obtain ⟨_, h1, r1⟩ := ha
  refine ⟨_, ps_par hc hN hi hj hij hx hy h1 hw hs, fun U ρ h R W B H σ D e s => ?_⟩
  refine r1 ρ _ h R W B H σ _ e fun ds vs B1 H1 z1 e1 g1 s1 => ?_
  obtain ⟨x, y, rfl, z1⟩ := z1
  cases s1 with
  | cons ra rb => cases rb with
    | cons rb rc =>
      cases rc
      exact ⟨_, _, rfl, s.nx _ _ B1 H1 z1 ((e1.setV i ra).setV j rb) g1⟩
/-! ### while -/
def uWhile (c : UT) (s : US) : US := fun U ρ => ∃ M : Nat → List Sl → Prop, (∃ m, M m ρ) ∧ ∀ m ρ, M m ρ → c ρ fun b => if b = true then s { U with nx := fun ρ' => ∃ m', m' < m ∧ M m' ρ', ct := fun ρ' => ∃ m', m' < m ∧ M m' ρ', bk := U.nx } ρ else U.nx ρ
theorem s_while {c : Expr} {body : List Stmt} {uc : UT} {s : US} (hp : PassesOwn (model X.prog X.w) X.A X.env X.xe) (hc : PT3 X c uc) (hb : PSs3 X body s) : PS3 X (.While c body [] pos) (uWhile uc s) := by
  obtain ⟨_, h0, r0⟩ := hc; obtain ⟨_, h1, r1⟩ := hb
  refine ⟨_, ps_while hp h0 h1, fun U ρ h R W B H σ D e sm => ?_⟩
  obtain ⟨M, ⟨m0, hm⟩, turn⟩ := h
  refine ⟨fun m σ' H' => ∃ ρ' B', M m ρ' ∧ Ev X.K R W B' H' σ' ρ' ∧ Grow R B B', ⟨m0, ρ, B, hm, e, Grow.refl _ _⟩, ?_⟩
  rintro m σ1 H1 ⟨ρ1, B1, hm1, e1, g1⟩
  refine r0 ρ1 _ (turn m ρ1 hm1) R W B1 H1 σ1 _ e1 fun b B2 H2 z2 e2 g2 => ?_
  cases b with
  | true =>
    rw [if_pos rfl] at z2 ⊢
    refine ⟨fun σ' H' => ∃ ρ' B', (∃ m', m' < m ∧ M m' ρ') ∧ Ev X.K R W B' H' σ' ρ' ∧ Grow R B B', ?_, ?_⟩
    · rintro σ' H' ⟨ρ', B', ⟨m', l, q⟩, e', g'⟩
      exact ⟨m', l, ρ', B', q, e', g'⟩
    · have gg := g1.trans g2
      exact r1 _ ρ1 z2 R W B2 H2 σ1 _ e2 ⟨fun ρ' σ' B' H' z e' g => ⟨ρ', B', z, e', gg.trans g⟩, fun ρ' σ' B' H' z e' g => sm.nx ρ' σ' B' H' z e' (gg.trans g), fun ρ' σ' B' H' z e' g => ⟨ρ', B', z, e', gg.trans g⟩, fun r v B' H' z e' g q => sm.rt r v B' H' z e' (gg.trans g) q⟩
  | false =>
    rw [if_neg Bool.false_ne_true] at z2 ⊢
    exact sm.nx ρ1 σ1 B2 H2 z2 e2 (g1.trans g2)
/-! ### what is walked, and for -/
theorem ItOk.list {B : Hp} {a : Addr} {vs : List V} {ds : List D} (h : B a = some (.lst vs)) (r : Reps K B vs ds) : ItOk K B (Itl K a) ds := by
  intro H s i
  have hH := s _ _ h
  have q : SqL K H a vs := SqL.of hH
  refine ⟨fun hi => ?_, fun hi => ⟨vs, q, by rw [r.length]; exact hi⟩, fun x H' hi ⟨e1, e2⟩ => ⟨e1, ?_⟩⟩
  · obtain ⟨v, e, _⟩ := r.get (List.getElem?_eq_getElem hi)
    exact ⟨vs, v, q, e⟩
  · exact r.getV (e2 vs q)
theorem ItOk.tup {B : Hp} {a : Addr} {vs : List V} {ds : List D} (h : B a = some (.tup vs)) (r : Reps K B vs ds) : ItOk K B (Itt K a) ds := by
  intro H s i
  have hH := s _ _ h
  have q : SqT K H a vs := SqT.of hH
  refine ⟨fun hi => ?_, fun hi => ⟨vs, q, by rw [r.length]; exact hi⟩, fun x H' hi ⟨e1, e2⟩ => ⟨e1, ?_⟩⟩
  · obtain ⟨v, e, _⟩ := r.get (List.getElem?_eq_getElem hi)
    exact ⟨vs, v, q, e⟩
  · exact r.getV (e2 vs q)
theorem ItOk.rng {B : Hp} (n : Nat) : ItOk K B (Itr 0 n) ((List.range n).map fun i : Nat => D.int i) := by
  intro H s i
  rw [List.length_map, List.length_range]
  refine ⟨fun hi => hi, fun hi => hi, fun x H' hi ⟨e1, e2⟩ => ⟨e1, ?_⟩⟩
  refine ⟨.int i, ?_, ?_⟩
  · rw [List.getElem?_map, List.getElem?_range hi]; rfl
  · rw [e2, Int.zero_add]; exact .int _
def uiL (u : UE) : UL := fun ρ k => u ρ fun d => ∃ ds, d = .lst ds ∧ k ds
def uiT (u : UE) : UL := fun ρ k => u ρ fun d => ∃ ds, d = .tup ds ∧ k ds
def uiR (u : UE) : UL := fun ρ k => u ρ fun d => ∃ j, d = .int j ∧ -(2 ^ 62) ≤ j ∧ j < 2 ^ 62 ∧ k ((List.range j.toNat).map fun i : Nat => D.int i)
variable {tg : Expr}
theorem i_list {l : Expr} (hl : PE3 X l u) : PI3 X tg l (uiL u) := by
  obtain ⟨_, h1, r1⟩ := hl
  refine ⟨_, pi_list h1, fun ρ k h R W B H σ Q e q => ?_⟩
  refine r1 ρ _ h R W B H σ _ e fun d v B1 H1 z1 e1 g1 s1 => ?_
  obtain ⟨ds, rfl, z⟩ := z1
  obtain ⟨a, vs, rfl, ha, rs⟩ := s1.lstV
  exact ⟨a, rfl, ⟨vs, SqL.of (e1.bh _ _ ha)⟩, q ds _ B1 H1 z e1 g1 (ItOk.list ha rs)⟩
theorem i_tup {l : Expr} (hl : PE3 X l u) : PI3 X tg l (uiT u) := by
  obtain ⟨_, h1, r1⟩ := hl
  refine ⟨_, pi_tup h1, fun ρ k h R W B H σ Q e q => ?_⟩
  refine r1 ρ _ h R W B H σ _ e fun d v B1 H1 z1 e1 g1 s1 => ?_
  obtain ⟨ds, rfl, z⟩ := z1
  obtain ⟨a, vs, rfl, ha, rs⟩ := s1.tupV
  exact ⟨a, rfl, ⟨vs, SqT.of (e1.bh _ _ ha)⟩, q ds _ B1 H1 z e1 g1 (ItOk.tup ha rs)⟩
theorem i_rng {a : Expr} (ha : PE3 X a u) (hg : Gl X "range") (hm : X.mg "range" = none) (hs : starEach [a] X.env = [(false, eval a X.env)] := by rfl) : PI3 X tg (.Call (.Name "range" p) [a] [] pos) (uiR u) := by
  obtain ⟨_, h1, r1⟩ := ha
  refine ⟨_, pi_range1 hg hm (pa_cons h1 pa_nil (by exact hs)) hs, fun ρ k h R W B H σ Q e q => ?_⟩
  refine r1 ρ _ h R W B H σ _ e fun d v B1 H1 z1 e1 g1 s1 => ?_
  obtain ⟨j, rfl, j0, j1, z⟩ := z1
  exact ⟨j, by rw [s1.intV], j0, j1, q _ _ B1 H1 z e1 g1 (ItOk.rng _)⟩
/-- the turns, one behind another -/
def forR (g : UG) (s : US) (U : UEnds) : List D → List Sl → Prop
  | [], ρ => U.nx ρ
  | d :: ds, ρ => g d ρ fun ρ' => s { U with nx := forR g s U ds, ct := forR g s U ds, bk := U.nx } ρ'
def uFor (w : UL) (g : UG) (s : US) : US := fun U ρ => w ρ fun ds => forR g s U ds ρ
theorem s_for {iter : Expr} {body : List Stmt} {g : UG} {s : US} (hp : PassesOwn (model X.prog X.w) X.A X.env X.xe) (hc : X.calm = true) (hi : PI3 X tg iter w) (hg : PG3 X tg g) (hb : PSs3 X body s)
    (hs : ∀ x, foldedSetIterable iter X.env x = pure x := by intro _; rfl) : PS3 X (.For tg iter body [] pos) (uFor w g s) := by
  obtain ⟨_, h0, r0⟩ := hi; obtain ⟨_, h1, r1⟩ := hg; obtain ⟨_, h2, r2⟩ := hb
  refine ⟨_, ps_for hp hc h0 h1 h2 hs, fun U ρ h R W B H σ D e sm => ?_⟩
  refine r0 ρ _ h R W B H σ _ e fun ds J B1 H1 z1 e1 g1 it => ?_
  refine ⟨fun i m σ' H' => ∃ ρ' B', m = ds.length - i ∧ i ≤ ds.length ∧ forR g s U (ds.drop i) ρ' ∧ Ev X.K R W B' H' σ' ρ' ∧ Grow R B B' ∧ Same B1 B', ⟨ds.length, ρ, B1, by simp, Nat.zero_le _, z1, e1, g1, Same.refl _⟩, ?_⟩
  rintro i m σ1 H2 ⟨ρ1, B2, rfl, hi, z2, e2, g2, s2⟩
  obtain ⟨t1, t2, t3⟩ := it H2 (s2.trans e2.bh) i
  by_cases hlt : i < ds.length
  · refine .inr ⟨t1 hlt, fun σ' H' => ∃ ρ' B', forR g s U (ds.drop (i + 1)) ρ' ∧ Ev X.K R W B' H' σ' ρ' ∧ Grow R B B' ∧ Same B1 B', ?_, ?_⟩
    · rintro σ' H' ⟨ρ', B', z, e', g', s'⟩
      exact ⟨ds.length - (i + 1), by omega, ρ', B', rfl, hlt, z, e', g', s'⟩
    · intro x H' y
      obtain ⟨rfl, d, hd, rx⟩ := t3 x H' hlt y
      have ed : ds.drop i = d :: ds.drop (i + 1) := by
        rw [List.drop_eq_getElem_cons hlt]
        rw [List.getElem?_eq_getElem hlt] at hd
        rw [Option.some.inj hd]
      rw [ed] at z2
      refine r1 d ρ1 _ z2 R W B2 _ σ1 x _ e2 (rx.mono s2) fun ρ' σ' z' e' _ => ?_
      exact r2 _ ρ' z' R W B2 _ σ' _ e' ⟨fun ρ' σ' B' H' z e' g => ⟨ρ', B', z, e', g2.trans g, s2.trans g.s⟩, fun ρ' σ' B' H' z e' g => sm.nx ρ' σ' B' H' z e' (g2.trans g), fun ρ' σ' B' H' z e' g => ⟨ρ', B', z, e', g2.trans g, s2.trans g.s⟩, fun r v B' H' z e' g q => sm.rt r v B' H' z e' (g2.trans g) q⟩
  · have ei : i = ds.length := by omega
    subst ei
    rw [List.drop_length] at z2
    exact .inl ⟨t2 (Nat.le_refl _), sm.nx ρ1 σ1 B2 H2 z2 e2 g2⟩
end
end L3

/-! Lists over trees: slices, sums of lists, copies, append, items given, comprehensions, a new bag. -/
namespace L3
open PySem L2
open PySem.Builtin.Int (intBits)
section
variable {K : PySem.W.Frag} {X : Cx} {e : Expr} {es : List Expr} {u : UE} {w : UL} {pos p : Pos}
/-- a new list from values that are read -/
theorem Ev.newO {R : Hp} {W : Addr → Prop} {B H : Hp} {σ : St} {ρ : List Sl} (e : Ev K R W B H σ ρ) {q : Addr} (hq : H q = none) {vs : List V} {ds : List D} (r : Reps K B vs ds) :
    Ev K R W B (upd H q (.lst vs)) σ ρ ∧ R q = none ∧ B q = none ∧ (upd H q (.lst vs)) q = some (.lst vs) ∧ ∀ i, ¬ MutAt σ ρ i q := by
  obtain ⟨f1, f2, f3⟩ := e.toWd.fresh hq
  exact ⟨e.allocH hq _, f1, f3, upd_same, fun i m => e.notNew hq m rfl⟩
def cutL {α : Type} (xs : List α) (lo hi : Option Int) : List α := (xs.drop (HT.sIx xs.length 0 lo)).take (HT.sIx xs.length xs.length hi - HT.sIx xs.length 0 lo)
theorem Reps.cut {B : Hp} {vs : List V} {ds : List D} (r : Reps K B vs ds) (lo hi : Option Int) : Reps K B (cutL vs lo hi) (cutL ds lo hi) := by
  unfold cutL
  rw [r.length]
  exact (r.drop _).take _
/-- a slice's part -/
abbrev UP := List Sl → (Option Int → Prop) → Prop
def RefP (K : PySem.W.Frag) (t : TO) (u : UP) : Prop := ∀ (ρ : List Sl) (k : Option Int → Prop), u ρ k → ∀ (R : Hp) (W : Addr → Prop) (B H : Hp) (σ : St) (Q : Option Int → Hp → Prop), Ev K R W B H σ ρ →
  (∀ o B' H', k o → Ev K R W B' H' σ ρ → Grow R B B' → Q o H') → t σ H Q
def PP3 (X : Cx) (e : Option Expr) (u : UP) : Prop := ∃ t, PO X e t ∧ RefP X.K t u
def upN : UP := fun _ k => k none
def upS (u : UE) : UP := fun ρ k => u ρ fun d => ∃ i, d = .int i ∧ k (some i)
theorem p_none : PP3 X none upN := ⟨_, po_none, fun ρ k h R W B H σ Q e q => q none B H h e (Grow.refl _ _)⟩
theorem p_some (h : PE3 X e u) : PP3 X (some e) (upS u) := by
  obtain ⟨_, h1, r1⟩ := h
  refine ⟨_, po_some h1, fun ρ k h R W B H σ Q e q => ?_⟩
  refine r1 ρ _ h R W B H σ _ e fun d v B1 H1 z1 e1 g1 s1 => ?_
  obtain ⟨i, rfl, z⟩ := z1
  exact ⟨i, s1.intV, q _ B1 H1 z e1 g1⟩
/-- the items of a list that is read -/
def itemsD : D → Option (List D)
  | .lst ds => some ds
  | .scr ns => some (ns.map .int)
  | _ => none
theorem itemsD_ok {B H : Hp} {v : V} {x : D} {ds : List D} (s : Same B H) (r : Rep K B v x) (h : itemsD x = some ds) : ∃ a vs, v = .ref a ∧ SqL K H a vs ∧ Reps K B vs ds := by
  cases x <;> first | (cases h; done) | skip
  · obtain ⟨a, vs, rfl, ha, rs⟩ := r.lstV
    cases h
    exact ⟨a, vs, rfl, SqL.of (s _ _ ha), rs⟩
  · obtain ⟨a, rfl, ha⟩ := r.scrV
    cases h
    exact ⟨a, _, rfl, s.seq ha, Reps.ints _⟩
def uSl (u : UE) (l h : UP) : UL := fun ρ k => u ρ fun x => l ρ fun lo => h ρ fun hi => ∃ ds, itemsD x = some ds ∧ k (cutL ds lo hi)
theorem o_slice {lo hi : Option Expr} {ul uh : UP} {p2 : Pos} (he : PE3 X e u) (hl : PP3 X lo ul) (hh : PP3 X hi uh) : PO3 X (.Subscript e (.Slice lo hi none p2) pos) (uSl u ul uh) := by
  obtain ⟨_, h1, r1⟩ := he; obtain ⟨_, h2, r2⟩ := hl; obtain ⟨_, h3, r3⟩ := hh
  refine ⟨_, pe_slice sl_list h1 h2 h3, fun ρ k h R W B H σ Q e q => ?_⟩
  refine r1 ρ _ h R W B H σ _ e fun d v B1 H1 z1 e1 g1 s1 => ?_
  refine r2 ρ _ z1 R W B1 H1 σ _ e1 fun lo B2 H2 z2 e2 g2 => ?_
  refine r3 ρ _ z2 R W B2 H2 σ _ e2 fun hi B3 H3 z3 e3 g3 => ?_
  obtain ⟨ds, hd, z⟩ := z3
  obtain ⟨a, vs, rfl, ha, rs⟩ := itemsD_ok e3.bh (s1.mono (g2.trans g3).s) hd
  refine ⟨a, vs, rfl, ha, fun p hp => ?_⟩
  obtain ⟨f1, f2, f3, f4, f5⟩ := e3.newO hp (rs.cut lo hi)
  exact q _ p _ B3 _ z f1 ((g1.trans g2).trans g3) f2 f3 f4 (rs.cut lo hi) f5
def uCat (u v : UE) : UL := fun ρ k => u ρ fun x => v ρ fun y => ∃ ds es, x = .lst ds ∧ y = .lst es ∧ ds.length + es.length ≤ sizeLine ∧ k (ds ++ es)
theorem o_cat {a b : Expr} {ua ub : UE} (ha : PE3 X a ua) (hb : PE3 X b ub) : PO3 X (.BinOp a .Add b pos) (uCat ua ub) := by
  obtain ⟨_, h1, r1⟩ := ha; obtain ⟨_, h2, r2⟩ := hb
  refine ⟨_, pe_op op_cat h1 h2, fun ρ k h R W B H σ Q e q => ?_⟩
  refine r1 ρ _ h R W B H σ _ e fun d v B1 H1 z1 e1 g1 s1 => ?_
  refine r2 ρ _ z1 R W B1 H1 σ _ e1 fun d' v' B2 H2 z2 e2 g2 s2 => ?_
  obtain ⟨ds, es, rfl, rfl, hl, z⟩ := z2
  obtain ⟨a, vs, rfl, ha, rs⟩ := (s1.mono g2.s).lstV
  obtain ⟨b, ws, rfl, hb, rt⟩ := s2.lstV
  refine ⟨a, b, vs, ws, rfl, rfl, e2.bh _ _ ha, e2.bh _ _ hb, by rw [rs.length, rt.length]; exact hl, fun p hp => ?_⟩
  obtain ⟨f1, f2, f3, f4, f5⟩ := e2.newO hp (rs.append rt)
  exact q _ p _ B2 _ z f1 (g1.trans g2) f2 f3 f4 (rs.append rt) f5
def uCopy (u : UE) : UL := fun ρ k => u ρ fun x => ∃ ds, (x = .lst ds ∨ x = .tup ds) ∧ k ds
theorem o_copy (ha : PE3 X e u) (hg : Gl X "list") (hm : X.mg "list" = none) (hs : starEach [e] X.env = (false, eval e X.env) :: starEach [] X.env := by rfl) : PO3 X (.Call (.Name "list" p) [e] [] pos) (uCopy u) := by
  obtain ⟨_, h1, r1⟩ := ha
  refine ⟨_, pe_callTy call_list_of hg hm (by decide +kernel) (pa_cons h1 pa_nil hs) (by decide) (by decide) hs, fun ρ k h R W B H σ Q e q => ?_⟩
  refine r1 ρ _ h R W B H σ _ e fun d v B1 H1 z1 e1 g1 s1 => ?_
  obtain ⟨ds, hd, z⟩ := z1
  rcases hd with rfl | rfl
  · obtain ⟨a, vs, rfl, ha, rs⟩ := s1.lstV
    refine ⟨a, vs, rfl, .inl (SqL.of (e1.bh _ _ ha)), fun p hp => ?_⟩
    obtain ⟨f1, f2, f3, f4, f5⟩ := e1.newO hp rs
    exact q _ p _ B1 _ z f1 g1 f2 f3 f4 rs f5
  · obtain ⟨a, vs, rfl, ha, rs⟩ := s1.tupV
    refine ⟨a, vs, rfl, .inr (SqT.of (e1.bh _ _ ha)), fun p hp => ?_⟩
    obtain ⟨f1, f2, f3, f4, f5⟩ := e1.newO hp rs
    exact q _ p _ B1 _ z f1 g1 f2 f3 f4 rs f5
/-! ### append, items given -/
def uApp (i : Nat) (u : UE) : US := fun U ρ => ∃ ds, ρ[i]? = some (.own ds) ∧ u ρ fun d => ds.length < sizeLine ∧ U.nx (ρ.set i (.own (ds ++ [d])))
theorem s_app (i : Nat) {x : Str} {px apos cpos : Pos} (he : PE3 X e u) (hN : X.N[i]? = some x := by rfl) (hv : Vis X.env.scope x := by first | exact Or.inl rfl | exact Or.inr (Or.inl rfl) | exact Or.inr (Or.inr rfl)) (hd : (x == ("__debug__" : Str)) = false := by decide)
    (hcd : (x == ("__classdict__" : Str)) = false := by decide) (hbase : attributeBase (.Name x px) "append" X.env (eval (.Name x px) X.env) = eval (.Name x px) X.env := by rfl)
    (hfew : ((backTo cpos (starEach [e] X.env)).all (fun x => !x.1) && (backToKw cpos (keywordEach [] X.env)).all (fun x => x.1.isSome)
      && decide ([e].length + ([] : List Keyword).length + (if ([] : List Keyword).isEmpty then 0 else 1) < 30)) = true := by rfl)
    (hline : (apos.endLine == cpos.line) = true := by rfl) (hs : starEach [e] X.env = (false, eval e X.env) :: starEach [] X.env := by rfl) (hplain : (backTo cpos (starEach ([] : List Expr) X.env)).any (·.1) = false := by rfl)
    (hsw : swapsWith (.Call (.Attribute (.Name x px) "append" apos) [e] [] cpos) none pos.line X.env = pure false := by rfl) : PS3 X (.Expr (.Call (.Attribute (.Name x px) "append" apos) [e] [] cpos) pos) (uApp i u) := by
  obtain ⟨_, h1, r1⟩ := he
  refine ⟨_, ps_expr (pe_bm PySem.F.plainAttrs_list PySem.F.slot_list_append PySem.F.type_list_append mt_append (pe_var hN hv hd hcd) (pa_cons h1 pa_nil hs) hbase hfew hline hs hplain) hsw, fun U ρ h R W B H σ D e s => ?_⟩
  obtain ⟨ds, ho, h⟩ := h
  obtain ⟨a, vs, e1, e2, e3, e4, e5⟩ := e.ownAt ho
  refine ⟨_, e1, .inl ⟨rfl, vs, SqL.of e4⟩, ?_⟩
  refine r1 ρ _ h R W B H σ _ e fun d v B1 H1 z1 f1 g1 s1 => ?_
  obtain ⟨a', vs', k1, k2, k3, k4, k5⟩ := f1.ownAt ho
  rw [e1] at k1; cases k1
  exact ⟨a, vs', v, rfl, rfl, k4, by rw [k5.length]; exact z1.1, s.nx _ _ B1 _ z1.2 (f1.write e1 ho (k5.append (.cons s1 .nil))) g1⟩
/-! ### comprehensions -/
def frS (ρ : List Sl) (j : Nat) : Sl := match ρ[j]? with
  | some (.val d) => .val d
  | some .bag => .bag
  | _ => .no
theorem Ev.scribble {R : Hp} {W : Addr → Prop} {B H : Hp} {σ : St} {ρ : List Sl} (e : Ev K R W B H σ ρ) {a : Addr} (hr : R a = none) (hb : B a = none) (hm : ∀ i, ¬ MutAt σ ρ i a) (o : HO) : Ev K R W B (upd H a o) σ ρ := by
  have nw : ¬ W a := fun z => e.wr a z hr
  refine e.move ⟨fun b q h z => ?_, fun b q h => ?_, e.wb, fun b z => (e.wh b z).upd (by rintro rfl; exact nw z), e.wr⟩ (Same.refl _) fun i b m => ?_
  · rw [upd_ne (by rintro rfl; rw [hr] at h; cases h)]; exact e.fr b q h z
  · rw [upd_ne (by rintro rfl; rw [hb] at h; cases h)]; exact e.bh b q h
  · have n : b ≠ a := by rintro rfl; exact hm i m
    refine ⟨(e.mutOk m).1, fun z => ?_, fun _ => upd_ne n⟩
    obtain ⟨c, c1, _, _, c4⟩ := e.bagAt z
    rw [m.1] at c1; cases c1
    exact c4.upd n
theorem freeV_get {σ : St} {js : List Nat} {i : Nat} {o : Option V} (h : (freeV σ js)[i]? = some o) : ∃ j, js[i]? = some j ∧ o = (σ[j]?).join := by
  unfold freeV at h
  rw [List.getElem?_map] at h
  cases q : js[i]? with
  | none => rw [q] at h; cases h
  | some j => rw [q] at h; exact ⟨j, rfl, (Option.some.inj h).symm⟩
/-! ### a new bag -/
def RefN (K : PySem.W.Frag) (t : TE) (u : List Sl → Prop → Prop) : Prop := ∀ (ρ : List Sl) (k : Prop), u ρ k → ∀ (R : Hp) (W : Addr → Prop) (B H : Hp) (σ : St) (Q : VK), Ev K R W B H σ ρ →
  (∀ a B' H', k → Ev K R W B' H' σ ρ → Grow R B B' → R a = none → B' a = none → Bag H' a → (∀ i, ¬ MutAt σ ρ i a) → Q (.ref a) H') → t σ H Q
def PN3 (X : Cx) (e : Expr) (u : List Sl → Prop → Prop) : Prop := ∃ t, PE X e t ∧ RefN X.K t u
def uCallN (n : Nat) (F : FS) (w : UA) : List Sl → Prop → Prop := fun ρ k => w ρ fun as => sh as n = true ∧ F (as.map Arg.sl) fun r => r = .bag ∧ k
theorem n_call {n : Nat} {F : FS} {w : UA} {x : Str} {ps : List Str} {j lv : Nat} (c : Cal X.prog X.w X.K X.mg X.base x ps j (Con X.K n F)) (hr : Room lv X.A) (hg : Gl X x) (ha : PA3 X (e :: es) w) (hjk : j ≤ lv := by decide)
    (hdb : (x == ("__debug__" : Str)) = false := by decide) (he : starEach (e :: es) X.env = (false, eval e X.env) :: starEach es X.env := by rfl) (hpl : (backTo pos (starEach es X.env)).any (·.1) = false := by rfl) :
    PN3 X (.Call (.Name x p) (e :: es) [] pos) (uCallN n F w) := by
  obtain ⟨_, h1, r1⟩ := ha
  refine ⟨_, pe_cal c hr hg h1 hjk hdb he hpl, fun ρ k h R W B H σ Q e q => ?_⟩
  refine r1 ρ _ h R W B H σ _ e fun as vs B1 H1 z1 e1 g1 s1 => ?_
  rw [List.append_nil]
  refine call_ok e1 s1 z1.1 z1.2 fun r v B2 H2 hk e2 g2 res => ?_
  obtain ⟨rfl, hk⟩ := hk
  obtain ⟨a, rfl, f1, f2, f3⟩ := res
  exact q a B2 H2 hk e2 (g1.trans g2) (e1.toWd.fresh f1).1 f2 f3 fun i m => (e1.mutOk m).2 f1
def uSetN (i : Nat) (u : List Sl → Prop → Prop) : US := fun U ρ => u ρ (U.nx (ρ.set i .bag))
theorem s_setN {i : Nat} {x : Str} {pos' : Pos} {u : List Sl → Prop → Prop} (hN : X.N.Nodup) (hi : X.N[i]? = some x) (hx : Loc X.env.scope x) (he : PN3 X e u) (hs : swapsWith e (some (.Name x pos')) pos.line X.env = pure false := by rfl) (hf : X.fn x = true ∨ X.env.scope.names.lookup x = some .local := by first | exact .inl rfl | exact .inr rfl | assumption) :
    PS3 X (.Assign [.Name x pos'] e pos) (uSetN i u) := by
  obtain ⟨_, h1, r1⟩ := he
  refine ⟨_, ps_set hN hi hx h1 hs hf, fun U ρ h R W B H σ D e s => ?_⟩
  refine r1 ρ _ h R W B H σ _ e fun a B1 H1 z1 e1 g1 f1 f2 f3 f4 => s.nx _ _ B1 H1 z1 (e1.set i ⟨a, rfl, .inr f1, f2, f3⟩ fun b z _ j _ => ?_) g1
  cases z
  exact f4 j
end
end L3

/-! Equality of trees of one shape; in, not in. -/
namespace L3
open PySem L2
inductive Sh where
  | I | B | N | S | T (ss : List Sh) | L (s : Sh)
mutual
def has : Sh → D → Bool
  | .I, .int _ => true
  | .B, .bl _ => true
  | .N, .non => true
  | .S, .str _ => true
  | .T ss, .tup xs => hass ss xs
  | .L s, .lst xs => xs.all fun x => has s x
  | _, _ => false
def hass : List Sh → List D → Bool
  | [], [] => true
  | s :: ss, x :: xs => has s x && hass ss xs
  | _, _ => false
end
mutual
def dep : Sh → Nat
  | .T ss => deps ss + 1
  | .L s => dep s + 1
  | _ => 0
def deps : List Sh → Nat
  | [] => 0
  | s :: ss => max (dep s) (deps ss)
end
noncomputable def eqD (x y : D) : Bool := @decide (x = y) (Classical.propDecidable _)
theorem eqD_iff {x y : D} : eqD x y = true ↔ x = y := by unfold eqD; exact @decide_eq_true_iff _ (Classical.propDecidable _)
theorem eqD_self (x : D) : eqD x x = true := eqD_iff.mpr rfl
theorem eqD_of {x y : D} {b : Bool} (h : b = true ↔ x = y) : eqD x y = b := by
  rw [Bool.eq_iff_iff, eqD_iff, h]
section
variable {K : PySem.W.Frag} {B : Hp}
theorem has_int {x : D} (h : has .I x = true) : ∃ i, x = .int i := by cases x <;> first | exact ⟨_, rfl⟩ | (simp [has] at h)
theorem has_bl {x : D} (h : has .B x = true) : ∃ i, x = .bl i := by cases x <;> first | exact ⟨_, rfl⟩ | (simp [has] at h)
theorem has_non {x : D} (h : has .N x = true) : x = .non := by cases x <;> first | rfl | (simp [has] at h)
theorem has_str {x : D} (h : has .S x = true) : ∃ i, x = .str i := by cases x <;> first | exact ⟨_, rfl⟩ | (simp [has] at h)
theorem has_tup {x : D} {ss : List Sh} (h : has (.T ss) x = true) : ∃ xs, x = .tup xs ∧ hass ss xs = true := by
  cases x <;> first | exact ⟨_, rfl, by simpa [has] using h⟩ | (simp [has] at h)
theorem has_lst {x : D} {s : Sh} (h : has (.L s) x = true) : ∃ xs, x = .lst xs ∧ ∀ y ∈ xs, has s y = true := by
  cases x <;> first | exact ⟨_, rfl, by simpa [has] using h⟩ | (simp [has] at h)
theorem hass_len : ∀ {ss : List Sh} {xs : List D}, hass ss xs = true → xs.length = ss.length
  | [], [], _ => rfl
  | [], _ :: _, h => by simp [hass] at h
  | _ :: _, [], h => by simp [hass] at h
  | s :: ss, x :: xs, h => by
    simp [hass] at h
    simp [hass_len h.2]
mutual
theorem rep_fn : ∀ (sh : Sh) {x y : D} {v : V}, has sh x = true → has sh y = true → Rep K B v x → Rep K B v y → x = y
  | .I, x, y, v, h1, h2, r1, r2 => by
    obtain ⟨i, rfl⟩ := has_int h1; obtain ⟨j, rfl⟩ := has_int h2
    have e := r1.intV.symm.trans r2.intV
    cases e; rfl
  | .B, x, y, v, h1, h2, r1, r2 => by
    obtain ⟨i, rfl⟩ := has_bl h1; obtain ⟨j, rfl⟩ := has_bl h2
    have e := r1.blV.symm.trans r2.blV
    cases e; rfl
  | .N, x, y, v, h1, h2, r1, r2 => by rw [has_non h1, has_non h2]
  | .S, x, y, v, h1, h2, r1, r2 => by
    obtain ⟨i, rfl⟩ := has_str h1; obtain ⟨j, rfl⟩ := has_str h2
    cases r1; cases r2; rfl
  | .T ss, x, y, v, h1, h2, r1, r2 => by
    obtain ⟨xs, rfl, q1⟩ := has_tup h1; obtain ⟨ys, rfl, q2⟩ := has_tup h2
    obtain ⟨a, vs, rfl, ha, ra⟩ := r1.tupV
    obtain ⟨b, ws, e, hb, rb⟩ := r2.tupV
    cases e
    rw [ha] at hb; cases hb
    rw [reps_fn ss q1 q2 ra rb]
  | .L s, x, y, v, h1, h2, r1, r2 => by
    obtain ⟨xs, rfl, q1⟩ := has_lst h1; obtain ⟨ys, rfl, q2⟩ := has_lst h2
    obtain ⟨a, vs, rfl, ha, ra⟩ := r1.lstV
    obtain ⟨b, ws, e, hb, rb⟩ := r2.lstV
    cases e
    rw [ha] at hb; cases hb
    have : xs = ys := by
      apply List.ext_getElem?
      intro i
      cases qx : xs[i]? with
      | none =>
        have : ys[i]? = none := by
          have h1 := ra.length
          have h2 := rb.length
          have h3 := List.getElem?_eq_none_iff.mp qx
          exact List.getElem?_eq_none_iff.mpr (by omega)
        rw [this]
      | some d =>
        obtain ⟨v, ev, rv⟩ := ra.get qx
        obtain ⟨d', ed, rd⟩ := rb.getV ev
        rw [ed, rep_fn s (q1 d (List.mem_of_getElem? qx)) (q2 d' (List.mem_of_getElem? ed)) rv rd]
    rw [this]
theorem reps_fn : ∀ (ss : List Sh) {xs ys : List D} {vs : List V}, hass ss xs = true → hass ss ys = true → Reps K B vs xs → Reps K B vs ys → xs = ys
  | [], xs, ys, vs, h1, h2, r1, r2 => by
    have e1 := hass_len h1; have e2 := hass_len h2
    rw [List.length_nil] at e1 e2
    rw [List.eq_nil_of_length_eq_zero e1, List.eq_nil_of_length_eq_zero e2]
  | s :: ss, [], ys, vs, h1, h2, r1, r2 => by simp [hass] at h1
  | s :: ss, x :: xs, [], vs, h1, h2, r1, r2 => by simp [hass] at h2
  | s :: ss, x :: xs, y :: ys, vs, h1, h2, r1, r2 => by
    simp [hass] at h1 h2
    cases r1 with
    | cons a1 b1 => cases r2 with
      | cons a2 b2 => rw [rep_fn s h1.1 h2.1 a1 a2, reps_fn ss h1.2 h2.2 b1 b2]
end
end
section
variable {X : Cx} {pins : List (Addr × Obj)} {σ : St} {H B : Hp} {s : Shared}
theorem all_eqD {xs ys : List D} {n : Nat} {e : Nat → Bool} (hn : n = xs.length) (hl : xs.length = ys.length) (he : ∀ j, j < n → (e j = true ↔ xs[j]? = ys[j]?)) : ((List.range n).all e) = true ↔ xs = ys := by
  rw [List.all_eq_true]
  constructor
  · intro h
    apply List.ext_getElem?
    intro i
    by_cases hi : i < n
    · exact (he i hi).mp (h i (List.mem_range.mpr hi))
    · rw [List.getElem?_eq_none (by omega), List.getElem?_eq_none (by omega)]
  · rintro rfl j hj
    exact (he j (List.mem_range.mp hj)).mpr rfl
noncomputable def eqO (xs ys : List D) (j : Nat) : Bool := @decide (xs[j]? = ys[j]?) (Classical.propDecidable _)
theorem eqO_iff {xs ys : List D} {j : Nat} : eqO xs ys j = true ↔ xs[j]? = ys[j]? := by unfold eqO; exact @decide_eq_true_iff _ (Classical.propDecidable _)
theorem eqO_at {xs ys : List D} {j : Nat} {x y : D} (h1 : xs[j]? = some x) (h2 : ys[j]? = some y) : eqO xs ys j = eqD x y := by
  rw [Bool.eq_iff_iff, eqO_iff, eqD_iff, h1, h2]
  constructor
  · intro h; exact Option.some.inj h
  · intro h; rw [h]
structure EqAll (A : Around) (s : Shared) (u w : Value) (x y : D) : Prop where
  rc : SeqAt.RcAt A s u w (eqD x y)
  ne : SeqAt.RcNeAt A s u w (!eqD x y)
  eq : SeqAt.EqAt A s u w (eqD x y)
mutual
theorem eq_sh (I : Inv X pins σ H s) (sB : Same B H) : ∀ (sh : Sh) {A : Around} {x y : D} {v w : V} {u u' : Value}, has sh x = true → has sh y = true → Rep X.K B v x → Rep X.K B w y → RelV v u → RelV w u' → A.units + dep sh < cLine → EqAll A s u u' x y
  | .I, A, x, y, v, w, u, u', h1, h2, r1, r2, l1, l2, hu => by
    obtain ⟨i, rfl⟩ := has_int h1; obtain ⟨j, rfl⟩ := has_int h2
    cases r1.intV; cases r2.intV
    obtain ⟨t, rfl⟩ := l1; obtain ⟨t', rfl⟩ := l2
    have e : eqD (.int i) (.int j) = (i == j) := eqD_of (by simp)
    refine ⟨?_, ?_, ?_⟩ <;> rw [e]
    · exact SeqAt.RcAt.int_int i t j t'
    · exact SeqAt.RcNeAt.int_int i t j t'
    · exact SeqAt.EqAt.int_int i t j t'
  | .B, A, x, y, v, w, u, u', h1, h2, r1, r2, l1, l2, hu => by
    obtain ⟨i, rfl⟩ := has_bl h1; obtain ⟨j, rfl⟩ := has_bl h2
    cases r1.blV; cases r2.blV
    cases l1; cases l2
    have e : eqD (.bl i) (.bl j) = (i == j) := eqD_of (by simp)
    refine ⟨?_, ?_, ?_⟩ <;> rw [e]
    · exact SeqAt.RcAt.bool_bool i j
    · exact SeqAt.RcNeAt.bool_bool i j
    · exact SeqAt.EqAt.bool_bool i j
  | .N, A, x, y, v, w, u, u', h1, h2, r1, r2, l1, l2, hu => by
    cases has_non h1; cases has_non h2
    cases r1.nonV; cases r2.nonV
    cases l1; cases l2
    have e : eqD .non .non = true := eqD_self _
    refine ⟨?_, ?_, ?_⟩ <;> rw [e]
    · exact SeqAt.RcAt.none_none
    · exact SeqAt.RcNeAt.none_none
    · exact SeqAt.EqAt.same _
  | .S, A, x, y, v, w, u, u', h1, h2, r1, r2, l1, l2, hu => by
    obtain ⟨i, rfl⟩ := has_str h1; obtain ⟨j, rfl⟩ := has_str h2
    cases r1; cases r2
    obtain ⟨t, rfl⟩ := l1; obtain ⟨t', rfl⟩ := l2
    have e : eqD (.str i) (.str j) = (i == j) := eqD_of (by simp)
    refine ⟨?_, ?_, ?_⟩ <;> rw [e]
    · exact SeqAt.RcAt.str_str i t j t'
    · exact SeqAt.RcNeAt.str_str i t j t'
    · exact SeqAt.EqAt.str_str i t j t'
  | .T ss, A, x, y, v, w, u, u', h1, h2, r1, r2, l1, l2, hu => by
    have r1' := r1
    have r2' := r2
    obtain ⟨xs, rfl, q1⟩ := has_tup h1; obtain ⟨ys, rfl, q2⟩ := has_tup h2
    obtain ⟨a, vs, rfl, ha, ra⟩ := r1.tupV
    obtain ⟨b, ws, rfl, hb, rb⟩ := r2.tupV
    cases l1; cases l2
    obtain ⟨its, k1, t1, _⟩ := I.tuple (SqT.of (sB _ _ ha))
    obtain ⟨its2, k2, t2, _⟩ := I.tuple (SqT.of (sB _ _ hb))
    have d1 : dep (.T ss) = deps ss + 1 := by simp [dep]
    have lx := hass_len q1
    have ly := hass_len q2
    have z1 := ra.length; have z2 := rb.length; have z3 := k1.length; have z4 := k2.length
    have el := eqs_sh I sB ss (A := A.in1) q1 q2 ra rb k1 k2 (by show A.units + 1 + deps ss < cLine; omega)
    have he : ∀ j (h1 : j < its.toArray.size) (h2 : j < its2.toArray.size), SeqAt.EqAt A.in1 s its.toArray[j] its2.toArray[j] (eqO xs ys j) := fun j g1 g2 => by
      have := el j (by simpa using g1) (by simpa using g2)
      simpa using this
    have e : eqD (.tup xs) (.tup ys) = ((List.range (min its.toArray.size its2.toArray.size)).all (eqO xs ys) && its.toArray.size == its2.toArray.size) := by
      refine eqD_of ?_
      have s1 : its.toArray.size = xs.length := by simp; omega
      have s2 : its2.toArray.size = xs.length := by simp; omega
      rw [s1, s2, Nat.min_self, Bool.and_eq_true]
      have := all_eqD (xs := xs) (ys := ys) (n := xs.length) (e := eqO xs ys) rfl (by omega) (fun j _ => eqO_iff)
      constructor
      · intro h; rw [this.mp h.1]
      · intro h; cases h; exact ⟨this.mpr rfl, by simp⟩
    have rc : SeqAt.RcAt A s (.ref a) (.ref b) (eqD (.tup xs) (.tup ys)) := by rw [e]; exact SeqAt.RcAt.tuples t1 t2 (by omega) he
    refine ⟨rc, by rw [e]; exact SeqAt.RcNeAt.tuples t1 t2 (by omega) he, ?_⟩
    by_cases hab : a = b
    · subst hab
      have := rep_fn (.T ss) h1 h2 r1' r2'
      rw [this, eqD_self]
      exact SeqAt.EqAt.same _
    · exact SeqAt.EqAt.of_refs hab rc
  | .L sh, A, x, y, v, w, u, u', h1, h2, r1, r2, l1, l2, hu => by
    have r1' := r1
    have r2' := r2
    obtain ⟨xs, rfl, q1⟩ := has_lst h1; obtain ⟨ys, rfl, q2⟩ := has_lst h2
    obtain ⟨a, vs, rfl, ha, ra⟩ := r1.lstV
    obtain ⟨b, ws, rfl, hb, rb⟩ := r2.lstV
    cases l1; cases l2
    obtain ⟨its, k1, p1, _⟩ := I.list (SqL.of (sB _ _ ha))
    obtain ⟨its2, k2, p2, _⟩ := I.list (SqL.of (sB _ _ hb))
    have t1 := p1.isList
    have t2 := p2.isList
    have d1 : dep (.L sh) = dep sh + 1 := by simp [dep]
    have z1 := ra.length; have z2 := rb.length; have z3 := k1.length; have z4 := k2.length
    have he : ∀ j (h1 : j < its.toArray.size) (h2 : j < its2.toArray.size), SeqAt.EqAt A.in1 s its.toArray[j] its2.toArray[j] (eqO xs ys j) := fun j g1 g2 => by
      have g1' : j < its.length := by simpa using g1
      have g2' : j < its2.length := by simpa using g2
      obtain ⟨v1, e1, rv1⟩ := k1.getR (List.getElem?_eq_getElem g1')
      obtain ⟨v2, e2, rv2⟩ := k2.getR (List.getElem?_eq_getElem g2')
      obtain ⟨c1, f1, rd1⟩ := ra.getV e1
      obtain ⟨c2, f2, rd2⟩ := rb.getV e2
      rw [eqO_at f1 f2]
      have := (eq_sh I sB sh (A := A.in1) (q1 c1 (List.mem_of_getElem? f1)) (q2 c2 (List.mem_of_getElem? f2)) rd1 rd2 rv1 rv2 (by show A.units + 1 + dep sh < cLine; omega)).eq
      simpa using this
    by_cases hsz : its.toArray.size = its2.toArray.size
    · have s1 : its.toArray.size = xs.length := by simp; omega
      have s2 : xs.length = ys.length := by simp at hsz; omega
      have e : eqD (.lst xs) (.lst ys) = (List.range its.toArray.size).all (eqO xs ys) := by
        refine eqD_of ?_
        rw [all_eqD (xs := xs) (ys := ys) s1 s2 (fun j _ => eqO_iff)]
        constructor
        · intro h; rw [h]
        · intro h; cases h; rfl
      have rc : SeqAt.RcAt A s (.ref a) (.ref b) (eqD (.lst xs) (.lst ys)) := by rw [e]; exact SeqAt.RcAt.lists t1 t2 hsz (by omega) he
      refine ⟨rc, by rw [e]; exact SeqAt.RcNeAt.lists t1 t2 hsz (by omega) he, ?_⟩
      by_cases hab : a = b
      · subst hab
        have := rep_fn (.L sh) h1 h2 r1' r2'
        rw [this, eqD_self]
        exact SeqAt.EqAt.same _
      · exact SeqAt.EqAt.of_refs hab rc
    · have e : eqD (.lst xs) (.lst ys) = false := eqD_of (by
        constructor
        · intro h; cases h
        · intro h; cases h; simp at hsz; omega)
      have hne : (its.toArray.size != its2.toArray.size) = true := by simpa using hsz
      have rc : SeqAt.RcAt A s (.ref a) (.ref b) (eqD (.lst xs) (.lst ys)) := by rw [e]; exact SeqAt.RcAt.lists_lengths t1 t2 hne (by omega)
      refine ⟨rc, by rw [e]; exact SeqAt.RcNeAt.lists_lengths t1 t2 hne (by omega), ?_⟩
      refine SeqAt.EqAt.of_refs (fun hab => ?_) rc
      subst hab
      have := rep_fn (.L sh) h1 h2 r1' r2'
      cases this
      simp at hsz; omega
theorem eqs_sh (I : Inv X pins σ H s) (sB : Same B H) : ∀ (ss : List Sh) {A : Around} {xs ys : List D} {vs ws : List V} {us us' : List Value}, hass ss xs = true → hass ss ys = true → Reps X.K B vs xs → Reps X.K B ws ys → Vals vs us → Vals ws us' → A.units + deps ss < cLine →
    ∀ j (h1 : j < us.length) (h2 : j < us'.length), SeqAt.EqAt A s us[j] us'[j] (eqO xs ys j)
  | [], A, [], ys, _, _, _, _, h1, h2, .nil, r2, .nil, l2, hu, j, g1, g2 => absurd g1 (by simp)
  | [], A, x :: xs, ys, _, _, _, _, h1, h2, r1, r2, l1, l2, hu, j, g1, g2 => by simp [hass] at h1
  | s :: ss, A, [], ys, vs, ws, us, us', h1, h2, r1, r2, l1, l2, hu, j, g1, g2 => by simp [hass] at h1
  | s :: ss, A, x :: xs, [], vs, ws, us, us', h1, h2, r1, r2, l1, l2, hu, j, g1, g2 => by simp [hass] at h2
  | s :: ss, A, x :: xs, y :: ys, v :: vs, w :: ws, u :: us, u' :: us', h1, h2, .cons a1 b1, .cons a2 b2, .cons c1 d1, .cons c2 d2, hu, 0, g1, g2 => by
    have h1' : has s x = true := by simp [hass] at h1; exact h1.1
    have h2' : has s y = true := by simp [hass] at h2; exact h2.1
    have dd : deps (s :: ss) = max (dep s) (deps ss) := by simp [deps]
    have := (eq_sh I sB s (A := A) h1' h2' a1 a2 c1 c2 (by omega)).eq
    rw [eqO_at (xs := x :: xs) (ys := y :: ys) (j := 0) rfl rfl]
    exact this
  | s :: ss, A, x :: xs, y :: ys, v :: vs, w :: ws, u :: us, u' :: us', h1, h2, .cons a1 b1, .cons a2 b2, .cons c1 d1, .cons c2 d2, hu, j + 1, g1, g2 => by
    have h1' : hass ss xs = true := by simp [hass] at h1; exact h1.2
    have h2' : hass ss ys = true := by simp [hass] at h2; exact h2.2
    have dd : deps (s :: ss) = max (dep s) (deps ss) := by simp [deps]
    have := eqs_sh I sB ss (A := A) h1' h2' b1 b2 d1 d2 (by omega) j (by simpa using g1) (by simpa using g2)
    have e : eqO (x :: xs) (y :: ys) (j + 1) = eqO xs ys j := by
      rw [Bool.eq_iff_iff, eqO_iff, eqO_iff]; simp
    rw [e]
    exact this
end
/-- == and != of trees of one shape -/
def rEqD (K : PySem.W.Frag) (ng : Bool) : R2 := fun x y H Q => ∃ B d e sh, Rep K B x d ∧ Rep K B y e ∧ Same B H ∧ has sh d = true ∧ has sh e = true ∧ dep sh ≤ 50 ∧ Q (.bl (if ng then !eqD d e else eqD d e)) H
theorem op_eqD (hu : X.A.units + 64 < cLine) : OpR X (compareOp .Eq) (rEqD X.K false) := by
  intro pins s σ H x y v u Q I rx ry h
  obtain ⟨B, d, e, sh, r1, r2, sB, h1, h2, hd, q⟩ := h
  exact (eq_sh I sB sh (A := X.A) h1 h2 r1 r2 rx ry (by omega)).rc _ _ _ _ ⟨.bl _, H, I, rfl, q⟩
theorem op_neD (hu : X.A.units + 64 < cLine) : OpR X (compareOp .NotEq) (rEqD X.K true) := by
  intro pins s σ H x y v u Q I rx ry h
  obtain ⟨B, d, e, sh, r1, r2, sB, h1, h2, hd, q⟩ := h
  exact (eq_sh I sB sh (A := X.A) h1 h2 r1 r2 rx ry (by omega)).ne _ _ _ _ ⟨.bl _, H, I, rfl, q⟩
/-- in and not in a list (or tuple) of trees of one shape -/
def rInD (K : PySem.W.Frag) (ng : Bool) : R2 := fun x y H Q => ∃ B d es sh, Rep K B x d ∧ (Rep K B y (.lst es) ∨ Rep K B y (.tup es)) ∧ Same B H ∧ has sh d = true ∧ (∀ e ∈ es, has sh e = true) ∧ dep sh ≤ 50 ∧ ∀ b : Bool, (b = true ↔ d ∈ es) → Q (.bl (if ng then !b else b)) H
noncomputable def inE (K : PySem.W.Frag) (B : Hp) (sh : Sh) (d : D) (u : Value) : Bool := @decide (∃ v, RelV v u ∧ Rep K B v d) (Classical.propDecidable _)
theorem inE_iff {K : PySem.W.Frag} {sh : Sh} {d : D} {u : Value} : inE K B sh d u = true ↔ ∃ v, RelV v u ∧ Rep K B v d := by unfold inE; exact @decide_eq_true_iff _ (Classical.propDecidable _)
theorem relV_fn {v w : V} {u : Value} (h1 : RelV v u) (h2 : RelV w u) : v = w := by
  cases v <;> cases w <;> simp only [RelV] at h1 h2 <;> first
    | rfl
    | (obtain ⟨t, rfl⟩ := h1; obtain ⟨t', e⟩ := h2; cases e; rfl)
    | (obtain ⟨t, rfl⟩ := h1; obtain ⟨t', e⟩ := h2; cases e; done)
    | (obtain ⟨t, rfl⟩ := h1; cases h2; done)
    | (obtain ⟨t, rfl⟩ := h2; cases h1; done)
    | (subst h1; cases h2; rfl)
    | (subst h1; cases h2; done)
theorem in_any {K : PySem.W.Frag} {sh : Sh} {d : D} {vs : List V} {es : List D} {its : List Value} (h1 : has sh d = true) (h2 : ∀ e ∈ es, has sh e = true) (r : Reps K B vs es) (l : Vals vs its) : its.toArray.any (inE K B sh d) = true ↔ d ∈ es := by
  rw [show its.toArray.any (inE K B sh d) = its.any (inE K B sh d) by simp, List.any_eq_true]
  constructor
  · rintro ⟨u, hu, z⟩
    obtain ⟨v, lv, rv⟩ := inE_iff.mp z
    obtain ⟨j, hj⟩ := List.getElem?_of_mem hu
    obtain ⟨w, ew, lw⟩ := l.getR hj
    cases relV_fn lv lw
    obtain ⟨e, ee, re⟩ := r.getV ew
    have me := List.mem_of_getElem? ee
    rw [rep_fn sh h1 (h2 e me) rv re]
    exact me
  · intro m
    obtain ⟨j, hj⟩ := List.getElem?_of_mem m
    obtain ⟨v, ev, rv⟩ := r.get hj
    obtain ⟨u, eu, lu⟩ := l.get ev
    exact ⟨u, List.mem_of_getElem? eu, inE_iff.mpr ⟨v, lu, rv⟩⟩
theorem in_each (I : Inv X pins σ H s) (sB : Same B H) {A : Around} {sh : Sh} {d : D} {vs : List V} {es : List D} {its : List Value} {x : V} {v : Value} (h1 : has sh d = true) (h2 : ∀ e ∈ es, has sh e = true) (rx : Rep X.K B x d) (lx : RelV x v) (r : Reps X.K B vs es) (l : Vals vs its)
    (hu : A.units + dep sh < cLine) : ∀ y, y ∈ its.toArray → SeqAt.EqAt A s y v (inE X.K B sh d y) := fun y hy => by
  obtain ⟨j, hj⟩ := List.getElem?_of_mem (show y ∈ its by simpa using hy)
  obtain ⟨w, ew, lw⟩ := l.getR hj
  obtain ⟨e, ee, re⟩ := r.getV ew
  have he := h2 e (List.mem_of_getElem? ee)
  have q := (eq_sh I sB sh (A := A) he h1 re rx lw lx hu).eq
  have z : eqD e d = inE X.K B sh d y := eqD_of (by
    rw [inE_iff]
    constructor
    · rintro ⟨v', l', r'⟩
      cases relV_fn l' lw
      exact rep_fn sh he h1 re r'
    · rintro rfl
      exact ⟨w, lw, re⟩)
  rw [← z]
  exact q
theorem op_inD (hu : X.A.units + 64 < cLine) : OpR X (compareOp .In) (rInD X.K false) := by
  intro pins s σ H x y v u Q I rx ry h
  obtain ⟨B, d, es, sh, r1, r2, sB, h1, h2, hd, q⟩ := h
  rcases r2 with r2 | r2
  · obtain ⟨a, vs, rfl, ha, rs⟩ := r2.lstV
    cases ry
    obtain ⟨its, k1, p1, _⟩ := I.list (SqL.of (sB _ _ ha))
    exact SeqAt.in_listAt (inE X.K B sh d) p1.isList (in_each I sB (A := X.A.in1) h1 h2 r1 rx rs k1 (by show X.A.units + 1 + _ < cLine; omega)) ⟨.bl _, H, I, rfl, q _ (in_any h1 h2 rs k1)⟩
  · obtain ⟨a, vs, rfl, ha, rs⟩ := r2.tupV
    cases ry
    obtain ⟨its, k1, p1, _⟩ := I.tuple (SqT.of (sB _ _ ha))
    exact SeqAt.in_tupleAt (inE X.K B sh d) p1 (in_each I sB (A := X.A.in1) h1 h2 r1 rx rs k1 (by show X.A.units + 1 + _ < cLine; omega)) ⟨.bl _, H, I, rfl, q _ (in_any h1 h2 rs k1)⟩
theorem op_notInD (hu : X.A.units + 64 < cLine) : OpR X (compareOp .NotIn) (rInD X.K true) := by
  intro pins s σ H x y v u Q I rx ry h
  obtain ⟨B, d, es, sh, r1, r2, sB, h1, h2, hd, q⟩ := h
  rcases r2 with r2 | r2
  · obtain ⟨a, vs, rfl, ha, rs⟩ := r2.lstV
    cases ry
    obtain ⟨its, k1, p1, _⟩ := I.list (SqL.of (sB _ _ ha))
    exact SeqAt.notIn_listAt (inE X.K B sh d) p1.isList (in_each I sB (A := X.A.in1) h1 h2 r1 rx rs k1 (by show X.A.units + 1 + _ < cLine; omega)) ⟨.bl _, H, I, rfl, q _ (in_any h1 h2 rs k1)⟩
  · obtain ⟨a, vs, rfl, ha, rs⟩ := r2.tupV
    cases ry
    obtain ⟨its, k1, p1, _⟩ := I.tuple (SqT.of (sB _ _ ha))
    exact SeqAt.notIn_tupleAt (inE X.K B sh d) p1 (in_each I sB (A := X.A.in1) h1 h2 r1 rx rs k1 (by show X.A.units + 1 + _ < cLine; omega)) ⟨.bl _, H, I, rfl, q _ (in_any h1 h2 rs k1)⟩
end
section
variable {K : PySem.W.Frag} {X : Cx} {a b : Expr} {ua ub : UE} {pos : Pos}
/-- x == y, x != y; the truth by a bool that is told by x = y -/
def uEq (ng : Bool) (ua ub : UE) : UE := fun ρ k => ua ρ fun x => ub ρ fun y => ∃ sh, has sh x = true ∧ has sh y = true ∧ dep sh ≤ 50 ∧ k (.bl (if ng then !eqD x y else eqD x y))
def uIn (ng : Bool) (ua ub : UE) : UE := fun ρ k => ua ρ fun x => ub ρ fun y => ∃ sh es, (y = .lst es ∨ y = .tup es) ∧ has sh x = true ∧ (∀ e ∈ es, has sh e = true) ∧ dep sh ≤ 50 ∧ ∀ b : Bool, (b = true ↔ x ∈ es) → k (.bl (if ng then !b else b))
theorem refEq {ta tb : TE} {ng : Bool} (ha : RefE K ta ua) (hb : RefE K tb ub) : RefE K (tOp (rEqD K ng) ta tb) (uEq ng ua ub) :=
  ref2 ha hb fun x y k h R W B H σ ρ v w Q e rx ry q => by
    obtain ⟨sh, h1, h2, hd, hk⟩ := h
    exact ⟨B, x, y, sh, rx, ry, e.bh, h1, h2, hd, q _ _ B H hk e (Grow.refl _ _) (.bl _)⟩
theorem refIn {ta tb : TE} {ng : Bool} (ha : RefE K ta ua) (hb : RefE K tb ub) : RefE K (tOp (rInD K ng) ta tb) (uIn ng ua ub) :=
  ref2 ha hb fun x y k h R W B H σ ρ v w Q e rx ry q => by
    obtain ⟨sh, es, hy, h1, h2, hd, hk⟩ := h
    refine ⟨B, x, es, sh, rx, ?_, e.bh, h1, h2, hd, fun b hb => q _ _ B H (hk b hb) e (Grow.refl _ _) (.bl _)⟩
    rcases hy with rfl | rfl
    · exact .inl ry
    · exact .inr ry
theorem e_eq (hu : X.A.units + 64 < cLine) (ha : PE3 X a ua) (hb : PE3 X b ub) (hm : behindInMarks .Eq b = false) : PE3 X (.Compare a [.Eq] [b] pos) (uEq false ua ub) := by
  obtain ⟨_, h1, r1⟩ := ha; obtain ⟨_, h2, r2⟩ := hb
  exact ⟨_, pe_cmpR (op_eqD hu) h1 h2 hm, refEq r1 r2⟩
theorem t_ne (hu : X.A.units + 64 < cLine) (ha : PE3 X a ua) (hb : PE3 X b ub) (hm : behindInMarks .NotEq b = false) : PT3 X (.Compare a [.NotEq] [b] pos) (uB (uEq true ua ub)) := by
  obtain ⟨_, h1, r1⟩ := ha; obtain ⟨_, h2, r2⟩ := hb
  exact ⟨_, pt_cmpR (op_neD hu) h1 h2 hm, refB (refEq r1 r2)⟩
theorem t_in (hu : X.A.units + 64 < cLine) (ha : PE3 X a ua) (hb : PE3 X b ub) (hm : behindInMarks .In b = false) : PT3 X (.Compare a [.In] [b] pos) (uB (uIn false ua ub)) := by
  obtain ⟨_, h1, r1⟩ := ha; obtain ⟨_, h2, r2⟩ := hb
  exact ⟨_, pt_cmpR (op_inD hu) h1 h2 hm, refB (refIn r1 r2)⟩
theorem t_notIn (hu : X.A.units + 64 < cLine) (ha : PE3 X a ua) (hb : PE3 X b ub) (hm : behindInMarks .NotIn b = false) : PT3 X (.Compare a [.NotIn] [b] pos) (uB (uIn true ua ub)) := by
  obtain ⟨_, h1, r1⟩ := ha; obtain ⟨_, h2, r2⟩ := hb
  exact ⟨_, pt_cmpR (op_notInD hu) h1 h2 hm, refB (refIn r1 r2)⟩
end
end L3

/-! From the hand layer's promises to promises over trees: script, bag, draws, the law itself. -/
namespace L3
open PySem L2
open PySem.Builtin.Int (intBits)
theorem law_def3 {K : PySem.W.Frag} {P : Program} {w : World} {mg : Str → Option Value} {base : Heap} {x qual : Str} {st : Stmt} {f : Addr} {fd : FuncData} {N ps : List Str} {lv n : Nat} {F : FS} (Fd : Fun K x qual st f fd) (S : FnScope N ps (defScope st)) (hn : ps.length = n)
    (hbody : ∀ (cdv : Value) (A : Around) (outer : List PySem.Env) (s : Shared) (H : Hp) (E : XK), Room lv (A.deeper (PyProof.Rows.envOfC qual (defScope st) s.heap.objs.size f cdv)) →
      ∃ u, PSs3 (cxOf CX0 P w K mg base N qual (defScope st) f cdv A outer s H E).nox (defBody st) u ∧ ∀ as k, as.length = n → F as k → u { nx := fun _ => k (.val .non), rt := k } (as ++ List.replicate (N.length - n) .no)) : FnOk P w K mg base CX0 (lv + 1) f fd ps (Con K n F) := by
  refine Fd.ok S (fun vs H Q E h => ?_) (fun cdv A outer s H vs Q E hr h => ?_)
  · obtain ⟨W, B, as, k, _, hl, _, _, _, ai, _⟩ := h
    rw [ai.length, hl, hn]
  · obtain ⟨W, B, as, k, hF, hl, hb, sB, hw, ai, q⟩ := h
    obtain ⟨u, ⟨t, ht, rt⟩, hu⟩ := hbody cdv A outer s H E hr
    have ev := Ev.start (N := N) (Nat.le_of_ble_eq_true hb) sB hw ai
    rw [hl] at ev
    refine ⟨t, ht, rt _ _ (hu as k hl hF) H W B H (L2.start N vs) _ ev ⟨fun ρ σ B' H' h e g => ?_, fun _ _ _ _ h => h.elim, fun _ _ _ _ h => h.elim, fun r v B' H' h e g z => q r v B' H' h ⟨e, g, z⟩⟩⟩
    exact q _ _ B' H' h ⟨e.toWd, g, .non⟩
def spLaw (K : PySem.W.Frag) : Sp := fun vs H Q _ => ∃ (a : Addr) (ns : List Int), vs = [.ref a] ∧ SqL K H a (ns.map V.int) ∧ ns.length ≤ 63 ∧ ∀ H', Q (.bl true) H'
def F_law : FS := fun as k => ∃ ns : List Int, as = [.val (.scr ns)] ∧ ns.length ≤ 63 ∧ k (.val (.bl true))
theorem law_con {K : PySem.W.Frag} {vs : List V} {H : Hp} {Q : VK} {E : XK} (h : spLaw K vs H Q E) : Con K 1 F_law vs H Q E := by
  obtain ⟨a, ns, rfl, hS, hl, q⟩ := h
  refine ⟨fun _ => False, H, [.val (.scr ns)], fun r => r = .val (.bl true), ⟨ns, rfl, hl, rfl⟩, rfl, rfl, Same.refl _, fun _ z => z.elim, .val (.scr hS) .nil, fun r v B' H' hr ex => ?_⟩
  subst hr
  have := ex.res
  rw [Rep.blV this]
  exact q H'
def spCell (K : PySem.W.Frag) : Sp := fun vs H Q _ => ∃ (a : Addr) (k : Int) (ns : List Int), vs = [.ref a, .int k] ∧ SqL K H a (ns.map V.int) ∧ 0 ≤ k ∧ ∀ z, Q (.int z) H
def F_cell : FS := fun as k => ∃ (ns : List Int) (i : Int), as = [.val (.scr ns), .val (.int i)] ∧ 0 ≤ i ∧ ∀ z : Int, k (.val (.int z))
theorem Wd.entry {H B : Hp} {W : Addr → Prop} (sB : Same B H) (hw : ∀ a, W a → B a = none ∧ Bag H a) : Wd H W B H :=
  ⟨fun _ _ h _ => h, sB, fun a h => (hw a h).1, fun a h => (hw a h).2, fun a h => by obtain ⟨x, y, q, _⟩ := (hw a h).2; rw [q]; simp⟩
theorem cell_con {K : PySem.W.Frag} {vs : List V} {H : Hp} {Q : VK} {E : XK} (h : Con K 2 F_cell vs H Q E) : spCell K vs H Q E := by
  obtain ⟨W, B, as, k, ⟨ns, i, rfl, hi, hk⟩, hl, hb, sB, hw, ai, q⟩ := h
  cases ai with
  | val r1 ai => cases ai with
    | val r2 ai =>
      cases ai
      obtain ⟨a, rfl, ha⟩ := r1.scrV
      cases r2.intV
      exact ⟨a, i, ns, rfl, sB.seq ha, hi, fun z => q _ _ B H (hk z) ⟨Wd.entry sB hw, Grow.refl _ _, .int z⟩⟩
def spBag : Sp := fun vs H Q _ => ∃ c : Int, vs = [.int c] ∧ ∀ (b : Addr) (x y : Int), H b = none → 0 ≤ x → 0 ≤ y → y < 2147483647 → Q (.ref b) (upd H b (.lst [.int x, .int y]))
def F_bag : FS := fun as k => ∃ c : Int, as = [.val (.int c)] ∧ k .bag
theorem bag_con {K : PySem.W.Frag} {vs : List V} {H : Hp} {Q : VK} {E : XK} (h : Con K 1 F_bag vs H Q E) : spBag vs H Q E := by
  obtain ⟨W, B, as, k, ⟨c, rfl, hk⟩, hl, hb, sB, hw, ai, q⟩ := h
  cases ai with
  | val r1 ai =>
    cases ai
    cases r1.intV
    refine ⟨c, rfl, fun b x y hn x0 y0 y1 => ?_⟩
    have wd := Wd.entry sB hw
    exact q .bag _ B _ hk ⟨wd.allocH hn _, Grow.refl _ _, b, rfl, hn, (wd.fresh hn).2.2, x, y, upd_same, x0, y0, y1⟩
/-- a draw below m, whatever the bag gives -/
def spDraw (lim : Nat) : Sp := fun vs H Q _ => ∃ (b : Addr) (m : Int), vs = [.ref b, .int m] ∧ Bag H b ∧ 0 < m ∧ intBits m ≤ lim ∧ ∀ (r : Int) (H' : Hp), Ext b H H' → Bag H' b → 0 ≤ r → r < m → Q (.int r) H'
def F_draw (lim : Nat) : FS := fun as k => ∃ m : Int, as = [.bag, .val (.int m)] ∧ 0 < m ∧ intBits m ≤ lim ∧ ∀ r : Int, 0 ≤ r → r < m → k (.val (.int r))
theorem draw_con {K : PySem.W.Frag} {lim : Nat} {vs : List V} {H : Hp} {Q : VK} {E : XK} (h : Con K 2 (F_draw lim) vs H Q E) : spDraw lim vs H Q E := by
  obtain ⟨W, B, as, k, ⟨m, rfl, m0, mb, hk⟩, hl, hb, sB, hw, ai, q⟩ := h
  cases ai with
  | bag hW ai => cases ai with
    | val r2 ai =>
      cases ai
      cases r2.intV
      rename_i b
      refine ⟨b, m, rfl, (hw b hW).2, m0, mb, fun r H' ex bg r0 r1 => ?_⟩
      have wd := Wd.entry sB hw
      refine q _ _ B H' (hk r r0 r1) ⟨⟨fun a o h1 h2 => ex a o (by rintro rfl; exact h2 hW) h1, fun a o h1 => ex a o (by rintro rfl; rw [(hw _ hW).1] at h1; cases h1) (sB a o h1), wd.wb, fun a z => ?_, wd.wr⟩, Grow.refl _ _, .int r⟩
      by_cases e : a = b
      · subst e; exact bg
      · obtain ⟨x, y, h1, h2⟩ := (hw a z).2
        exact ⟨x, y, ex a _ e h1, h2⟩
/-! ### steps of a reading -/
theorem iteT3 {c : Bool} {A B : Prop} (h : c = true) (a : A) : if c = true then A else B := by rw [if_pos h]; exact a
theorem iteF3 {c : Bool} {A B : Prop} (h : c = false) (b : B) : if c = true then A else B := by rw [h, if_neg Bool.false_ne_true]; exact b
theorem neIf {x y : D} {A B : Prop} (h1 : x ≠ y → A) (h2 : x = y → B) : if (!eqD x y) = true then A else B := by
  by_cases h : x = y
  · rw [eqD_iff.mpr h]; exact h2 h
  · have : eqD x y = false := by
      cases q : eqD x y with
      | false => rfl
      | true => exact absurd (eqD_iff.mp q) h
    rw [this]; exact h1 h
theorem at3 {u : US} {U : UEnds} {ρ r : List Sl} (e : ρ = r) (h : u U r) : u U ρ := by rw [e]; exact h
theorem pass4 {s t : US} {U : UEnds} {ρ : List Sl} (first : ∀ N : List Sl → Prop, N ρ → s { U with nx := N } ρ) (rest : t U ρ) : uSeq s t U ρ := first (t U) rest
theorem mid4 {s t : US} {U : UEnds} {ρ : List Sl} (I : List Sl → Prop) (rest : ∀ ρ', I ρ' → t U ρ') (first : ∀ N : List Sl → Prop, (∀ ρ', I ρ' → N ρ') → s { U with nx := N } ρ) : uSeq s t U ρ := first _ rest
end L3

/-! A list of one's own read where it stands: in, ==, isinstance; its items walked. -/
namespace L3
open PySem L2
section
variable {K : PySem.W.Frag} {X : Cx} {a b e : Expr} {ua ub u : UE} {pos p : Pos}
end
/-! ### the free names of a comprehension -/
section
variable {X : Cx}
theorem fsub_of {cl cs : List (Str × Addr)} (h : ∀ p ∈ cl, cs.lookup p.1 = some p.2) : ∀ y c, cl.lookup y = some c → cs.lookup y = some c := fun y c e => h (y, c) (PySem.mem_of_lookup e)
theorem fhas_b {names : List (Str × NameKind)} {cl : List (Str × Addr)} (h : (names.all fun p => !(p.2 == .cell || p.2 == .free) || (cl.lookup p.1).isSome) = true) : ∀ y, (names.lookup y = some .cell ∨ names.lookup y = some .free) → ∃ c, cl.lookup y = some c := fun y e => by
  have key : ∀ k : NameKind, (k == .cell || k == .free) = true → names.lookup y = some k → ∃ c, cl.lookup y = some c := fun k hk e => by
    have q := List.all_eq_true.mp h (y, k) (PySem.mem_of_lookup e)
    have q : (!(k == .cell || k == .free) || (cl.lookup y).isSome) = true := q
    rw [hk] at q
    exact Option.isSome_iff_exists.mp (by simpa using q)
  rcases e with e | e
  · exact key _ rfl e
  · exact key _ rfl e
end
end L3

/-! A comprehension of one clause, any target, perhaps a test, its value used at once or given to a name. -/
namespace L2
open PySem PySem.Spec PyProof.Rows
/-- the tests of a clause -/
def PIfs (X : Cx) (ifs : List Expr) (tt : TT) : Prop := ∀ (pins : List (Addr × Obj)) (s : Shared) (σ : St) (H : Hp) (Q : Bool → Hp → Prop), Inv X pins σ H s → tt σ H Q →
  wpAny (model X.prog X.w) X.A (forIn ifs true fun t r => if r = true then do let z ← isTrue t X.env (eval t X.env); pure (ForInStep.yield z) else pure (ForInStep.yield r)) (TP X pins σ Q) X.xe s
def tTrue : TT := fun _ H Q => Q true H
theorem pifs_nil {X : Cx} : PIfs X [] tTrue := fun _ _ _ H _ I h => wpAny_tests_nil ⟨H, I, h⟩
theorem pifs_one {X : Cx} {c : Expr} {tt : TT} (h : PT X c tt) : PIfs X [c] tt := fun pins s σ H Q I q => wpAny_tests_one (h pins s σ H Q I q)
theorem comp_turns {P : Program} {w : World} {A : Around} {R : Result → Shared → Prop} {s : Shared} {elt tg src : Expr} {ifs : List Expr} {sc : Scope} {ps : Pos} {itv acc : Value} {env : PySem.Env} (Iv : Nat → Shared → Prop) (n : Nat) (h0 : Iv n s)
    (turn : ∀ n s, Iv n s → wpAny (model P w) A (pyNext itv) (fun r s1 => match r with
      | none => R (.ok .next) s1
      | some v => wpAny (model P w) A (letOwnedTupleGo tg itv v) (fun _ sg => wpAny (model P w) A (assign tg env v) (fun _ s2 =>
          wpAny (model P w) A (forIn ifs true fun t r => if r = true then do let z ← isTrue t env (eval t env); pure (ForInStep.yield z) else pure (ForInStep.yield r)) (fun z s3 =>
            if z = true then wpAny (model P w) A (eval elt env) (fun y s4 => wpAny (model P w) A (call (.builtin "list.append") [acc, y]) (fun _ s5 => ∃ m, m < n ∧ Iv m s5) (notedBy (model P w) A env fun e s' => R (.error e) s') s4) (notedBy (model P w) A env fun e s' => R (.error e) s') s3
            else ∃ m, m < n ∧ Iv m s3) (notedBy (model P w) A env fun e s' => R (.error e) s') s2) (notedBy (model P w) A env fun e s' => R (.error e) s') sg) (notedBy (model P w) A env fun e s' => R (.error e) s') s1) (notedBy (model P w) A env fun e s' => R (.error e) s') s) :
    codeAny (model P w) A (.compLoop (.ListComp elt [⟨tg, src, ifs, 0⟩] sc ps) 0 itv acc env) R s := by
  refine codeAny_loop rfl Iv (fun k s' hv => ?_) n h0
  show wpAny _ A ((compTurn (.ListComp elt [⟨tg, src, ifs, 0⟩] sc ps) 0 itv acc env).onRaise (fun z => do noteFrame z env; theTreesLotGoes z)) _ _ s'
  rw [compTurn_list]
  refine wpAny_noted (wpAny_bind (wpAny_standAt (wpAny_bind (wpAny_mono (turn k s' hv) (fun r s1 h1 => ?_) fun _ _ z => z))))
  cases r with
  | none => exact wpAny_pure h1
  | some v =>
    refine wpAny_bind (wpAny_mono h1 (fun _ sg hg => wpAny_bind (wpAny_mono hg (fun _ s2 h2 => wpAny_bind (wpAny_mono h2 (fun z s3 h3 => ?_) fun _ _ q => q)) fun _ _ q => q)) fun _ _ q => q)
    cases z with
    | false => exact wpAny_pure ⟨rfl, h3⟩
    | true => exact wpAny_bind (wpAny_bind (wpAny_mono h3 (fun y s4 h4 => wpAny_bind (wpAny_mono h4 (fun _ s5 h5 => wpAny_pure (wpAny_pure ⟨rfl, h5⟩)) fun _ _ q => q)) fun _ _ q => q))
/-- what a comprehension's block asks, the inner names' state along -/
def CompG (J : It) (g : TG) (tt : TT) (te : TE) (σ0 : St) (D : Addr) (H1 : Hp) (Q : VK) : Prop := ∃ W : Nat → Nat → St → Hp → Prop, (∃ m, W 0 m σ0 (upd H1 D (.lst []))) ∧ ∀ i m σ H, W i m σ H →
  (J.stop i H ∧ Q (.ref D) H) ∨ (J.go i H ∧ ∀ x H', J.yld i H x H' → g x σ H' fun σ2 H2 => tt σ2 H2 fun b H3 => if b = true then te σ2 H3 fun y H4 => ∃ ys, H4 D = some (.lst ys) ∧ ys.length < sizeLine ∧ ∃ m', m' < m ∧ W (i + 1) m' σ2 (upd H4 D (.lst (ys ++ [y]))) else ∃ m', m' < m ∧ W (i + 1) m' σ2 H3)
def tCompG (wi : TI) (g : TG) (tt : TT) (te : TE) (nt : Nat) (js : List Nat) : TE := fun σ H Q => wi σ H fun J H1 => ∀ D, H1 D = none → CompG J g tt te (List.replicate nt none ++ freeV σ js) D H1 Q
section
variable {X : Cx}
/-- what the names within ask of the outer def -/
structure FreeOk (X : Cx) (scope : Scope) (cl : List (Str × Addr)) (fr : List Str) (js : List Nat) : Prop where
  clos : closureFor scope X.env = pure cl
  cell : ∀ y ∈ scope.names, y.2 ≠ .cell
  kind : scope.kind = .function
  names : ∀ y ∈ scope.names, y.2 = .local → scope.names.lookup y.1 = some .local
  sub : ∀ y c, cl.lookup y = some c → X.env.cells.lookup y = some c
  has : ∀ y, ((relabel scope X.env).names.lookup y = some .cell ∨ (relabel scope X.env).names.lookup y = some .free) → ∃ c, cl.lookup y = some c
  frn : ∀ (i : Nat) (y : Str), fr[i]? = some y → ∃ j : Nat, js[i]? = some j ∧ X.N[j]? = some y ∧ X.env.kindOf y = some .cell ∧ ((relabel scope X.env).names.lookup y = some .cell ∨ (relabel scope X.env).names.lookup y = some .free) ∧ ∃ c, cl.lookup y = some c
  len : js.length = fr.length
/-- the block runs; what is made of the list behind it is left open (RR) -/
theorem comp_block {elt iter tg : Expr} {ifs : List Expr} {pos : Pos} {scope : Scope} {cl : List (Str × Addr)} {ts fr : List Str} {js : List Nat} {wi : TI} {g : TG} {tt : TT} {te : TE} {use : Option (Value → Sem Unit)} {RQ : Value → Shared → Prop} {QE : VK}
    (hi : PI X tg iter wi) (hg : ∀ C s H ex, PG (compCx X (ts ++ fr) scope cl C s H ex) tg g) (hts : ∀ C s H ex, PIfs (compCx X (ts ++ fr) scope cl C s H ex) ifs tt) (helt : ∀ C s H ex, PE (compCx X (ts ++ fr) scope cl C s H ex) elt te)
    (F : FreeOk X scope cl fr js) (hc : X.calm = true) (hs : ∀ v, foldedSetIterable iter X.env v = pure v)
    {pins : List (Addr × Obj)} {s : Shared} {σ : St} {H : Hp} (I : Inv X pins σ H s) (h : tCompG wi g tt te ts.length js σ H QE) (newAcc : Sem Value) (hnew : newAcc = newList []) (pp : Pos)
    (hR : ∀ (D C : Addr) (H5 : Hp) (s6 : Shared) (m : Str → Option Value), s6.heap.Ns C m → H5 C = none → C ≠ X.env.locals → X.s₀.heap.objs.size ≤ C → (∀ x c, X.env.cells.lookup x = some c → c ≠ C) → (∀ p ∈ X.pn ++ pins, p.1 ≠ C) → C ∉ X.fs →
      (∀ h' : Heap, (∀ b u, b ≠ C → s6.heap.get? b = some u → h'.get? b = some u) → Inv X pins σ H5 { s6 with heap := h' }) → QE (.ref D) H5 → compPost (model X.prog X.w) X.A X.xe use RQ (.ref D) C (.ok .next) s6) :
    wpAny (model X.prog X.w) X.A (comprehension (.ListComp elt [⟨tg, iter, ifs, 0⟩] scope pos) scope X.env pp newAcc false (eval iter X.env) use) RQ X.xe s := by
  refine wpAny_comprehension_free (use := use) rfl hs F.clos F.kind F.names (thn (hi pins s σ H _ I h) fun xv s1 h1 => thn h1 fun itv s2 h2 => ?_)
  obtain ⟨it, fp, tn, J, H2, rfl, I2, T, st2, f2, h2⟩ := h2
  have hD : H2 s2.heap.objs.size = none := I2.fresh
  obtain ⟨W, ⟨m0, w0⟩, turn⟩ := h2 _ hD
  rw [hnew]
  refine wpAny_newObj_type ?_
  have I3 : Inv X pins σ (upd H2 s2.heap.objs.size (.lst [])) { s2 with heap := s2.heap.push { cls := .type "list", data := .seq ([] : List Value).toArray } } := I2.lnew (t' := s2.toks) (its := []) .nil (by show 0 ≤ sizeLine; decide)
  generalize hs3 : ({ s2 with heap := s2.heap.push { cls := .type "list", data := .seq ([] : List Value).toArray } } : Shared) = s3 at I3
  have e3 : s3.heap = s2.heap.push { cls := .type "list", data := .seq ([] : List Value).toArray } := by rw [← hs3]
  generalize hH3 : upd H2 s2.heap.objs.size (.lst []) = H3 at I3 w0
  generalize hDD : s2.heap.objs.size = D at hD hH3 w0 turn
  have k3 : ∀ b o, s2.heap.get? b = some o → s3.heap.get? b = some o := fun b o e => by rw [e3]; exact Heap.get?_push_of_some _ e
  have f3 : ∀ b ∈ fp, FpOk X pins H3 b := fun b hb => by
    obtain ⟨o, ho, _⟩ := T.obj _ _ st2 b hb
    have lt := Heap.lt_size ho
    refine ⟨?_, (f2 b hb).2⟩
    rw [← hH3, upd_ne (by rw [← hDD]; exact Nat.ne_of_lt lt)]
    exact (f2 b hb).1
  refine wpAny_newFunctionEnv F.cell (by intro y hy; simp at hy) (fun h1 hns hsb => ?_) F.kind
  have hC3 : s3.heap.get? s3.heap.objs.size = none := Heap.get?_none_of_le (Nat.le_refl _)
  have k4 : ∀ b o, s3.heap.get? b = some o → h1.get? b = some o := fun b o e => hsb.extBut b o (Nat.ne_of_lt (Heap.lt_size e)) (Heap.get?_push_of_some _ e)
  show codeAny (model X.prog X.w) X.A (.compStart (.ListComp elt [⟨tg, iter, ifs, 0⟩] scope pos) 0 (.ref it) (.ref D) (compEnvC scope cl s3.heap.objs.size X.env)) (compPost (model X.prog X.w) X.A X.xe use RQ (.ref D) s3.heap.objs.size) _
  have ok : (compCx X (ts ++ fr) scope cl s3.heap.objs.size s3 H3 fp).Ok := by
    refine ⟨I3.ok.mod, F.kind, I3.ok.glob, I3.ok.blt, Nat.le_refl _, fun y z c e1 e2 => I3.ok.inj y z c (F.sub _ _ e1) (F.sub _ _ e2), fun y hy => F.has y hy, fun y c z => absurd z Bool.false_ne_true, I3.ok.hd, I3.ok.frames, .inl rfl, fun b hb => ?_, I3.bs, Nat.le_trans I3.ok.bsz I3.sz,
      fun b o e hb => ?_, fun b hb hf => ?_, I3.stack, I3.stkFree⟩
    · obtain ⟨o, ho, _⟩ := T.obj _ _ st2 b hb
      exact ⟨Nat.ne_of_lt (Heap.lt_size (k3 b o ho)), fun y c e => (f3 b hb).2.2.2.2.1 y c (F.sub _ _ e)⟩
    · obtain ⟨_, _, _, z, _⟩ := f3 b hb
      rcases z with z | z
      · exact I3.ok.noex b o e z
      · exact absurd (Nat.lt_of_lt_of_le (Heap.lt_size (I3.ok.bs b o e).1) z) (Nat.lt_irrefl _)
    · rcases List.mem_cons.mp (I3.stkSub b hf) with z | z
      · exact (f3 b hb).2.1 z
      · exact (f3 b hb).2.2.1 z
  have frV : ∀ (hh : Heap), (∀ b u, s3.heap.get? b = some u → hh.get? b = some u) → ∀ (i : Nat) (y : Str) (v : V), fr[i]? = some y → (freeV σ js)[i]? = some (some v) → ∃ u, RelV v u ∧ ∀ m, Look (compEnvC scope cl s3.heap.objs.size X.env) hh m y u := fun hh kk i y v e1 e2 => by
    obtain ⟨j, ej, eN, hk, hkin, c, hcl⟩ := F.frn i y e1
    have e2' : σ[j]? = some (some v) := by
      unfold freeV at e2
      rw [List.getElem?_map, ej, Option.map_some] at e2
      have e2 := Option.some.inj e2
      cases q : σ[j]? with
      | none => rw [q] at e2; simp at e2
      | some z => rw [q] at e2; simpa using e2
    obtain ⟨m, hn, hl⟩ := I3.loc
    obtain ⟨u, r, l⟩ := hl j y v eN e2' (.inr (.inl hk))
    refine ⟨u, r, fun m' => .inr ⟨hkin, c, hcl, ?_⟩⟩
    rcases l with ⟨z, _⟩ | ⟨_, c', hc', hce⟩
    · rw [hk] at z; cases z
    · have e := F.sub _ _ hcl
      rw [hc'] at e; cases e
      obtain ⟨oo, q1, q2⟩ := hce
      exact ⟨oo, kk _ _ q1, q2⟩
  have I4 : Inv (compCx X (ts ++ fr) scope cl s3.heap.objs.size s3 H3 fp) [] (List.replicate ts.length none ++ freeV σ js) H3 { s3 with heap := h1, toks := s3.toks + ([] : List (Str × Value)).length } := by
    refine ⟨ok, rfl, I3.bare, Un.kept k4, ⟨_, hns, fun i y v e1 e2 e3 => ?_⟩, fun y c e => ?_, I3.fresh, fun y c e => I3.freeC y c (F.sub _ _ e), fun p hp => absurd (show p ∈ ([] : List (Addr × Obj)) from hp) (by simp), I3.hok.kept k4, ?_⟩
    · by_cases hlt : i < ts.length
      · rw [List.getElem?_append_left (by simpa using hlt), List.getElem?_replicate, if_pos hlt] at e2
        cases e2
      · have e1 : (ts ++ fr)[i]? = some y := e1
        rw [List.getElem?_append_right (by omega)] at e1
        rw [List.getElem?_append_right (by simp; omega), List.length_replicate] at e2
        obtain ⟨u, r, l⟩ := frV h1 k4 _ y v e1 e2
        exact ⟨u, r, l _⟩
    · obtain ⟨v, oo, q1, q2⟩ := I3.cell y c (F.sub _ _ e)
      exact ⟨v, oo, k4 _ _ q1, q2⟩
    · show _ = (ts ++ fr).length
      rw [List.length_append, List.length_append, List.length_replicate]
      unfold freeV
      rw [List.length_map, F.len]
  have stat : ∀ {H' : Hp}, (∀ b ∈ fp, H' b = none) → ∀ b ∈ fp, FpOk (compCx X (ts ++ fr) scope cl s3.heap.objs.size s3 H3 fp) [] H' b := fun hn b hb => by
    obtain ⟨o, ho, _⟩ := T.obj _ _ st2 b hb
    exact ⟨hn b hb, (ok.exf b hb).1, ok.exfs b hb, .inl hb, (ok.exf b hb).2, fun p hp => absurd (show p ∈ ([] : List (Addr × Obj)) from hp) (by simp)⟩
  have loop : ∀ s4 : Shared, s4 = { s3 with heap := h1, toks := s3.toks + ([] : List (Str × Value)).length } →
      codeAny (model X.prog X.w) X.A (.compLoop (.ListComp elt [⟨tg, iter, ifs, 0⟩] scope pos) 0 (.ref it) (.ref D) (compEnvC scope cl s3.heap.objs.size X.env)) (compPost (model X.prog X.w) X.A X.xe use RQ (.ref D) s3.heap.objs.size) s4 := by
    intro s4 e4
    rw [← e4] at I4
    have st4 : tn 0 s4.heap := T.keep _ _ _ st2 fun b _ o e => by rw [e4]; exact k4 b o (k3 b o e)
    refine comp_turns (fun n s' => ∃ i σ' H', Inv (compCx X (ts ++ fr) scope cl s3.heap.objs.size s3 H3 fp) [] σ' H' s' ∧ tn i s'.heap ∧ (∀ b ∈ fp, H' b = none) ∧ W i n σ' H') m0 ⟨0, _, H3, I4, st4, fun b hb => (f3 b hb).1, w0⟩ ?_
    rintro n s5 ⟨i, σ5, H5, I5, st5, fr5, w5⟩
    rcases turn i n σ5 H5 w5 with ⟨stop, q⟩ | ⟨go, step⟩
    · refine thn (T.done (compCx X (ts ++ fr) scope cl s3.heap.objs.size s3 H3 fp) rfl rfl rfl hc i [] s5 σ5 H5 _ I5 (stat fr5) st5 stop) fun r s6 ⟨hr, I6⟩ => ?_
      subst hr
      obtain ⟨m, hn, _⟩ := id I6.loc
      refine hR D s3.heap.objs.size H5 s6 m hn I6.free (Nat.ne_of_gt I3.lt) I3.sz (fun y c e z => ?_) (fun p hp z => ?_) (I3.nofs (Nat.le_refl _)) (fun h' kb => ?_) q
      · obtain ⟨v, oo, q1, q2⟩ := I3.cell y c e
        exact absurd (Heap.lt_size q1) (by rw [z]; exact Nat.lt_irrefl _)
      · exact absurd (Heap.lt_size (I3.pin p hp).1) (by rw [z]; exact Nat.lt_irrefl _)
      · refine I3.call' (s' := { s6 with heap := h' }) (ch := fp) I6.os ((show Un (frs X.stack) fp H3 H5 s3.heap s6.heap from I6.base).but hC3 kb) (I6.hok.but I6.free kb) I6.bare (fun b hb => ?_)
        obtain ⟨_, z1, _, z3, z4, z5⟩ := f3 b hb
        exact ⟨z3, z1, z4, z5⟩
    · refine thn (T.item (compCx X (ts ++ fr) scope cl s3.heap.objs.size s3 H3 fp) rfl rfl rfl hc i [] s5 σ5 H5 _ I5 (stat fr5) st5 go) fun r s6 ⟨u, hr, h6⟩ => ?_
      subst hr
      refine thn h6 fun _ s7 ⟨v, H7, I7, r7, y7, st7, fr7⟩ => ?_
      have I7' := I7.pinned (stat fr7) (T.obj _ _ st7)
      have back : ∀ {s9 : Shared} {σ9 : St} {H9 : Hp} {n' : Nat}, Inv (compCx X (ts ++ fr) scope cl s3.heap.objs.size s3 H3 fp) ([] ++ pinsAt fp s7.heap) σ9 H9 s9 → W (i + 1) n' σ9 H9 → ∃ i σ' H', Inv (compCx X (ts ++ fr) scope cl s3.heap.objs.size s3 H3 fp) [] σ' H' s9 ∧ tn i s9.heap ∧ (∀ b ∈ fp, H' b = none) ∧ W i n' σ' H' := fun {s9 σ9 H9 n'} I9 w9 => by
        refine ⟨i + 1, σ9, H9, I9.unpinned (pins := []), T.keep _ _ _ st7 fun b hb oo ee => (I9.pin (b, oo) (List.mem_append_right _ (List.mem_append_right _ (mem_pinsAt hb ee)))).1, fun b hb => ?_, w9⟩
        obtain ⟨oo, ee, _⟩ := T.obj _ _ st7 b hb
        exact (I9.pin (b, oo) (List.mem_append_right _ (List.mem_append_right _ (mem_pinsAt hb ee)))).2.1
      refine wpAny_mono (hg s3.heap.objs.size s3 H3 fp _ s7 σ5 H7 v u _ I7' r7 (step v H7 y7)) (fun _ s8 ⟨σ8, H8, I8, q8⟩ => ?_) (fun _ _ z => z.elim)
      refine wpAny_mono (hts s3.heap.objs.size s3 H3 fp _ s8 σ8 H8 _ I8 q8) (fun b s9 ⟨H9, I9, q9⟩ => ?_) (fun _ _ z => z.elim)
      cases b with
      | false =>
        rw [if_neg Bool.false_ne_true] at q9 ⊢
        obtain ⟨m', lm, w9⟩ := q9
        exact ⟨m', lm, back I9 w9⟩
      | true =>
        rw [if_pos rfl] at q9 ⊢
        refine wpAny_mono (helt s3.heap.objs.size s3 H3 fp _ s9 _ H9 _ I9 q9) (fun yv s10 ⟨y, H10, I10, r10, ys, e10, l10, m', lm, w10⟩ => ?_) (fun _ _ z => z.elim)
        have mt := mt_append (X := compCx X (ts ++ fr) scope cl s3.heap.objs.size s3 H3 fp) _ s10 _ H10 (.ref D) [y] (.ref D) [yv] (fun _ H' => H' = upd H10 D (.lst (ys ++ [y]))) I10 rfl (.cons r10 .nil) ⟨D, ys, y, rfl, rfl, e10, l10, rfl⟩
        refine wpAny_mono mt (fun _ s11 ⟨_, H11, I11, _, e11⟩ => ?_) (fun _ _ z => z.elim)
        subst e11
        exact ⟨m', lm, back I11 w10⟩
  exact codeAny_compStart_list (loop _ rfl) (T.self _ 0 _ _ _ (T.keep _ _ _ st2 fun b _ o e => k4 b o (k3 b o e)) (loop _ rfl))
theorem pe_compG {elt iter tg : Expr} {ifs : List Expr} {pos : Pos} {scope : Scope} {cl : List (Str × Addr)} {ts fr : List Str} {js : List Nat} {wi : TI} {g : TG} {tt : TT} {te : TE}
    (hi : PI X tg iter wi) (hg : ∀ C s H ex, PG (compCx X (ts ++ fr) scope cl C s H ex) tg g) (hts : ∀ C s H ex, PIfs (compCx X (ts ++ fr) scope cl C s H ex) ifs tt) (helt : ∀ C s H ex, PE (compCx X (ts ++ fr) scope cl C s H ex) elt te)
    (F : FreeOk X scope cl fr js) (hc : X.calm = true) (hs : ∀ v, foldedSetIterable iter X.env v = pure v) : PE X (.ListComp elt [⟨tg, iter, ifs, 0⟩] scope pos) (tCompG wi g tt te ts.length js) := by
  intro pins s σ H Q I h
  rw [eval_ListComp]
  refine comp_block hi hg hts helt F hc hs I h _ rfl _ fun D C H5 s6 m hn _ _ _ _ _ _ iv q => ⟨m, hn, fun h' hs' => ⟨.ref D, H5, iv h' fun b u hb e => hs'.extBut b u hb e, rfl, q⟩⟩
theorem ps_compA {elt iter tg : Expr} {ifs : List Expr} {pos : Pos} {scope : Scope} {cl : List (Str × Addr)} {ts fr : List Str} {js : List Nat} {wi : TI} {g : TG} {tt : TT} {te : TE} {i : Nat} {y : Str} {py spos : Pos}
    (hN : X.N.Nodup) (hiN : X.N[i]? = some y) (hy : X.env.scope.names.lookup y = some .local)
    (hi : PI X tg iter wi) (hg : ∀ C s H ex, PG (compCx X (ts ++ fr) scope cl C s H ex) tg g) (hts : ∀ C s H ex, PIfs (compCx X (ts ++ fr) scope cl C s H ex) ifs tt) (helt : ∀ C s H ex, PE (compCx X (ts ++ fr) scope cl C s H ex) elt te)
    (F : FreeOk X scope cl fr js) (hc : X.calm = true) (hs : ∀ v, foldedSetIterable iter X.env v = pure v) (hsw : swapsWith (.ListComp elt [⟨tg, iter, ifs, 0⟩] scope pos) (some (.Name y py)) spos.line X.env = pure true) :
    PS X (.Assign [.Name y py] (.ListComp elt [⟨tg, iter, ifs, 0⟩] scope pos) spos) (tAsg (tCompG wi g tt te ts.length js) (gName i)) := by
  intro pins s σ H D I h
  rw [exec_Assign_Name_used _ _ _ _ hsw]
  refine wpAny_bind (wpAny_standAt (wpAny_bind ?_))
  show wpAny _ X.A (do let _ ← comprehension (.ListComp elt [⟨tg, iter, ifs, 0⟩] scope pos) scope X.env _ (newList []) false (eval iter X.env) (some (assign (.Name y py) X.env))) _ _ s
  refine wpAny_bind (thn (comp_block (RQ := fun _ s' => ∃ σ' H', Inv X pins σ' H' s' ∧ D.nx σ' H') (QE := fun v H1 => gName i v σ H1 D.nx) hi hg hts helt F hc hs I h _ rfl _ ?_) fun _ s' q => wpAny_pure (wpAny_pure q))
  intro L C H5 s6 m hn hf hL hsz hcl hpn hfs iv q
  obtain ⟨o, es, ep, ho, hd, r⟩ := id hn
  have I6 : Inv X pins σ H5 s6 := iv s6.heap fun b u _ e => e
  have I6p : Inv X (pins ++ [(C, o)]) σ H5 s6 := I6.pins_of fun p hp => by
    rcases List.mem_append.mp hp with z | z
    · exact I6.pin p (List.mem_append_right _ z)
    · have z : p = (C, o) := by simpa using z
      subst z
      exact ⟨ho, hf, hL, hfs, fun v z => by rw [hd] at z; cases z⟩
  show wpAny _ X.A (assign (.Name y py) X.env (.ref L)) _ _ _
  refine wpAny_assign_Name (store_ok I6p hN hiN (.inl hy) (v := .ref L) rfl (fun s7 I7 => ?_) (.inr hy))
  have h7 : s7.heap.get? C = some o := (I7.pin (C, o) (List.mem_append_right _ (List.mem_append_right _ (List.mem_singleton.mpr rfl)))).1
  refine ⟨m, ⟨o, es, ep, h7, hd, r⟩, fun h' hs' => ⟨_, H5, ?_, q⟩⟩
  exact I7.unpinned.turned (t' := s7.toks) (fun b u hb e => hs'.extBut b u hb e) hf hL (.inr hsz) hcl hpn
end
end L2

/-! Comprehensions over trees: any target, perhaps a test, given to a name. -/
namespace L3
open PySem L2
def compG (g : UG) (ut : UT) (u : UE) : List D → List Sl → (List D → Prop) → Prop
  | [], _, k => k []
  | d :: ds, ρ, k => g d ρ fun ρ1 => ut ρ1 fun b => if b = true then u ρ1 fun y => compG g ut u ds ρ1 fun ys => k (y :: ys) else compG g ut u ds ρ1 k
def utTrue : UT := fun _ k => k true
def uCompG (w : UL) (g : UG) (ut : UT) (u : UE) (nt : Nat) (js : List Nat) : UL := fun ρ k => w ρ fun ds => ds.length ≤ sizeLine ∧ compG g ut u ds (List.replicate nt .no ++ js.map (frS ρ)) k
section
variable {K : PySem.W.Frag} {X : Cx} {e : Expr} {es : List Expr} {u : UE} {w : UL} {pos p : Pos}
theorem frS_cases {ρ : List Sl} (j : Nat) : frS ρ j = .no ∨ (∃ d, frS ρ j = .val d ∧ ρ[j]? = some (.val d)) ∨ (frS ρ j = .bag ∧ ρ[j]? = some .bag) := by
  unfold frS
  split
  · rename_i d hj; exact .inr (.inl ⟨d, rfl, hj⟩)
  · rename_i hj; exact .inr (.inr ⟨rfl, hj⟩)
  · exact .inl rfl
/-- the state within a comprehension, at its beginning -/
theorem Ev.within {R : Hp} {W : Addr → Prop} {B H : Hp} {σ : St} {ρ : List Sl} (e : Ev K R W B H σ ρ) (nt : Nat) {js : List Nat} (hnd : js.Nodup) :
    Ev K H (fun a => ∃ j, j ∈ js ∧ σ[j]? = some (some (.ref a)) ∧ ρ[j]? = some .bag) B H (List.replicate nt none ++ freeV σ js) (List.replicate nt .no ++ js.map (frS ρ)) := by
  have bg : ∀ (a : Addr) (j : Nat), σ[j]? = some (some (V.ref a)) → ρ[j]? = some Sl.bag → B a = none ∧ Bag H a := fun a j z1 z2 => by
    obtain ⟨c, c1, _, c3, c4⟩ := e.bagAt z2
    rw [z1] at c1; cases c1; exact ⟨c3, c4⟩
  refine ⟨⟨fun _ _ z _ => z, e.bh, fun a ⟨j, _, z1, z2⟩ => (bg a j z1 z2).1, fun a ⟨j, _, z1, z2⟩ => (bg a j z1 z2).2, fun a ⟨j, _, z1, z2⟩ => ?_⟩, ?_, fun n kk hk => ?_, fun n m a m1 m2 => ?_⟩
  · obtain ⟨x, y, q, _⟩ := (bg a j z1 z2).2
    rw [q]; simp
  · unfold freeV; simp
  · by_cases hlt : n < nt
    · rw [List.getElem?_append_left (by simpa using hlt), List.getElem?_replicate, if_pos hlt] at hk
      cases hk; trivial
    · rw [List.getElem?_append_right (by simp; omega), List.length_replicate, List.getElem?_map] at hk
      cases qj : js[n - nt]? with
      | none => rw [qj] at hk; cases hk
      | some j =>
        rw [qj] at hk
        have hk := Option.some.inj hk
        have eo : ((List.replicate nt none ++ freeV σ js)[n]?).join = (σ[j]?).join := by
          rw [List.getElem?_append_right (by simp; omega), List.length_replicate]
          unfold freeV
          rw [List.getElem?_map, qj]
          rfl
        rw [eo, ← hk]
        rcases frS_cases (ρ := ρ) j with z | ⟨dd, z, hj⟩ | ⟨z, hj⟩ <;> rw [z]
        · trivial
        · obtain ⟨v, v1, v2⟩ := e.ok j _ hj
          exact ⟨v, v1, v2⟩
        · obtain ⟨c, c1, _, c3, c4⟩ := e.ok j _ hj
          exact ⟨c, c1, .inl ⟨j, List.mem_of_getElem? qj, join_some c1, hj⟩, c3, c4⟩
  · have back : ∀ n, MutAt (List.replicate nt none ++ freeV σ js) (List.replicate nt .no ++ js.map (frS ρ)) n a → ∃ j, nt ≤ n ∧ js[n - nt]? = some j ∧ MutAt σ ρ j a := fun n mm => by
      obtain ⟨m1, m2⟩ := mm
      by_cases hlt : n < nt
      · rw [List.getElem?_append_left (by simpa using hlt), List.getElem?_replicate, if_pos hlt] at m1
        cases m1
      · rw [List.getElem?_append_right (by simp; omega), List.length_replicate] at m1
        obtain ⟨j, qj, oj⟩ := freeV_get m1
        rw [List.getElem?_append_right (by simp; omega), List.length_replicate, List.getElem?_map, qj] at m2
        refine ⟨j, by omega, qj, join_some oj.symm, .inl ?_⟩
        rcases frS_cases (ρ := ρ) j with z | ⟨dd, z, hj⟩ | ⟨z, hj⟩
        · rw [Option.map_some, z] at m2; rcases m2 with q | ⟨_, q⟩ <;> cases q
        · rw [Option.map_some, z] at m2; rcases m2 with q | ⟨_, q⟩ <;> cases q
        · exact hj
    obtain ⟨j, l1, qj, mj⟩ := back n m1
    obtain ⟨j', l2, qj', mj'⟩ := back m m2
    have := e.sep j j' a mj mj'
    subst this
    have l3 : n - nt < js.length := by
      by_cases z : n - nt < js.length
      · exact z
      · rw [List.getElem?_eq_none (by omega)] at qj; cases qj
    have := (List.getElem?_inj l3 hnd).mp (qj.trans qj'.symm)
    omega
theorem mixB_at {R : Hp} {W : Addr → Prop} {B : Hp} {a : Addr} {vs : List V} (h : R a = some (.lst vs)) (nw : ¬ W a) : mixB R W B a = some (.lst vs) := by
  unfold mixB; rw [h]; dsimp only; rw [if_neg nw]
theorem mixB_W {R : Hp} {W : Addr → Prop} {B : Hp} {a : Addr} (h : W a) : mixB R W B a = B a := by
  unfold mixB
  split
  · rw [if_pos h]
  · rfl
theorem mixB_no {R : Hp} {W : Addr → Prop} {B : Hp} {a : Addr} (h : ∀ vs, R a ≠ some (.lst vs)) : mixB R W B a = B a := by
  unfold mixB
  split
  · rename_i vs e; exact absurd e (h vs)
  · rfl
/-- what lies there: of what stays, or a list of the entry's -/
theorem mixB_out {R : Hp} {W : Addr → Prop} {B : Hp} {a : Addr} {o : HO} (h : mixB R W B a = some o) : B a = some o ∨ (¬ W a ∧ R a = some o ∧ ∃ vs, o = .lst vs) := by
  unfold mixB at h
  split at h
  · rename_i vs e
    split at h
    · exact .inl h
    · rename_i z; cases h; exact .inr ⟨z, e, vs, rfl⟩
  · exact .inl h
/-- what stays lies there as well -/
theorem mixB_in {R : Hp} {W : Addr → Prop} {B H : Hp} (w : Wd R W B H) : Same B (mixB R W B) := fun a o h => by
  by_cases z : W a
  · rw [mixB_W z]; exact h
  · by_cases q : ∃ vs, R a = some (.lst vs)
    · obtain ⟨vs, q⟩ := q
      have h1 := w.fr a _ q z
      rw [w.bh a o h] at h1
      cases h1
      exact mixB_at q z
    · rw [mixB_no fun vs e => q ⟨vs, e⟩]; exact h
theorem mixB_now {R : Hp} {W : Addr → Prop} {B H : Hp} (w : Wd R W B H) : Same (mixB R W B) H := fun a o h => by
  rcases mixB_out h with h | ⟨h1, h2, _⟩
  · exact w.bh a o h
  · exact w.fr a o h2 h1
/-- with the heap now as the entry -/
theorem mixB_re {R : Hp} {W W' : Addr → Prop} {B B' H : Hp} (w : Wd R W B H) (s : Same B B') (sB : Same B' H) (hw : ∀ a, W' a → R a ≠ none → W a) (hb : ∀ a, W' a → B' a = none) : Same (mixB R W B) (mixB H W' B') := fun a o h => by
  have hH := mixB_now w a o h
  rcases mixB_out h with h | ⟨h1, h2, vs, rfl⟩
  · have h' := s a o h
    by_cases z : W' a
    · rw [hb a z] at h'; cases h'
    · by_cases q : ∃ vs, H a = some (.lst vs)
      · obtain ⟨vs, q⟩ := q
        rw [hH] at q; cases q
        exact mixB_at hH z
      · rw [mixB_no fun vs e => q ⟨vs, e⟩]; exact h'
  · exact mixB_at hH fun z => h1 (hw a z (by rw [h2]; simp))
theorem Ev.rebase {R : Hp} {W : Addr → Prop} {B H : Hp} {σ : St} {ρ : List Sl} (e : Ev K R W B H σ ρ) (hm : ∀ j a, MutAt σ ρ j a → W a) : Ev K H W B H σ ρ := by
  refine ⟨⟨fun _ _ z _ => z, e.bh, e.wb, e.wh, fun a z => by obtain ⟨x', y', q', _⟩ := e.wh a z; rw [q']; simp⟩, e.len, fun j kk hj => ?_, e.sep⟩
  have := e.ok j kk hj
  cases kk with
  | no => trivial
  | new d =>
    obtain ⟨v, h1, h2⟩ := this
    exact ⟨v, h1, h2.mono (mixB_re e.toWd (Same.refl _) e.bh (fun _ z _ => z) e.wb)⟩
  | pin v d => exact ⟨this.1, this.2.mono (mixB_re e.toWd (Same.refl _) e.bh (fun _ z _ => z) e.wb)⟩
  | val d => exact this
  | own ds =>
    obtain ⟨a, vs, q1, q2, _⟩ := this
    exact absurd q2 (e.wr a (hm j a ⟨join_some q1, .inr ⟨ds, hj⟩⟩))
  | bag =>
    obtain ⟨c, c1, c2, c3, c4⟩ := this
    exact ⟨c, c1, .inl (hm j c ⟨join_some c1, .inl hj⟩), c3, c4⟩
theorem Ev.unbase {R : Hp} {W : Addr → Prop} {B H B' H' : Hp} {σ : St} {ρ : List Sl} (e : Ev K R W B H σ ρ) (hm : ∀ j a, MutAt σ ρ j a → W a) (e' : Ev K H W B' H' σ ρ) (g : Grow H B B') : Ev K R W B' H' σ ρ ∧ Grow R B B' := by
  refine ⟨⟨⟨fun a o z nw => e'.fr a o (e.fr a o z nw) nw, e'.bh, e'.wb, e'.wh, e.wr⟩, e'.len, fun j kk hj => ?_, e'.sep⟩, ⟨g.s, fun a o z => ?_⟩⟩
  · have := e'.ok j kk hj
    cases kk with
    | no => trivial
    | new d =>
      obtain ⟨v, h1, h2⟩ := e.ok j _ hj
      exact ⟨v, h1, h2.mono (mixB_mono g.s)⟩
    | pin v d =>
      obtain ⟨h1, h2⟩ := e.ok j _ hj
      exact ⟨h1, h2.mono (mixB_mono g.s)⟩
    | val d => exact this
    | own ds =>
      obtain ⟨a, vs, q1, q2, _⟩ := e.ok j _ hj
      exact absurd q2 (e.wr a (hm j a ⟨join_some q1, .inr ⟨ds, hj⟩⟩))
    | bag =>
      obtain ⟨c, c1, c2, c3, c4⟩ := this
      exact ⟨c, c1, .inl (hm j c ⟨join_some c1, .inl hj⟩), c3, c4⟩
  · rcases g.n a o z with q | q
    · exact .inl q
    · exact .inr (e.toWd.fresh q).1
theorem refCompG {wi : TI} {g : TG} {tt : TT} {te : TE} {ug : UG} {ut : UT} {nt : Nat} {js : List Nat} (h0 : RefI K wi w) (hg : RefG K g ug) (ht : RefT K tt ut) (h1 : RefE K te u) (hnd : js.Nodup) : RefO K (tCompG wi g tt te nt js) (uCompG w ug ut u nt js) := by
  intro ρ k h R W B H σ Q e q
  refine h0 ρ _ h R W B H σ _ e fun ds J B1 H1 z1 e1 g1 it => ?_
  obtain ⟨hl, z1⟩ := z1
  intro D hD
  obtain ⟨f1, f2, f3⟩ := e1.toWd.fresh hD
  have nm1 : ∀ i, ¬ MutAt σ ρ i D := fun i m => e1.notNew hD m rfl
  have ei := e1.within nt hnd
  have hmi : ∀ j a, MutAt (List.replicate nt none ++ freeV σ js) (List.replicate nt .no ++ js.map (frS ρ)) j a → ∃ j, j ∈ js ∧ σ[j]? = some (some (V.ref a)) ∧ ρ[j]? = some Sl.bag := fun j a m => by
    rcases m.2 with z | ⟨es, z⟩
    · obtain ⟨c, c1, c2, _⟩ := ei.bagAt z
      rw [m.1] at c1; cases c1
      rcases c2 with c2 | c2
      · exact c2
      · obtain ⟨_, q2⟩ := ei.mutOk m
        exact absurd c2 q2
    · obtain ⟨c, vs, c1, c2, _⟩ := ei.ownAt z
      rw [m.1] at c1; cases c1
      obtain ⟨_, q2⟩ := ei.mutOk m
      exact absurd c2 q2
  generalize hWW : (fun a => ∃ j, j ∈ js ∧ σ[j]? = some (some (V.ref a)) ∧ ρ[j]? = some Sl.bag) = WW at ei
  have hmi : ∀ j a, MutAt (List.replicate nt none ++ freeV σ js) (List.replicate nt .no ++ js.map (frS ρ)) j a → WW a := fun j a m => by rw [← hWW]; exact hmi j a m
  have hW : ∀ a, WW a → ∃ i : Nat, σ[i]? = some (some (.ref a)) ∧ ρ[i]? = some .bag := fun a z => by
    rw [← hWW] at z
    obtain ⟨j, _, z⟩ := z
    exact ⟨j, z⟩
  have nWD : ¬ WW D := fun z => by
    obtain ⟨i', y1, y2⟩ := hW D z
    exact nm1 i' ⟨y1, .inl y2⟩
  refine ⟨fun i m σi H' => ∃ B' ys es ρi, m = ds.length - i ∧ i ≤ ds.length ∧ Ev K H1 WW B' H' σi ρi ∧ Grow H1 B1 B' ∧ H' D = some (.lst ys) ∧ B' D = none ∧ (∀ j a, MutAt σi ρi j a → WW a) ∧ ys.length ≤ i ∧ Reps K B' ys es ∧ compG ug ut u (ds.drop i) ρi fun r => k (es ++ r),
    ⟨ds.length, B1, [], [], _, by simp, Nat.zero_le _, ei.allocH hD _, Grow.refl _ _, upd_same, f3, hmi, Nat.le_refl _, .nil, by simpa using z1⟩, ?_⟩
  rintro i m σi H2 ⟨B2, ys, es, ρi, rfl, hi, e2, g2, hy, hb, hnm, hyl, ry, z2⟩
  obtain ⟨t1, t2, t3⟩ := it H2 (g2.s.trans e2.bh) i
  by_cases hlt : i < ds.length
  · refine .inr ⟨t1 hlt, fun x H' y => ?_⟩
    obtain ⟨rfl, d, hd, rx⟩ := t3 x H' hlt y
    have ed : ds.drop i = d :: ds.drop (i + 1) := by
      rw [List.drop_eq_getElem_cons hlt]
      rw [List.getElem?_eq_getElem hlt] at hd
      rw [Option.some.inj hd]
    rw [ed] at z2
    refine hg d ρi _ z2 H1 WW B2 H' σi x _ e2 (rx.mono g2.s) fun ρ3 σ3 z3 e3 mm => ?_
    have hnm3 : ∀ j a, MutAt σ3 ρ3 j a → WW a := fun j a m => hnm j a (mm j a m)
    have bD : ∀ {B4 : Hp}, Grow H' B2 B4 → B4 D = none := fun {B4} g4 => by
      cases qd : B4 D with
      | none => rfl
      | some o =>
        rcases g4.n D o qd with z | z
        · rw [hb] at z; cases z
        · rw [hy] at z; cases z
    refine ht ρ3 _ z3 H' WW B2 H' σ3 _ (e3.rebase hnm3) fun b B4 H4 z4 e4 g4 => ?_
    have hD4 : H4 D = some (.lst ys) := e4.fr D _ hy nWD
    cases b with
    | false =>
      rw [if_neg Bool.false_ne_true] at z4 ⊢
      obtain ⟨e5, g5⟩ := e3.unbase hnm3 e4 g4
      exact ⟨ds.length - (i + 1), by omega, B4, ys, es, ρ3, rfl, hlt, e5, g2.trans g5, hD4, bD g4, hnm3, by omega, ry.mono g4.s, z4⟩
    | true =>
      rw [if_pos rfl] at z4 ⊢
      refine h1 ρ3 _ z4 H' WW B4 H4 σ3 _ e4 fun y' v B5 H5 z5 e5 g5 s5 => ?_
      have g45 := g4.trans g5
      have hD5 : H5 D = some (.lst ys) := e5.fr D _ hy nWD
      obtain ⟨e6, g6⟩ := e3.unbase hnm3 e5 g45
      refine ⟨ys, hD5, by omega, ds.length - (i + 1), by omega, B5, ys ++ [v], es ++ [y'], ρ3, rfl, hlt, e6.scribble hD (bD g45) (fun j m => nWD (hnm3 j D m)) _, g2.trans g6, upd_same, bD g45, hnm3, by rw [List.length_append, List.length_singleton]; omega, (ry.mono g45.s).append (.cons s5 .nil), ?_⟩
      simpa [List.append_assoc] using z5
  · have eq : i = ds.length := by omega
    subst eq
    rw [List.drop_length] at z2
    obtain ⟨e4, g4⟩ := e1.after hW e2.toWd g2
    refine .inl ⟨t2 (Nat.le_refl _), q _ D ys B2 H2 (by simpa [compG] using z2) e4 (g1.trans g4) f1 hb hy ry nm1⟩
/-! ### the rules -/
/-- the tests of a clause over trees -/
def PIfs3 (X : Cx) (ifs : List Expr) (ut : UT) : Prop := ∃ t, PIfs X ifs t ∧ RefT X.K t ut
theorem ifs_nil : PIfs3 X [] utTrue := ⟨_, pifs_nil, fun ρ k h R W B H σ Q e q => q true B H h e (Grow.refl _ _)⟩
theorem ifs_one {c : Expr} {ut : UT} (h : PT3 X c ut) : PIfs3 X [c] ut := by
  obtain ⟨_, h1, r1⟩ := h
  exact ⟨_, pifs_one h1, r1⟩
/-- one reading for all contexts -/
theorem joinE {elt : Expr} {α : Type} {Xs : α → Cx} (hK : ∀ a, (Xs a).K = K) (h : ∀ a, PE3 (Xs a) elt u) : ∃ t, (∀ a, PE (Xs a) elt t) ∧ RefE K t u := by
  refine ⟨fun σ H Q => ∀ a, ∃ t, PE (Xs a) elt t ∧ RefE K t u ∧ t σ H Q, fun a pins s σ H Q I q => ?_, fun ρ k q R W B H σ Q e z a => ?_⟩
  · obtain ⟨t, ht, _, hq⟩ := q a
    exact ht pins s σ H Q I hq
  · obtain ⟨t, ht, hr⟩ := h a
    rw [hK a] at hr
    exact ⟨t, ht, hr, hr ρ k q R W B H σ Q e z⟩
theorem joinI {ifs : List Expr} {ut : UT} {α : Type} {Xs : α → Cx} (hK : ∀ a, (Xs a).K = K) (h : ∀ a, PIfs3 (Xs a) ifs ut) : ∃ t, (∀ a, PIfs (Xs a) ifs t) ∧ RefT K t ut := by
  refine ⟨fun σ H Q => ∀ a, ∃ t, PIfs (Xs a) ifs t ∧ RefT K t ut ∧ t σ H Q, fun a pins s σ H Q I q => ?_, fun ρ k q R W B H σ Q e z a => ?_⟩
  · obtain ⟨t, ht, _, hq⟩ := q a
    exact ht pins s σ H Q I hq
  · obtain ⟨t, ht, hr⟩ := h a
    rw [hK a] at hr
    exact ⟨t, ht, hr, hr ρ k q R W B H σ Q e z⟩
theorem joinG {tg : Expr} {ug : UG} {α : Type} {Xs : α → Cx} (hK : ∀ a, (Xs a).K = K) (h : ∀ a, PG3 (Xs a) tg ug) : ∃ t, (∀ a, PG (Xs a) tg t) ∧ RefG K t ug := by
  refine ⟨fun v σ H Q => ∀ a, ∃ t, PG (Xs a) tg t ∧ RefG K t ug ∧ t v σ H Q, fun a pins s σ H v x Q I r q => ?_, fun d ρ k q R W B H σ v Q e r z a => ?_⟩
  · obtain ⟨t, ht, _, hq⟩ := q a
    exact ht pins s σ H v x Q I r hq
  · obtain ⟨t, ht, hr⟩ := h a
    rw [hK a] at hr
    exact ⟨t, ht, hr, hr d ρ k q R W B H σ v Q e r z⟩
variable {elt iter tg : Expr} {ifs : List Expr} {scope : Scope} {cl : List (Str × Addr)} {ts fr : List Str} {js : List Nat} {ug : UG} {ut : UT}
theorem o_compG (hi : PI3 X tg iter w) (hg : ∀ C s H ex, PG3 (compCx X (ts ++ fr) scope cl C s H ex) tg ug) (hts : ∀ C s H ex, PIfs3 (compCx X (ts ++ fr) scope cl C s H ex) ifs ut) (helt : ∀ C s H ex, PE3 (compCx X (ts ++ fr) scope cl C s H ex) elt u)
    (F : FreeOk X scope cl fr js) (hjn : js.Nodup := by decide) (hc : X.calm = true := by rfl) (hs : ∀ v, foldedSetIterable iter X.env v = pure v := by intro _; rfl) : PO3 X (.ListComp elt [⟨tg, iter, ifs, 0⟩] scope pos) (uCompG w ug ut u ts.length js) := by
  obtain ⟨_, h0, r0⟩ := hi
  obtain ⟨tg', hg', rg⟩ := joinG (K := X.K) (Xs := fun a : Addr × Shared × Hp × List Addr => compCx X (ts ++ fr) scope cl a.1 a.2.1 a.2.2.1 a.2.2.2) (fun _ => rfl) fun a => hg a.1 a.2.1 a.2.2.1 a.2.2.2
  obtain ⟨tt, ht', rt⟩ := joinI (K := X.K) (Xs := fun a : Addr × Shared × Hp × List Addr => compCx X (ts ++ fr) scope cl a.1 a.2.1 a.2.2.1 a.2.2.2) (fun _ => rfl) fun a => hts a.1 a.2.1 a.2.2.1 a.2.2.2
  obtain ⟨te, he', re⟩ := joinE (K := X.K) (Xs := fun a : Addr × Shared × Hp × List Addr => compCx X (ts ++ fr) scope cl a.1 a.2.1 a.2.2.1 a.2.2.2) (fun _ => rfl) fun a => helt a.1 a.2.1 a.2.2.1 a.2.2.2
  exact ⟨_, pe_compG h0 (fun C s H ex => hg' (C, s, H, ex)) (fun C s H ex => ht' (C, s, H, ex)) (fun C s H ex => he' (C, s, H, ex)) F hc hs, refCompG r0 rg rt re hjn⟩
/-- name = a comprehension, the name a plain local: as a list of one's own -/
theorem s_compA {i : Nat} {y : Str} {py spos : Pos} (hN : X.N.Nodup) (hiN : X.N[i]? = some y) (hy : X.env.scope.names.lookup y = some .local)
    (hi : PI3 X tg iter w) (hg : ∀ C s H ex, PG3 (compCx X (ts ++ fr) scope cl C s H ex) tg ug) (hts : ∀ C s H ex, PIfs3 (compCx X (ts ++ fr) scope cl C s H ex) ifs ut) (helt : ∀ C s H ex, PE3 (compCx X (ts ++ fr) scope cl C s H ex) elt u)
    (F : FreeOk X scope cl fr js) (hjn : js.Nodup := by decide) (hc : X.calm = true := by rfl) (hs : ∀ v, foldedSetIterable iter X.env v = pure v := by intro _; rfl)
    (hsw : swapsWith (.ListComp elt [⟨tg, iter, ifs, 0⟩] scope pos) (some (.Name y py)) spos.line X.env = pure true := by rfl) :
    PS3 X (.Assign [.Name y py] (.ListComp elt [⟨tg, iter, ifs, 0⟩] scope pos) spos) (uSetO i (uCompG w ug ut u ts.length js)) := by
  obtain ⟨_, h0, r0⟩ := hi
  obtain ⟨tg', hg', rg⟩ := joinG (K := X.K) (Xs := fun a : Addr × Shared × Hp × List Addr => compCx X (ts ++ fr) scope cl a.1 a.2.1 a.2.2.1 a.2.2.2) (fun _ => rfl) fun a => hg a.1 a.2.1 a.2.2.1 a.2.2.2
  obtain ⟨tt, ht', rt⟩ := joinI (K := X.K) (Xs := fun a : Addr × Shared × Hp × List Addr => compCx X (ts ++ fr) scope cl a.1 a.2.1 a.2.2.1 a.2.2.2) (fun _ => rfl) fun a => hts a.1 a.2.1 a.2.2.1 a.2.2.2
  obtain ⟨te, he', re⟩ := joinE (K := X.K) (Xs := fun a : Addr × Shared × Hp × List Addr => compCx X (ts ++ fr) scope cl a.1 a.2.1 a.2.2.1 a.2.2.2) (fun _ => rfl) fun a => helt a.1 a.2.1 a.2.2.1 a.2.2.2
  refine ⟨_, ps_compA hN hiN hy h0 (fun C s H ex => hg' (C, s, H, ex)) (fun C s H ex => ht' (C, s, H, ex)) (fun C s H ex => he' (C, s, H, ex)) F hc hs hsw, fun U ρ h R W B H σ D e s => ?_⟩
  exact refCompG r0 rg rt re hjn ρ _ h R W B H σ _ e fun ds a vs B1 H1 z1 e1 g1 f1 f2 f3 f4 f5 => s.nx _ _ B1 H1 z1 (e1.setO i f1 f2 f3 f4 fun j _ => f5 j) g1
/-- the own list in slot i goes over to what stays, behind a statement -/
theorem s_thenFz {st : Stmt} {s : US} (i : Nat) (h : PS3 X st s) : PS3 X st (fun U ρ => s { U with nx := fun ρ' => ∃ ds, ρ'[i]? = some (.own ds) ∧ U.nx (ρ'.set i (.val (.lst ds))) } ρ) := by
  obtain ⟨_, h1, r1⟩ := h
  refine ⟨_, h1, fun U ρ h R W B H σ D e sm => ?_⟩
  refine r1 _ ρ h R W B H σ D e ⟨fun ρ' σ' B' H' z e' g => ?_, sm.bk, sm.ct, sm.rt⟩
  obtain ⟨ds, ho, z⟩ := z
  obtain ⟨B2, e2, g2⟩ := e'.fz ho
  exact sm.nx _ σ' B2 H' z e2 (g.trans g2)
end
end L3

/-! Loops and comprehensions over lists of one kind. -/
namespace L3
open PySem L2
theorem forR_map {α : Type} {f : α → D} {s : US} {U : UEnds} {m : Nat} (I : List α → List Sl → Prop) : ∀ {rs done : List α} {ρ : List Sl}, I done ρ →
    (∀ (pre : List α) (r : α) (rest : List α) ρ, done ++ rs = pre ++ r :: rest → I pre ρ → ∀ N : List Sl → Prop, (∀ r', I (pre ++ [r]) r' → N r') → s { U with nx := N, ct := N, bk := U.nx } (ρ.set m (.val (f r)))) → (∀ ρ, I (done ++ rs) ρ → U.nx ρ) → forR (ugName m) s U (rs.map f) ρ
  | [], done, ρ, h0, _, h2 => h2 ρ (by rw [List.append_nil]; exact h0)
  | r :: rs, done, ρ, h0, h1, h2 => by
    refine h1 done r rs ρ rfl h0 _ fun r' hr => ?_
    have e : done ++ r :: rs = (done ++ [r]) ++ rs := by simp
    rw [e] at h1 h2
    exact forR_map I hr h1 h2
theorem forR_rng0 {s : US} {U : UEnds} {m : Nat} (I : Nat → List Sl → Prop) : ∀ {n i : Nat} {ρ : List Sl}, I i ρ → (∀ (j : Nat) ρ, i ≤ j → j < i + n → I j ρ → ∀ N : List Sl → Prop, (∀ r, I (j + 1) r → N r) → s { U with nx := N, ct := N, bk := U.nx } (ρ.set m (.val (.int j)))) →
    (∀ ρ, I (i + n) ρ → U.nx ρ) → forR (ugName m) s U ((List.range' i n).map fun j : Nat => D.int j) ρ
  | 0, i, ρ, h0, _, h2 => h2 ρ h0
  | n + 1, i, ρ, h0, h1, h2 => by
    show forR (ugName m) s U (D.int i :: (List.range' (i + 1) n).map fun j : Nat => D.int j) ρ
    refine h1 i ρ (Nat.le_refl _) (by omega) h0 _ fun r hr => ?_
    exact forR_rng0 I hr (fun j ρ hj hj2 => h1 j ρ (by omega) (by omega)) fun ρ h => h2 ρ (by rw [show i + (n + 1) = i + 1 + n by omega]; exact h)
theorem forR_rng {s : US} {U : UEnds} {m n : Nat} {ρ : List Sl} (I : Nat → List Sl → Prop) (h0 : I 0 ρ) (h1 : ∀ (j : Nat) ρ, j < n → I j ρ → ∀ N : List Sl → Prop, (∀ r, I (j + 1) r → N r) → s { U with nx := N, ct := N, bk := U.nx } (ρ.set m (.val (.int j))))
    (h2 : ∀ ρ, I n ρ → U.nx ρ) : forR (ugName m) s U ((List.range n).map fun j : Nat => D.int j) ρ := by
  rw [List.range_eq_range']
  exact forR_rng0 I h0 (fun j ρ _ hj => h1 j ρ (by omega)) fun ρ h => h2 ρ (by rw [Nat.zero_add] at h; exact h)
theorem compG_map {α : Type} {f h : α → D} {u : UE} {fs : List Sl} : ∀ {rs : List α} {v0 : Sl} {k : List D → Prop}, (∀ r ∈ rs, ∀ k : D → Prop, k (h r) → u (.val (f r) :: fs) k) → k (rs.map h) → compG (ugName 0) utTrue u (rs.map f) (v0 :: fs) k
  | [], v0, k, _, hk => hk
  | r :: rs, v0, k, hu, hk => by
    show (if true = true then u (.val (f r) :: fs) fun y => compG (ugName 0) utTrue u (rs.map f) (.val (f r) :: fs) fun ys => k (y :: ys) else compG (ugName 0) utTrue u (rs.map f) (.val (f r) :: fs) k)
    rw [if_pos rfl]
    exact hu r List.mem_cons_self _ (compG_map (fun q hq => hu q (List.mem_cons_of_mem _ hq)) hk)
theorem atI_map {α β : Type} {f : α → β} {rs : List α} {i : Int} {r : α} (h : atI rs i = some r) : atI (rs.map f) i = some (f r) := by
  unfold atI at h ⊢
  rw [List.length_map]
  cases q : ixN rs.length i with
  | none => rw [q] at h; cases h
  | some j =>
    rw [q] at h
    show (rs.map f)[j]? = _
    rw [List.getElem?_map, show rs[j]? = some r from h]
    rfl
theorem atI_ofNat {α : Type} {rs : List α} {i : Nat} (h : i < rs.length) : atI rs (i : Int) = some rs[i] := by
  unfold atI ixN
  rw [if_pos (by omega), if_pos (by omega)]
  show rs[((i : Int)).toNat]? = _
  rw [show ((i : Int)).toNat = i by omega, List.getElem?_eq_getElem h]
theorem cutL_drop {α : Type} {xs : List α} {i : Int} (h0 : 0 ≤ i) (h1 : i ≤ xs.length) : cutL xs (some i) none = xs.drop i.toNat := by
  unfold cutL
  have e1 : HT.sIx xs.length 0 (some i) = i.toNat := by
    unfold HT.sIx
    first | omega | (simp only []; split <;> omega) | (split <;> omega) | (dsimp only; split <;> (try split) <;> omega)
  have e2 : HT.sIx xs.length xs.length none = xs.length := rfl
  rw [e1, e2]
  exact List.take_of_length_le (by rw [List.length_drop]; omega)
theorem cutL_take {α : Type} {xs : List α} {i : Int} (h0 : 0 ≤ i) (h1 : i ≤ xs.length) : cutL xs none (some i) = xs.take i.toNat := by
  unfold cutL
  have e1 : HT.sIx xs.length xs.length (some i) = i.toNat := by
    unfold HT.sIx
    first | omega | (simp only []; split <;> omega) | (split <;> omega) | (dsimp only; split <;> (try split) <;> omega)
  have e2 : HT.sIx xs.length 0 none = 0 := rfl
  rw [e1, e2]
  rfl
end L3

namespace L3
open PySem L2
section
variable {K : PySem.W.Frag} {R : Hp} {W : Addr → Prop} {B B' H H' : Hp} {σ : St} {ρ : List Sl}
/-- behind a call that was handed a new bag -/
theorem Ev.after2 {W' : Addr → Prop} (e : Ev K R W B H σ ρ) (hW : ∀ a, W' a → R a = none ∧ ∀ i, ¬ MutAt σ ρ i a) (wd : Wd H W' B' H') (g : Grow H B B') : Ev K R W B' H' σ ρ ∧ Grow R B B' := by
  have nb : ∀ a, B a = none → H a ≠ none → B' a = none := fun a h1 h2 => by
    cases q : B' a with
    | none => rfl
    | some o =>
      rcases g.n a o q with z | z
      · rw [h1] at z; cases z
      · exact absurd z h2
  have st : ∀ a, ¬ W' a → H a ≠ none → H' a = H a := fun a h1 h2 => by
    cases q : H a with
    | none => exact absurd q h2
    | some o => exact wd.fr a o q h1
  have bagS : ∀ a, ¬ W' a → Bag H a → Bag H' a := fun a h1 ⟨x, y, e1, q⟩ => ⟨x, y, by rw [st a h1 (by rw [e1]; simp)]; exact e1, q⟩
  have bagN : ∀ a, Bag H a → H a ≠ none := fun a ⟨x, y, e1, _⟩ => by rw [e1]; simp
  have nW : ∀ a, W a → ¬ W' a := fun a h z => e.wr a h (hW a z).1
  refine ⟨e.move ⟨fun a o h nw => ?_, wd.bh, fun a h => nb a (e.wb a h) (bagN a (e.wh a h)), fun a h => bagS a (nW a h) (e.wh a h), e.wr⟩ g.s (fun i a m => ⟨nb a (e.mutOk m).1 (e.mutOk m).2, fun z => ?_, fun ⟨ds, z⟩ => ?_⟩), ⟨g.s, fun a o h => ?_⟩⟩
  · refine wd.fr a o (e.fr a o h nw) fun z => ?_
    rw [(hW a z).1] at h; cases h
  · obtain ⟨b, y1, _, _, y4⟩ := e.bagAt z
    rw [m.1] at y1; cases y1
    exact bagS _ (fun q => (hW _ q).2 i m) y4
  · exact st a (fun q => (hW a q).2 i m) (e.mutOk m).2
  · rcases g.n a o h with z | z
    · exact .inl z
    · exact .inr (e.toWd.fresh z).1
end
section
variable {X : Cx} {F : FS} {pos p : Pos} {a0 : Expr}
end
section
variable {X : Cx} {e : Expr} {u : UE} {pos p : Pos}
end
end L3

namespace L3
open PySem L2
section
variable {X : Cx} {e : Expr} {u : UE} {pos p : Pos}
/-- x.extend(e) -/
def uExt (i : Nat) (u : UE) : US := fun U ρ => ∃ ds, ρ[i]? = some (.own ds) ∧ u ρ fun d => ∃ es, d = .lst es ∧ ds.length + es.length ≤ sizeLine ∧ U.nx (ρ.set i (.own (ds ++ es)))
theorem s_ext (i : Nat) {x : Str} {px apos cpos : Pos} (he : PE3 X e u) (hN : X.N[i]? = some x := by rfl) (hv : Vis X.env.scope x := by first | exact Or.inl rfl | exact Or.inr (Or.inl rfl) | exact Or.inr (Or.inr rfl)) (hd : (x == ("__debug__" : Str)) = false := by decide)
    (hcd : (x == ("__classdict__" : Str)) = false := by decide) (hbase : attributeBase (.Name x px) "extend" X.env (eval (.Name x px) X.env) = eval (.Name x px) X.env := by rfl)
    (hfew : ((backTo cpos (starEach [e] X.env)).all (fun x => !x.1) && (backToKw cpos (keywordEach [] X.env)).all (fun x => x.1.isSome)
      && decide ([e].length + ([] : List Keyword).length + (if ([] : List Keyword).isEmpty then 0 else 1) < 30)) = true := by rfl)
    (hline : (apos.endLine == cpos.line) = true := by rfl) (hs : starEach [e] X.env = (false, eval e X.env) :: starEach [] X.env := by rfl) (hplain : (backTo cpos (starEach ([] : List Expr) X.env)).any (·.1) = false := by rfl)
    (hsw : swapsWith (.Call (.Attribute (.Name x px) "extend" apos) [e] [] cpos) none pos.line X.env = pure false := by rfl) : PS3 X (.Expr (.Call (.Attribute (.Name x px) "extend" apos) [e] [] cpos) pos) (uExt i u) := by
  obtain ⟨_, h1, r1⟩ := he
  refine ⟨_, ps_expr (pe_bm PySem.F.plainAttrs_list PySem.F.slot_list_extend PySem.F.type_list_extend mt_extend (pe_var hN hv hd hcd) (pa_cons h1 pa_nil hs) hbase hfew hline hs hplain) hsw, fun U ρ h R W B H σ D e s => ?_⟩
  obtain ⟨ds, ho, h⟩ := h
  obtain ⟨a, vs, e1, e2, e3, e4, e5⟩ := e.ownAt ho
  refine ⟨_, e1, .inl ⟨rfl, vs, SqL.of e4⟩, ?_⟩
  refine r1 ρ _ h R W B H σ _ e fun d v B1 H1 z1 f1 g1 s1 => ?_
  obtain ⟨a', vs', k1, k2, k3, k4, k5⟩ := f1.ownAt ho
  rw [e1] at k1; cases k1
  obtain ⟨es, rfl, hl, z⟩ := z1
  obtain ⟨b, ws, rfl, hb, rt⟩ := s1.lstV
  exact ⟨a, b, vs', ws, rfl, rfl, k4, f1.bh _ _ hb, by rw [k5.length, rt.length]; exact hl, s.nx _ _ B1 _ z (f1.write e1 ho (k5.append rt)) g1⟩
end
section
variable {K : PySem.W.Frag}
end
end L3

namespace Cut
open PySem L2 L3
open PySem.Builtin.Int (intBits)
def dP (p : Int × Int × Int) : D := .tup [.int p.1, .int p.2.1, .int p.2.2]
def g3 (a b n : Int) : Int := ((Int.gcd (Int.gcd a n : Nat) b : Nat) : Int)
def gsp (a b n : Int) : Int := if n < 0 then -g3 a b n else g3 a b n
def npt (a b n : Int) : Int × Int × Int := (a.fdiv (gsp a b n), b.fdiv (gsp a b n), n.fdiv (gsp a b n))
theorem npt_spec {a b n : Int} (hn : n ≠ 0) : Pt (npt a b n).1 (npt a b n).2.1 (npt a b n).2.2 ∧ (npt a b n).1 * n = a * (npt a b n).2.2 ∧ (npt a b n).2.1 * n = b * (npt a b n).2.2 ∧ (npt a b n).1.natAbs ≤ a.natAbs ∧ (npt a b n).2.1.natAbs ≤ b.natAbs ∧ (npt a b n).2.2.natAbs ≤ n.natAbs := by
  unfold npt gsp
  split
  · exact pt_of hn rfl (.inr ⟨rfl, by assumption⟩)
  · exact pt_of hn rfl (.inl ⟨rfl, by omega⟩)
theorem g3_xy (a b n : Int) : ((Int.gcd (Int.gcd a b : Nat) n : Nat) : Int) = g3 a b n := by
  unfold g3
  rw [gcd3]
  rfl
theorem g3_na (a b n : Int) : ((Int.gcd (Int.gcd n a : Nat) b : Nat) : Int) = g3 a b n := by
  unfold g3
  rw [gcd3n]
theorem g3_pos {a b n : Int} (hn : n ≠ 0) : 0 < g3 a b n := gcd3_pos hn
theorem g3_bits {a b n : Int} {k : Nat} (hn : n ≠ 0) (h : intBits n ≤ k) : intBits (g3 a b n) ≤ k := gcd3_bits hn h
theorem bits30 {x : Int} (h0 : -(10 ^ 30) < x) (h1 : x < 10 ^ 30) : intBits x ≤ 100 := by
  refine intBits_le_iff.mpr ?_
  have e30 : (10 : Int) ^ 30 = 1000000000000000000000000000000 := rfl
  have e100 : (2 : Nat) ^ 100 = 1267650600228229401496703205376 := rfl
  rw [e30] at h0 h1
  rw [e100]
  omega
end Cut

namespace Cut
open PySem L2 L3
open PySem.Builtin.Int (intBits)
end Cut
namespace Cut
open PySem L2 L3
open PySem.Builtin.Int (intBits)
end Cut

namespace Cut
open PySem L2 L3
open PySem.Builtin.Int (intBits)
abbrev P3 := Int × Int × Int
def crs (p q : P3) : P3 := (p.2.1 * q.2.2 - p.2.2 * q.2.1, p.2.2 * q.1 - p.1 * q.2.2, p.1 * q.2.1 - p.2.1 * q.1)
def sc (c : Int) (p : P3) : P3 := (c * p.1, c * p.2.1, c * p.2.2)
def lc (a : Int) (p : P3) (b : Int) (q : P3) : P3 := (a * p.1 + b * q.1, a * p.2.1 + b * q.2.1, a * p.2.2 + b * q.2.2)
def nP (p : P3) : P3 := npt p.1 p.2.1 p.2.2
theorem p3_ext {p q : P3} (h1 : p.1 = q.1) (h2 : p.2.1 = q.2.1) (h3 : p.2.2 = q.2.2) : p = q := Prod.ext h1 (Prod.ext h2 h3)
theorem sc_out {c d : Int} {p q : P3} (h : sc c p = sc d q) : c * p.1 = d * q.1 ∧ c * p.2.1 = d * q.2.1 ∧ c * p.2.2 = d * q.2.2 :=
  ⟨congrArg (·.1) h, congrArg (·.2.1) h, congrArg (·.2.2) h⟩
theorem crs_sc (c d : Int) (p q : P3) : crs (sc c p) (sc d q) = sc (c * d) (crs p q) := by
  refine p3_ext ?_ ?_ ?_ <;> simp only [crs, sc] <;> grind
theorem sc_sc (c d : Int) (p : P3) : sc c (sc d p) = sc (c * d) p := by
  refine p3_ext ?_ ?_ ?_ <;> simp only [sc] <;> grind
theorem nP_sc {p : P3} (hn : p.2.2 ≠ 0) : ∃ g, g ≠ 0 ∧ p = sc g (nP p) := by
  obtain ⟨pt, e1, e2, _⟩ := npt_spec (a := p.1) (b := p.2.1) hn
  have z0 : (nP p).2.2 ≠ 0 := Int.ne_of_gt pt.1
  obtain ⟨g, hg⟩ := pt_dvd pt.2 e1 e2
  have g0 : g ≠ 0 := fun z => hn (by rw [hg, z, Int.mul_zero])
  refine ⟨g, g0, p3_ext ?_ ?_ ?_⟩
  · refine Int.eq_of_mul_eq_mul_right z0 ?_
    show p.1 * (npt p.1 p.2.1 p.2.2).2.2 = g * (npt p.1 p.2.1 p.2.2).1 * (npt p.1 p.2.1 p.2.2).2.2
    rw [← e1]
    grind
  · refine Int.eq_of_mul_eq_mul_right z0 ?_
    show p.2.1 * (npt p.1 p.2.1 p.2.2).2.2 = g * (npt p.1 p.2.1 p.2.2).2.1 * (npt p.1 p.2.1 p.2.2).2.2
    rw [← e2]
    grind
  · show p.2.2 = g * (npt p.1 p.2.1 p.2.2).2.2
    rw [Int.mul_comm]
    exact hg
abbrev PtP (p : P3) : Prop := Pt p.1 p.2.1 p.2.2
theorem nP_pt {p : P3} (hn : p.2.2 ≠ 0) : PtP (nP p) := (npt_spec hn).1
theorem nP_of_sc {M h : P3} {G c : Int} (hG : G ≠ 0) (hc : c ≠ 0) (hp : PtP h) (e : sc G M = sc c h) : M.2.2 ≠ 0 ∧ nP M = h := by
  obtain ⟨e1, e2, e3⟩ := sc_out e
  have h0 : h.2.2 ≠ 0 := Int.ne_of_gt hp.1
  have m0 : M.2.2 ≠ 0 := fun z => by
    rw [z, Int.mul_zero] at e3
    exact Int.mul_ne_zero hc h0 e3.symm
  refine ⟨m0, ?_⟩
  obtain ⟨pt, f1, f2, _⟩ := npt_spec (a := M.1) (b := M.2.1) m0
  have k1 : M.1 * h.2.2 = h.1 * M.2.2 := Int.eq_of_mul_eq_mul_left (Int.mul_ne_zero hG hc) (by grind)
  have k2 : M.2.1 * h.2.2 = h.2.1 * M.2.2 := Int.eq_of_mul_eq_mul_left (Int.mul_ne_zero hG hc) (by grind)
  obtain ⟨q1, q2, q3⟩ := pt_uniq pt hp (Int.eq_of_mul_eq_mul_right m0 (by grind)) (Int.eq_of_mul_eq_mul_right m0 (by grind))
  exact p3_ext q1 q2 q3
theorem nP_self {h : P3} (hp : PtP h) : nP h = h := (nP_of_sc (M := h) (h := h) (G := 1) (c := 1) (by decide) (by decide) hp rfl).2
/-- sizes -/
structure BP (m : Nat) (p : P3) : Prop where
  a : intBits p.1 ≤ m
  b : intBits p.2.1 ≤ m
  c : intBits p.2.2 ≤ m
theorem BP.mono {m n : Nat} {p : P3} (h : BP m p) (l : m ≤ n) : BP n p := ⟨Nat.le_trans h.a l, Nat.le_trans h.b l, Nat.le_trans h.c l⟩
theorem BP.nP {m : Nat} {p : P3} (h : BP m p) (hn : p.2.2 ≠ 0) : BP m (Cut.nP p) := by
  obtain ⟨_, _, _, c1, c2, c3⟩ := npt_spec (a := p.1) (b := p.2.1) hn
  exact ⟨bits_of_abs c1 h.a, bits_of_abs c2 h.b, bits_of_abs c3 h.c⟩
theorem BP.crs {m n : Nat} {p q : P3} (hp : BP m p) (hq : BP n q) : BP (m + n + 1) (Cut.crs p q) := by
  have e : ∀ {x y u v : Int}, intBits x ≤ m → intBits y ≤ n → intBits u ≤ m → intBits v ≤ n → intBits (x * y - u * v) ≤ m + n + 1 := fun a b c d => Nat.le_trans (intBits_sub_le (intBits_mul_le a b) (intBits_mul_le c d)) (by omega)
  exact ⟨e hp.b hq.c hp.c hq.b, e hp.c hq.a hp.a hq.c, e hp.a hq.b hp.b hq.a⟩
end Cut

/-! list(zip(a, b)): zip keeps its tuple no more once one of them is held. -/
namespace PySem
open Sem (wp)
abbrev IsZ (h : Heap) (z TI TO : Addr) (f0 f1 : Value) : Prop :=
  h.get? z = some { cls := .type "zip", dict := none, data := .fields #[f0, f1, .bool false, .ref TI, .ref TO], slots := #[] }
section
variable {prog : Program} {w : World} {A : Around} {E : Value → Shared → Prop} {s : Shared}
theorem wpAny_alive {a : Addr} {Q : Option Obj → Shared → Prop} (h : Q (s.heap.get? a) s) : wpAny (model prog w) A (loadIfAlive a) Q E s := fun _ _ _ => h
theorem zip_notFree {z TI TO T : Addr} {b : Bool} {oT : Obj} {Q : Bool → Shared → Prop} (hz : IsZ s.heap z TI TO (rawInt T) (.bool b)) (hT : s.heap.get? T = some oT)
    (hQ : ∀ h', IsZ h' z TI TO (rawInt T) (.bool true) → Heap.SameBut z s.heap h' → Q false { s with heap := h' }) : wpAny (model prog w) A (Builtin.SmallTypes.ownedTupleIsFree (.ref z)) Q E s := by
  unfold Builtin.SmallTypes.ownedTupleIsFree
  refine wpAny_bind (wpAny_field hz rfl (x := rawInt T) rfl ?_)
  show wpAny _ _ (loadIfAlive ((T : Int).toNat) >>= _) _ _ _
  rw [Int.toNat_natCast]
  refine wpAny_bind (wpAny_alive ?_)
  rw [hT]
  show wpAny _ _ (field (.ref z) 1 >>= _) _ _ _
  refine wpAny_bind (wpAny_field hz rfl (x := .bool b) rfl ?_)
  cases b with
  | true =>
    show wpAny _ _ (pure false) _ _ _
    exact wpAny_pure (hQ s.heap hz ⟨rfl, fun _ _ => rfl⟩)
  | false =>
    show wpAny _ _ (setField (.ref z) 1 (.bool true) >>= fun _ => pure false) _ _ _
    exact wpAny_bind (wpAny_setField_rec hz (by simp) fun h' hz' hs' => wpAny_pure (hQ h' hz' hs'))
theorem zip_next_item2 {z TI TO i1 i2 l1 l2 T : Addr} {f1 : Bool} {oT : Obj} {k1 k2 : Nat} {xs ys : Array Value} {x y : Value} {Q : Value → Shared → Prop} (D : ZipApart z TI TO i1 i2 l1 l2)
    (hz : IsZ s.heap z TI TO (rawInt T) (.bool f1)) (hT : s.heap.get? T = some oT) (hTI : IsPair s.heap TI (.ref i1) (.ref i2))
    (h1 : s.heap.IsListIter i1 l1 k1) (h2 : s.heap.IsListIter i2 l2 k2) (hl1 : s.heap.IsList l1 xs) (hl2 : s.heap.IsList l2 ys) (hx : xs[k1]? = some x) (hy : ys[k2]? = some y)
    (hQ : ∀ h', IsZ h' z TI TO (rawInt T) (.bool true) → h'.IsListIter i1 l1 (k1 + 1) → h'.IsListIter i2 l2 (k2 + 1) → IsPair h' s.heap.objs.size x y → h'.objs.size = s.heap.objs.size + 1 →
      (∀ c o, c ≠ z → c ≠ i1 → c ≠ i2 → s.heap.get? c = some o → h'.get? c = some o) → Q (.ref s.heap.objs.size) { s with heap := h' }) :
    wpAny (model prog w) A (Builtin.«zip.__next__» ⟨[.ref z], []⟩) (fun fin s' => ∃ v, fin = .done (.ret v) ∧ Q v s') E s := by
  show wpAny _ _ (field (.ref z) 2 >>= _) _ _ _
  refine wpAny_bind (wpAny_field hz rfl (x := .bool false) rfl ?_)
  show wpAny _ _ (field (.ref z) 3 >>= _) _ _ _
  refine wpAny_bind (wpAny_field hz rfl (x := .ref TI) rfl ?_)
  refine wpAny_bind (wpAny_seqItems hTI rfl ?_)
  show wpAny _ _ (Builtin.SmallTypes.ownedTupleIsFree (.ref z) >>= _) _ _ _
  refine wpAny_bind (zip_notFree hz hT fun h₁ hz₁ hs₁ => ?_)
  simp only [Bool.false_eq_true, if_false]
  refine wpAny_bind ?_
  simp only [← Array.forIn_toList, List.forIn_cons, List.forIn_nil]
  refine wpAny_bind (wpAny_bind (wpAny_holding ?_))
  show wpAny _ _ (Builtin.SmallTypes.nextOf (.ref i1) >>= _) _ _ _
  refine wpAny_bind (wpAny_nextOf_list_item (h1.extBut hs₁.extBut D.i1z) (hl1.extBut hs₁.extBut D.l1z) hx fun h₂ h1₂ hs₂ => wpAny_pure ?_)
  refine wpAny_pure ?_
  refine wpAny_bind (wpAny_bind (wpAny_holding ?_))
  show wpAny _ _ (Builtin.SmallTypes.nextOf (.ref i2) >>= _) _ _ _
  refine wpAny_bind (wpAny_nextOf_list_item ((h2.extBut hs₁.extBut D.i2z).extBut hs₂.extBut D.i12.symm) ((hl2.extBut hs₁.extBut D.l2z).extBut hs₂.extBut D.l2i1) hy fun h₃ h2₃ hs₃ => wpAny_pure ?_)
  refine wpAny_pure (wpAny_pure ?_)
  refine wpAny_bind (wpAny_newTuple (hsz := by show 2 ≤ sizeLine; decide) ?_)
  have hsz : h₃.objs.size = s.heap.objs.size := by rw [hs₃.1, hs₂.1, hs₁.1]
  have hz₃ : IsZ h₃ z TI TO (rawInt T) (.bool true) := hs₃.extBut _ _ D.i2z.symm (hs₂.extBut _ _ D.i1z.symm hz₁)
  have hk₃ : ∀ c o, c ≠ z → c ≠ i1 → c ≠ i2 → s.heap.get? c = some o → h₃.get? c = some o := fun c o c1 c3 c4 e => hs₃.extBut _ _ c4 (hs₂.extBut _ _ c3 (hs₁.extBut _ _ c1 e))
  have h1₃ : h₃.IsListIter i1 l1 (k1 + 1) := h1₂.extBut hs₃.extBut D.i12
  refine wpAny_pure ⟨_, rfl, ?_⟩
  show Q (.ref h₃.objs.size) _
  rw [hsz]
  refine hQ _ (Heap.get?_push_of_some _ hz₃) (h1₃.at fun o e => Heap.get?_push_of_some _ e) (h2₃.at fun o e => Heap.get?_push_of_some _ e) ?_ (by rw [Heap.size_push, hsz]) fun c o c1 c2 c3 e => Heap.get?_push_of_some _ (hk₃ c o c1 c2 c3 e)
  have := Heap.get?_push_size h₃ (o := { cls := .type "tuple", data := .seq #[x, y] }) rfl
  rw [hsz] at this
  exact this
theorem zip_next_end2 {z TI TO i1 i2 l1 l2 T : Addr} {f1 : Bool} {oT : Obj} {k1 k2 : Nat} {xs ys : Array Value} {Q : Fin → Shared → Prop} (hh : A.handled = none) (D : ZipApart z TI TO i1 i2 l1 l2)
    (hz : IsZ s.heap z TI TO (rawInt T) (.bool f1)) (hT : s.heap.get? T = some oT) (hTI : IsPair s.heap TI (.ref i1) (.ref i2))
    (h1 : s.heap.IsListIter i1 l1 k1) (h2 : s.heap.IsListIter i2 l2 k2) (hl1 : s.heap.IsList l1 xs) (hl2 : s.heap.IsList l2 ys) (hend : xs[k1]? = none ∨ ys[k2]? = none)
    (hE : ∀ h' e, (∀ c o, c ≠ z → c ≠ i1 → c ≠ i2 → s.heap.get? c = some o → h'.get? c = some o) → (∃ o, h'.get? e = some o ∧ o.cls = .type "StopIteration") → E (.ref e) { s with heap := h' }) :
    wpAny (model prog w) A (Builtin.«zip.__next__» ⟨[.ref z], []⟩) Q E s := by
  show wpAny _ _ (field (.ref z) 2 >>= _) _ _ _
  refine wpAny_bind (wpAny_field hz rfl (x := .bool false) rfl ?_)
  show wpAny _ _ (field (.ref z) 3 >>= _) _ _ _
  refine wpAny_bind (wpAny_field hz rfl (x := .ref TI) rfl ?_)
  refine wpAny_bind (wpAny_seqItems hTI rfl ?_)
  show wpAny _ _ (Builtin.SmallTypes.ownedTupleIsFree (.ref z) >>= _) _ _ _
  refine wpAny_bind (zip_notFree hz hT fun h₁ hz₁ hs₁ => ?_)
  simp only [Bool.false_eq_true, if_false]
  refine wpAny_bind ?_
  simp only [← Array.forIn_toList, List.forIn_cons, List.forIn_nil]
  refine wpAny_bind (wpAny_bind (wpAny_holding ?_))
  show wpAny _ _ (Builtin.SmallTypes.nextOf (.ref i1) >>= _) _ _ _
  cases hx : xs[k1]? with
  | none =>
    exact wpAny_bind (wpAny_nextOf_list_end hh (h1.extBut hs₁.extBut D.i1z) (hl1.extBut hs₁.extBut D.l1z) hx fun h₂ e hs₂ he => hE h₂ e (fun c o c1 c3 _ x => hs₂ _ _ c3 (hs₁.extBut _ _ c1 x)) he)
  | some x =>
    have hy : ys[k2]? = none := by rcases hend with h | h; rw [hx] at h; cases h; exact h
    refine wpAny_bind (wpAny_nextOf_list_item (h1.extBut hs₁.extBut D.i1z) (hl1.extBut hs₁.extBut D.l1z) hx fun h₂ h1₂ hs₂ => wpAny_pure ?_)
    refine wpAny_pure ?_
    refine wpAny_bind (wpAny_bind (wpAny_holding ?_))
    show wpAny _ _ (Builtin.SmallTypes.nextOf (.ref i2) >>= _) _ _ _
    exact wpAny_bind (wpAny_nextOf_list_end hh ((h2.extBut hs₁.extBut D.i2z).extBut hs₂.extBut D.i12.symm) ((hl2.extBut hs₁.extBut D.l2z).extBut hs₂.extBut D.l2i1) hy fun h₄ e hs₄ he => hE h₄ e (fun c o c1 c3 c4 x => hs₄ _ _ c4 (hs₂.extBut _ _ c3 (hs₁.extBut _ _ c1 x))) he)
/-- zip amid a walk -/
structure ZSt (S z TI TO i1 i2 l1 l2 : Addr) (xs ys : Array Value) (i : Nat) (h : Heap) : Prop where
  fl : (IsZ h z TI TO .none (.bool false) ∧ ∃ a b, IsPair h TO a b) ∨ ∃ (T : Addr) (b : Bool) (oT : Obj), IsZ h z TI TO (rawInt T) (.bool b) ∧ h.get? T = some oT ∧ T ≠ z ∧ T ≠ i1 ∧ T ≠ i2 ∧ T ≠ S
  tp : IsPair h TI (.ref i1) (.ref i2)
  it1 : h.IsListIter i1 l1 i
  it2 : h.IsListIter i2 l2 i
  ls1 : h.IsList l1 xs
  ls2 : h.IsList l2 ys
theorem ZSt.frame {S z TI TO i1 i2 l1 l2 : Addr} {xs ys : Array Value} {i : Nat} {h h' : Heap} (Z : ZSt S z TI TO i1 i2 l1 l2 xs ys i h) (nS : S ∉ [z, TI, TO, i1, i2, l1, l2]) (k : ∀ c o, c ≠ S → h.get? c = some o → h'.get? c = some o) : ZSt S z TI TO i1 i2 l1 l2 xs ys i h' := by
  have ne : ∀ c, c ∈ [z, TI, TO, i1, i2, l1, l2] → c ≠ S := fun c hc e => nS (e ▸ hc)
  refine ⟨?_, k _ _ (ne _ (by simp)) Z.tp, Z.it1.at fun o e => k _ o (ne _ (by simp)) e, Z.it2.at fun o e => k _ o (ne _ (by simp)) e, Z.ls1.at fun o e => k _ o (ne _ (by simp)) e, Z.ls2.at fun o e => k _ o (ne _ (by simp)) e⟩
  rcases Z.fl with ⟨h1, a, b, h2⟩ | ⟨T, b, oT, h1, h2, h3, h4, h5, h6⟩
  · exact .inl ⟨k _ _ (ne _ (by simp)) h1, a, b, k _ _ (ne _ (by simp)) h2⟩
  · exact .inr ⟨T, b, oT, k _ _ (ne _ (by simp)) h1, k _ _ h6 h2, h3, h4, h5, h6⟩
theorem zip_step {S z TI TO i1 i2 l1 l2 : Addr} {xs ys : Array Value} {i : Nat} {x y : Value} {Q : Option Value → Shared → Prop} (D : ZipApart z TI TO i1 i2 l1 l2) (Z : ZSt S z TI TO i1 i2 l1 l2 xs ys i s.heap) (hS : S < s.heap.objs.size) (hx : xs[i]? = some x) (hy : ys[i]? = some y)
    (hQ : ∀ h', ZSt S z TI TO i1 i2 l1 l2 xs ys (i + 1) h' → IsPair h' s.heap.objs.size x y → h'.objs.size = s.heap.objs.size + 1 → (∀ c o, c ≠ z → c ≠ TO → c ≠ i1 → c ≠ i2 → s.heap.get? c = some o → h'.get? c = some o) → Q (some (.ref s.heap.objs.size)) { s with heap := h' }) :
    wpAny (model prog w) A (pyNext (.ref z)) Q E s := by
  have lt1 : i1 < s.heap.objs.size := by obtain ⟨_, e, _⟩ := Z.it1; exact Heap.lt_size e
  have lt2 : i2 < s.heap.objs.size := by obtain ⟨_, e, _⟩ := Z.it2; exact Heap.lt_size e
  rcases Z.fl with ⟨hz, a, b, hTO⟩ | ⟨T, b, oT, hz, hT, t1, t2, t3, t4⟩
  · have ltz : z < s.heap.objs.size := Heap.lt_size hz
    refine wpAny_pyNext_zip_item D hz Z.tp hTO Z.it1 Z.it2 Z.ls1 Z.ls2 hx hy fun h' a1 a2 a3 a4 a5 a6 hk => ?_
    exact hQ h' ⟨.inr ⟨_, false, _, a1, a5, Nat.ne_of_gt ltz, Nat.ne_of_gt lt1, Nat.ne_of_gt lt2, Nat.ne_of_gt hS⟩, hk _ _ D.TIz D.TITO D.TIi1 D.TIi2 Z.tp, a3, a4, Z.ls1.at fun o e => hk _ o D.l1z D.l1TO D.l1i1 D.l1i2 e, Z.ls2.at fun o e => hk _ o D.l2z D.l2TO D.l2i1 D.l2i2 e⟩ a5 a6 hk
  · have hTy : s.TypeIs (.ref z) "zip" := ⟨_, hz, rfl⟩
    unfold pyNext
    refine wpAny_bind (wpAny_attempt (wpAny_callSpecial?_slot (name := Str.ofString "__next__") hTy F.slot_zip_next
      (wpAny_call_entry F.slot_zip_next hTy F.entry_zip_next
        (zip_next_item2 D hz hT Z.tp Z.it1 Z.it2 Z.ls1 Z.ls2 hx hy fun h' a1 a3 a4 a5 a6 hk => wpAny_pure ?_) (F.args_zip_next_1 _))))
    exact hQ h' ⟨.inr ⟨T, true, oT, a1, hk _ _ t1 t2 t3 hT, t1, t2, t3, t4⟩, hk _ _ D.TIz D.TIi1 D.TIi2 Z.tp, a3, a4, Z.ls1.at fun o e => hk _ o D.l1z D.l1i1 D.l1i2 e, Z.ls2.at fun o e => hk _ o D.l2z D.l2i1 D.l2i2 e⟩ a5 a6 fun c o c1 _ c3 c4 e => hk c o c1 c3 c4 e
theorem zip_stop {S z TI TO i1 i2 l1 l2 : Addr} {xs ys : Array Value} {i : Nat} {Q : Option Value → Shared → Prop} (hh : A.handled = none) (D : ZipApart z TI TO i1 i2 l1 l2) (Z : ZSt S z TI TO i1 i2 l1 l2 xs ys i s.heap) (hend : xs[i]? = none ∨ ys[i]? = none)
    (hQ : ∀ h', (∀ c o, c ≠ z → c ≠ TO → c ≠ i1 → c ≠ i2 → s.heap.get? c = some o → h'.get? c = some o) → Q none { s with heap := h' }) :
    wpAny (model prog w) A (pyNext (.ref z)) Q E s := by
  rcases Z.fl with ⟨hz, a, b, hTO⟩ | ⟨T, b, oT, hz, hT, t1, t2, t3, t4⟩
  · exact wpAny_pyNext_zip_end hh D hz Z.tp hTO Z.it1 Z.it2 Z.ls1 Z.ls2 hend hQ
  · have hTy : s.TypeIs (.ref z) "zip" := ⟨_, hz, rfl⟩
    unfold pyNext
    refine wpAny_bind (wpAny_attempt (wpAny_callSpecial?_slot (name := Str.ofString "__next__") hTy F.slot_zip_next
      (wpAny_call_entry F.slot_zip_next hTy F.entry_zip_next (zip_next_end2 hh D hz hT Z.tp Z.it1 Z.it2 Z.ls1 Z.ls2 hend fun h' e hk he => ?_) (F.args_zip_next_1 _))))
    obtain ⟨o, ho, hc⟩ := he
    refine wpAny_bind (wpAny_isInstance (T := "StopIteration") (b := true) ⟨o, ho, hc⟩ isSubtype_stop ?_)
    exact wpAny_pure (hQ _ fun c o c1 _ c3 c4 e => hk c o c1 c3 c4 e)
end
/-- the tuples told so far -/
structure Got (lo : Nat) (av : List Addr) (xs ys : Array Value) (h : Heap) (ts : List Addr) : Prop where
  nd : ts.Nodup
  new : ∀ t ∈ ts, lo ≤ t ∧ t ∉ av
  pair : ∀ (j : Nat) (t : Addr), ts[j]? = some t → ∃ x y, xs[j]? = some x ∧ ys[j]? = some y ∧ IsPair h t x y
theorem Got.frame {lo : Nat} {av : List Addr} {xs ys : Array Value} {h h' : Heap} {ts : List Addr} (g : Got lo av xs ys h ts) (k : ∀ c o, c ∉ av → h.get? c = some o → h'.get? c = some o) : Got lo av xs ys h' ts :=
  ⟨g.nd, g.new, fun j t e => let ⟨x, y, h1, h2, h3⟩ := g.pair j t e; ⟨x, y, h1, h2, k t _ (g.new t (List.mem_of_getElem? e)).2 h3⟩⟩
section
variable {prog : Program} {w : World} {A : Around} {R : Result → Shared → Prop}
theorem zip_loop {S z TI TO i1 i2 l1 l2 : Addr} {xs ys : Array Value} {lo n : Nat} (hh : A.in1.handled = none) (D : ZipApart z TI TO i1 i2 l1 l2) (nS : S ∉ [z, TI, TO, i1, i2, l1, l2]) (hn : n ≤ sizeLine) (en : n = min xs.size ys.size) (hav : ∀ a ∈ [z, TO, i1, i2, S], a < lo) (res : Value) :
    ∀ (k i : Nat) (s : Shared) (ts : List Addr) (c : Nat), n - i = k → i ≤ n → lo ≤ s.heap.objs.size → ZSt S z TI TO i1 i2 l1 l2 xs ys i s.heap → s.heap.get? S = some { cls := .type "list", dict := none, data := .seq (ts.map Value.ref).toArray c, slots := #[] } → ts.length = i → Got lo [z, TO, i1, i2, S] xs ys s.heap ts →
    (∀ h' ts' c', h'.get? S = some { cls := .type "list", dict := none, data := .seq (ts'.map Value.ref).toArray c', slots := #[] } → ts'.length = n → Got lo [z, TO, i1, i2, S] xs ys h' ts' → (∀ c o, c ∉ [z, TO, i1, i2, S] → s.heap.get? c = some o → h'.get? c = some o) → R (.ok (.ret res)) { s with heap := h' }) →
    codeAny (model prog w) A (.builtin "list.extend.loop" ⟨[.ref S, .ref z, res], []⟩) R s := by
  intro k
  induction k with
  | zero =>
    intro i s ts c hk hi hlo hst hS hl hg hR
    have hin : i = n := by omega
    subst hin
    refine codeAny_builtin F.entry_extend_loop ?_
    rw [Around.under_plainId F.plain_extend_loop _]
    show wpAny _ A.in1 (pyNext (.ref z) >>= _) _ _ s
    refine wpAny_bind (zip_stop hh D hst ?_ fun h' hk' => ?_)
    · rcases Nat.le_total xs.size ys.size with h | h
      · exact .inl (Array.getElem?_eq_none (by omega))
      · exact .inr (Array.getElem?_eq_none (by omega))
    have k2 : ∀ c o, c ∉ [z, TO, i1, i2, S] → s.heap.get? c = some o → h'.get? c = some o := fun c o hc e => hk' c o (fun h => hc (by simp [h])) (fun h => hc (by simp [h])) (fun h => hc (by simp [h])) (fun h => hc (by simp [h])) e
    exact wpAny_pure (hR h' ts c (hk' S _ (fun h => nS (by simp [h])) (fun h => nS (by simp [h])) (fun h => nS (by simp [h])) (fun h => nS (by simp [h])) hS) hl (hg.frame k2) k2)
  | succ k ih =>
    intro i s ts c hk hi hlo hst hS hl hg hR
    have hlt : i < n := by omega
    refine codeAny_builtin F.entry_extend_loop ?_
    rw [Around.under_plainId F.plain_extend_loop _]
    show wpAny _ A.in1 (pyNext (.ref z) >>= _) _ _ s
    have hx : xs[i]? = some xs[i] := Array.getElem?_eq_getElem (by omega)
    have hy : ys[i]? = some ys[i] := Array.getElem?_eq_getElem (by omega)
    refine wpAny_bind (zip_step D hst (Heap.lt_size hS) hx hy fun h' Z' pr sz hk' => ?_)
    have hS' : h'.get? S = _ := hk' S _ (fun h => nS (by simp [h])) (fun h => nS (by simp [h])) (fun h => nS (by simp [h])) (fun h => nS (by simp [h])) hS
    have k2 : ∀ c o, c ∉ [z, TO, i1, i2, S] → s.heap.get? c = some o → h'.get? c = some o := fun c o hc e => hk' c o (fun h => hc (by simp [h])) (fun h => hc (by simp [h])) (fun h => hc (by simp [h])) (fun h => hc (by simp [h])) e
    have ltS : S < s.heap.objs.size := Heap.lt_size hS
    have nav : s.heap.objs.size ∉ [z, TO, i1, i2, S] := fun hm => by
      exact absurd (hav _ hm) (Nat.not_lt.mpr hlo)
    show wpAny _ A.in1 (updateSeq S (·.push (.ref s.heap.objs.size)) >>= _) _ _ _
    refine wpAny_bind ?_
    have sz1 : (ts.map Value.ref).toArray.size = i := by simp [hl]
    have sb : Heap.SameBut S h' (h'.update S (Obj.mapSeq (·.push (Value.ref s.heap.objs.size)))) := Heap.SameBut.update ..
    have e1 : (ts.map Value.ref).toArray.push (.ref s.heap.objs.size) = ((ts ++ [s.heap.objs.size]).map Value.ref).toArray := by simp
    have hS₂ := Heap.get?_update_self (Obj.mapSeq (·.push (Value.ref s.heap.objs.size))) hS' rfl
    replace hS₂ : (h'.update S (Obj.mapSeq (·.push (Value.ref s.heap.objs.size)))).get? S = some { cls := .type "list", dict := none, data := .seq ((ts.map Value.ref).toArray.push (.ref s.heap.objs.size)) _, slots := #[] } := hS₂
    rw [e1] at hS₂
    refine wpAny_updateSeq hS' rfl (wpAny_pure ⟨plainId_quiet F.plain_extend_loop _, ih (i + 1) _ (ts ++ [s.heap.objs.size]) _ (by omega) hlt ?_ (Z'.frame nS fun c o hc e => ?_) hS₂ (by simp [hl]) ?_ fun h'' ts' c' q1 q2 q3 q4 => ?_⟩)
      (by rw [sz1]; omega) (by show (Array.push _ _).size ≤ sizeLine + 1; rw [Array.size_push, sz1]; omega)
    · show lo ≤ (h'.update S (Obj.mapSeq (·.push (Value.ref s.heap.objs.size)))).objs.size
      rw [sb.1, sz]
      omega
    · exact sb.extBut _ _ hc e
    · refine Got.frame (h := h') ⟨?_, fun t ht => ?_, fun j t hj => ?_⟩ fun c o hc e => sb.extBut _ _ (fun h => hc (by simp [h])) e
      · refine List.nodup_append.mpr ⟨hg.nd, by simp, fun a ha b hb e => ?_⟩
        have hb : b = s.heap.objs.size := by simpa using hb
        subst hb e
        obtain ⟨j, hj⟩ := List.getElem?_of_mem ha
        obtain ⟨_, _, _, _, q⟩ := hg.pair j _ hj
        exact Nat.lt_irrefl _ (Heap.lt_size q)
      · rcases List.mem_append.mp ht with ht | ht
        · exact hg.new t ht
        · have : t = s.heap.objs.size := by simpa using ht
          subst this
          exact ⟨hlo, nav⟩
      · rcases Nat.lt_or_ge j ts.length with hjl | hjl
        · rw [List.getElem?_append_left hjl] at hj
          obtain ⟨x, y, q1, q2, q3⟩ := hg.pair j t hj
          exact ⟨x, y, q1, q2, k2 _ _ (hg.new t (List.mem_of_getElem? hj)).2 q3⟩
        · rw [List.getElem?_append_right hjl] at hj
          have jl : j - ts.length = 0 := by
            rcases Nat.eq_zero_or_pos (j - ts.length) with z | z
            · exact z
            · rw [List.getElem?_eq_none (by show 1 ≤ _; omega)] at hj; cases hj
          rw [jl] at hj
          have ej : j = i := by omega
          subst ej
          cases hj
          exact ⟨_, _, hx, hy, pr⟩
    · exact hR h'' ts' c' q1 q2 q3 fun c o hc e => q4 c o hc (sb.extBut _ _ (fun h => hc (by simp [h])) (k2 c o hc e))
theorem zip_no_len : typeLookup (.type "zip") "__len__" = pure none := by rw [typeLookup_type, builtinLookup_eq_fast]; kernel_rfl
theorem zip_no_hint : typeLookup (.type "zip") "__length_hint__" = pure none := by rw [typeLookup_type, builtinLookup_eq_fast]; kernel_rfl
theorem list_init_zip {s : Shared} {S z TI TO i1 i2 l1 l2 : Addr} {xs ys : Array Value} {lo n : Nat} (hh : A.in1.handled = none) (D : ZipApart z TI TO i1 i2 l1 l2) (nS : S ∉ [z, TI, TO, i1, i2, l1, l2]) (hn : n ≤ sizeLine) (en : n = min xs.size ys.size) (hav : ∀ a ∈ [z, TO, i1, i2, S], a < lo)
    (hlo : lo ≤ s.heap.objs.size) (Z : ZSt S z TI TO i1 i2 l1 l2 xs ys 0 s.heap) (hz0 : IsZ s.heap z TI TO .none (.bool false)) (hS : s.heap.get? S = some { cls := .type "list", data := .seq #[] })
    (hR : ∀ h' ts c', h'.get? S = some { cls := .type "list", dict := none, data := .seq (ts.map Value.ref).toArray c', slots := #[] } → ts.length = n → Got lo [z, TO, i1, i2, S] xs ys h' ts → (∀ c o, c ∉ [z, TO, i1, i2, S] → s.heap.get? c = some o → h'.get? c = some o) → R (.ok (.ret .none)) { s with heap := h' }) :
    wpAny (model prog w) A.in1 (Builtin.«list.__init__» ⟨[.ref S, .ref z], []⟩)
      (fun fin s' => match fin with | .done f => R (.ok f) s' | .again c' => c'.quiet = true ∧ codeAny (model prog w) A c' R s') (fun e s' => R (.error e) s') s := by
  have zS : z ≠ S := fun h => nS (by simp [h])
  show wpAny _ A.in1 (do let old ← Builtin.List.listItems (.ref S); Builtin.List.listUpdate (.ref S) (fun _ => #[]); letGo old.toList.reverse; Builtin.List.listExtendWith (.ref S) (.ref z) .none) _ _ s
  refine wpAny_bind ?_
  unfold Builtin.List.listItems
  refine wpAny_bind (wpAny_seqItems hS rfl (wpAny_pure ?_))
  show wpAny _ A.in1 (updateSeq S (fun _ => #[]) >>= fun _ => letGo (#[] : Array Value).toList.reverse >>= fun _ => Builtin.List.listExtendWith (.ref S) (.ref z) .none) _ _ s
  refine wpAny_bind (wpAny_updateSeq hS rfl ?_)
  have sb1 : Heap.SameBut S s.heap (s.heap.update S (Obj.mapSeq (fun _ => (#[] : Array Value)))) := Heap.SameBut.update ..
  have hS₂ := Heap.get?_update_self (Obj.mapSeq (fun _ => (#[] : Array Value))) hS rfl
  refine wpAny_bind (wpAny_letGo ?_)
  have hz1 : IsZ (s.heap.update S (Obj.mapSeq (fun _ => (#[] : Array Value)))) z TI TO .none (.bool false) := sb1.extBut _ _ zS hz0
  have hT : Shared.TypeIs { s with heap := s.heap.update S (Obj.mapSeq (fun _ => (#[] : Array Value))) } (.ref z) "zip" := ⟨_, hz1, rfl⟩
  unfold Builtin.List.listExtendWith
  refine wpAny_bind (wpAny_typeOf hT ?_)
  have h1 : Builtin.List.listSameRef (.ref S) (.ref z) = false := by simp [Builtin.List.listSameRef, zS.symm]
  have h2 : (Value.type "zip" == Value.type "list") = false := by decide
  have h3 : (Value.type "zip" == Value.type "tuple") = false := by decide
  simp only [h1, h2, h3, Bool.or_false, Bool.false_eq_true, if_false]
  refine wpAny_bind (wpAny_pyIter_zip hz1 ?_)
  refine wpAny_bind (wpAny_holding ?_)
  unfold Builtin.List.listLengthHint
  refine wpAny_bind (wpAny_specialOf hT zip_no_len ?_)
  show wpAny _ A.in1 (specialOf (Value.ref z) (Str.ofString "__length_hint__") >>= _) _ _ _
  refine wpAny_bind (wpAny_specialOf hT zip_no_hint ?_)
  refine wpAny_pure ?_
  show wpAny _ A.in1 (rule "list.extend.makes-room" >>= fun _ => Builtin.List.listTouch (.ref S) >>= fun _ =>
    again (.builtin "list.extend.loop" ⟨[.ref S, .ref z, .none], []⟩)) _ _ _
  refine wpAny_bind (wpAny_rule ?_)
  refine wpAny_bind ?_
  show wpAny _ A.in1 (updateSeq S (·.push .none) >>= fun _ => updateSeq S (·.pop)) _ _ _
  refine wpAny_bind (wpAny_updateSeq hS₂ rfl ?_)
  have hS₃ := Heap.get?_update_self (Obj.mapSeq (·.push Value.none)) hS₂ rfl
  refine wpAny_updateSeq (hz := by seq_fits) hS₃ rfl ?_
  have hS₄ := Heap.get?_update_self (Obj.mapSeq (·.pop)) hS₃ rfl
  have sb2 : Heap.SameBut S (s.heap.update S (Obj.mapSeq (fun _ => (#[] : Array Value)))) ((s.heap.update S (Obj.mapSeq (fun _ => (#[] : Array Value)))).update S (Obj.mapSeq (·.push Value.none))) := Heap.SameBut.update ..
  have sb3 : Heap.SameBut S ((s.heap.update S (Obj.mapSeq (fun _ => (#[] : Array Value)))).update S (Obj.mapSeq (·.push Value.none))) (((s.heap.update S (Obj.mapSeq (fun _ => (#[] : Array Value)))).update S (Obj.mapSeq (·.push Value.none))).update S (Obj.mapSeq (·.pop))) := Heap.SameBut.update ..
  have oth : ∀ b o, b ≠ S → s.heap.get? b = some o → (((s.heap.update S (Obj.mapSeq (fun _ => (#[] : Array Value)))).update S (Obj.mapSeq (·.push Value.none))).update S (Obj.mapSeq (·.pop))).get? b = some o :=
    fun b o hb e => sb3.extBut _ _ hb (sb2.extBut _ _ hb (sb1.extBut _ _ hb e))
  refine wpAny_pure ⟨plainId_quiet F.plain_extend_loop _, zip_loop (lo := lo) (n := n) hh D nS hn en hav .none n 0 _ [] _ rfl (Nat.zero_le _) ?_ (Z.frame nS fun c o hc e => oth c o hc e) hS₄ rfl ⟨by simp, by simp, by simp⟩ fun h' ts c' q1 q2 q3 q4 => ?_⟩
  · show lo ≤ (((s.heap.update S (Obj.mapSeq (fun _ => (#[] : Array Value)))).update S (Obj.mapSeq (·.push Value.none))).update S (Obj.mapSeq (·.pop))).objs.size
    rw [sb3.1, sb2.1, sb1.1]
    exact hlo
  · exact hR h' ts c' q1 q2 q3 fun c o hc e => q4 c o hc (oth c o (fun h => hc (by simp [h])) e)
end
section
variable {prog : Program} {w : World} {A : Around} {E : Value → Shared → Prop} {s : Shared}
/-- list(z), z a zip that is at its beginning -/
theorem call_list_zip {Q : Value → Shared → Prop} {z TI TO i1 i2 l1 l2 : Addr} {xs ys : Array Value} {n : Nat} (hh : A.handled = none) (D : ZipApart z TI TO i1 i2 l1 l2) (hn : n ≤ sizeLine) (en : n = min xs.size ys.size)
    (hz : IsZ s.heap z TI TO .none (.bool false)) (hTO : ∃ a b, IsPair s.heap TO a b) (hTI : IsPair s.heap TI (.ref i1) (.ref i2)) (h1 : s.heap.IsListIter i1 l1 0) (h2 : s.heap.IsListIter i2 l2 0) (hl1 : s.heap.IsList l1 xs) (hl2 : s.heap.IsList l2 ys)
    (hQ : ∀ h' ts c', h'.get? s.heap.objs.size = some { cls := .type "list", dict := none, data := .seq (ts.map Value.ref).toArray c', slots := #[] } → ts.length = n → Got (s.heap.objs.size + 1) [] xs ys h' ts → (∀ c o, c ∉ [z, TO, i1, i2] → s.heap.get? c = some o → h'.get? c = some o) → Q (.ref s.heap.objs.size) { s with heap := h' }) :
    wpAny (model prog w) A (call (.type "list") [.ref z]) Q E s := by
  refine callType_codes (Q₁ := fun obj s₁ => obj = .ref s.heap.objs.size ∧ s₁ = { s with heap := s.heap.push { cls := .type "list", data := .seq #[] } }) F.called_list (F.typeCall_list_1 _) F.entry_list_init
    (code_list_new _ ⟨rfl, rfl⟩) fun obj s₁ h₁ => ?_
  obtain ⟨rfl, rfl⟩ := h₁
  have hS : (s.heap.push { cls := .type "list", data := .seq #[] }).get? s.heap.objs.size = some { cls := .type "list", data := .seq #[] } := Heap.get?_push_size _ rfl
  have up : ∀ {b o}, s.heap.get? b = some o → (s.heap.push { cls := .type "list", data := .seq #[] }).get? b = some o := fun e => Heap.get?_push_of_some _ e
  obtain ⟨a, b, hTO⟩ := hTO
  have lz : z < s.heap.objs.size := Heap.lt_size hz
  have lTI : TI < s.heap.objs.size := Heap.lt_size hTI
  have lTO : TO < s.heap.objs.size := Heap.lt_size hTO
  have li1 : i1 < s.heap.objs.size := by obtain ⟨_, e, _⟩ := h1; exact Heap.lt_size e
  have li2 : i2 < s.heap.objs.size := by obtain ⟨_, e, _⟩ := h2; exact Heap.lt_size e
  have ll1 : l1 < s.heap.objs.size := by obtain ⟨_, e, _⟩ := hl1; exact Heap.lt_size e
  have ll2 : l2 < s.heap.objs.size := by obtain ⟨_, e, _⟩ := hl2; exact Heap.lt_size e
  have nS : s.heap.objs.size ∉ [z, TI, TO, i1, i2, l1, l2] := fun hm => by
    simp only [List.mem_cons, List.not_mem_nil, or_false] at hm
    have ne : ∀ {b : Addr}, b < s.heap.objs.size → s.heap.objs.size ≠ b := fun l e => Nat.lt_irrefl _ (Nat.lt_of_lt_of_eq l e)
    rcases hm with h | h | h | h | h | h | h <;> first | exact ne lz h | exact ne lTI h | exact ne lTO h | exact ne li1 h | exact ne li2 h | exact ne ll1 h | exact ne ll2 h
  refine ⟨⟨_, hS, rfl⟩, F.args_list_init_2 _ _, list_init_zip (lo := s.heap.objs.size + 1) (n := n) hh D nS hn en ?_ (by rw [Heap.size_push]; exact Nat.le_refl _) ⟨.inl ⟨up hz, a, b, up hTO⟩, up hTI, h1.at fun o e => up e, h2.at fun o e => up e, hl1.at fun o e => up e, hl2.at fun o e => up e⟩ (up hz) hS fun h' ts c' q1 q2 q3 q4 => ⟨rfl, ?_⟩⟩
  · intro a ha
    simp only [List.mem_cons, List.not_mem_nil, or_false] at ha
    rcases ha with rfl | rfl | rfl | rfl | rfl
    · exact Nat.lt_succ_of_lt lz
    · exact Nat.lt_succ_of_lt lTO
    · exact Nat.lt_succ_of_lt li1
    · exact Nat.lt_succ_of_lt li2
    · exact Nat.lt_succ_self _
  · refine hQ h' ts c' q1 q2 ⟨q3.nd, fun t ht => ⟨(q3.new t ht).1, by simp⟩, q3.pair⟩ fun c o hc e => q4 c o ?_ (up e)
    have := Heap.lt_size e
    intro hm
    simp only [List.mem_cons, List.not_mem_nil, or_false] at hm hc
    rcases hm with h | h | h | h | h
    · exact hc (.inl h)
    · exact hc (.inr (.inl h))
    · exact hc (.inr (.inr (.inl h)))
    · exact hc (.inr (.inr (.inr h)))
    · exact Nat.lt_irrefl _ (Nat.lt_of_lt_of_eq this h.symm)
end
end PySem
namespace L2
open PySem PySem.Spec PyProof.Rows PySem.W
/-- tuples of two laid at new places -/
def lays (H : Hp) : List Addr → List (V × V) → Hp
  | t :: ts, p :: ps => lays (upd H t (.tup [p.1, p.2])) ts ps
  | _, _ => H
theorem lays_old : ∀ {ts : List Addr} {ps : List (V × V)} {H : Hp} {b : Addr}, b ∉ ts → lays H ts ps b = H b
  | [], _, _, _, _ => rfl
  | _ :: _, [], _, _, _ => rfl
  | t :: ts, p :: ps, H, b, h => by
    show lays (upd H t _) ts ps b = H b
    rw [lays_old (fun z => h (List.mem_cons_of_mem _ z)), upd_ne (fun z : b = t => h (by rw [z]; exact List.mem_cons_self))]
theorem lays_cases : ∀ {ts : List Addr} {ps : List (V × V)} {H : Hp} {b : Addr} {o : HO}, lays H ts ps b = some o → (∃ (j : Nat) (p : V × V), ts[j]? = some b ∧ ps[j]? = some p ∧ o = .tup [p.1, p.2]) ∨ H b = some o
  | [], _, _, _, _, h => .inr h
  | _ :: _, [], _, _, _, h => .inr h
  | t :: ts, p :: ps, H, b, o, h => by
    rcases lays_cases (ts := ts) (ps := ps) h with ⟨j, q, h1, h2, h3⟩ | h
    · exact .inl ⟨j + 1, q, by simpa using h1, by simpa using h2, h3⟩
    · by_cases hb : b = t
      · subst hb
        rw [upd_same] at h
        cases h
        exact .inl ⟨0, p, rfl, rfl, rfl⟩
      · rw [upd_ne hb] at h
        exact .inr h
theorem vals_refs2 : ∀ (ts : List Addr), Vals (ts.map V.ref) (ts.map Value.ref)
  | [] => .nil
  | t :: ts => .cons rfl (vals_refs2 ts)
theorem neN {x y : Nat} (h : x < y ∨ y < x) : x ≠ y := by omega
theorem zipApart_at {n a b : Nat} (ha : a < n) (hb : b < n) : ZipApart (n + 4) (n + 2) (n + 3) n (n + 1) a b :=
  ⟨neN (by omega), neN (by omega), neN (by omega), neN (by omega), neN (by omega), neN (by omega), neN (by omega), neN (by omega), neN (by omega), neN (by omega), neN (by omega), neN (by omega), neN (by omega), neN (by omega), neN (by omega), neN (by omega), neN (by omega), neN (by omega)⟩
theorem outN {n c : Nat} (h : c < n) (hm : c ∈ [n + 4, n + 3, n, n + 1]) : False := by
  simp only [List.mem_cons, List.not_mem_nil, or_false] at hm
  omega
section
variable {X : Cx}
/-- list(zip(a, b)) of two lists -/
def tLZ (t : TA) : TE := fun σ H Q => t σ H fun vs H1 => ∃ a b xs ys, vs = [.ref a, .ref b] ∧ H1 a = some (.lst xs) ∧ H1 b = some (.lst ys) ∧
  ∀ (ts : List Addr) (S : Addr), ts.length = (xs.zip ys).length → ts.Nodup → S ∉ ts → (∀ t ∈ ts, H1 t = none) → H1 S = none → Q (.ref S) (upd (lays H1 ts (xs.zip ys)) S (.lst (ts.map V.ref)))
theorem pe_listzip {e1 e2 : Expr} {t : TA} {p1 p2 pos1 pos2 : Pos} (ha : PA X [e1, e2] t) (hc : X.calm = true) (hgl : Gl X "list") (hml : X.mg "list" = none) (hgz : Gl X "zip") (hmz : X.mg "zip" = none)
    (he1 : starEach [.Call (.Name "zip" p2) [e1, e2] [] pos2] X.env = (false, eval (.Call (.Name "zip" p2) [e1, e2] [] pos2) X.env) :: starEach [] X.env := by rfl)
    (he2 : starEach [e1, e2] X.env = (false, eval e1 X.env) :: starEach [e2] X.env := by rfl) (hpl : (backTo pos2 (starEach [e2] X.env)).any (·.1) = false := by rfl) :
    PE X (.Call (.Name "list" p1) [.Call (.Name "zip" p2) [e1, e2] [] pos2] [] pos1) (tLZ t) := by
  intro pins s σ H Q I h
  refine wpAny_Call_Name_kw (ld_blt (u := .type "list") I hgl hml (by decide +kernel) ?_)
  refine PyProof.Rows.callWith_type1 ?_ he1 rfl
  rw [he1]
  refine Calls.spliced_cons ?_
  refine wpAny_Call_Name_kw (ld_blt (u := .type "zip") I hgz hmz (by decide +kernel) ?_)
  refine PyProof.Rows.callWith_type1 (thn (ha pos2 pins s σ H _ I h) fun us s1 ⟨vs, H1, I1, r1, q1⟩ => ?_) he2 hpl
  obtain ⟨a, b, xs, ys, rfl, hA, hB, q⟩ := q1
  obtain ⟨u, v, rfl, ru, rv⟩ := vals2 r1
  cases ru; cases rv
  obtain ⟨z1, its1, n1, v1, len1, o1⟩ := I1.lstM hA
  obtain ⟨z2, its2, n2, v2, len2, o2⟩ := I1.lstM hB
  have L1 : s1.heap.IsList a its1.toArray := ⟨_, o1, rfl, n1, rfl⟩
  have L2 : s1.heap.IsList b its2.toArray := ⟨_, o2, rfl, n2, rfl⟩
  have la : a < s1.heap.objs.size := Heap.lt_size o1
  have lb : b < s1.heap.objs.size := Heap.lt_size o2
  refine call_zip_2 L1 L2 fun h1 a1 a2 a3 a4 a5 a6 k1 => ?_
  refine Calls.spliced_nil ?_
  have D : ZipApart (s1.heap.objs.size + 4) (s1.heap.objs.size + 2) (s1.heap.objs.size + 3) s1.heap.objs.size (s1.heap.objs.size + 1) a b := zipApart_at la lb
  refine call_list_zip (n := min its1.length its2.length) (I1.ok.hd hc) D (by omega) (by simp) a1 ⟨_, _, a3⟩ a2 a4 a5 (L1.at fun o e => k1 _ _ e) (L2.at fun o e => k1 _ _ e) fun h2 ts c' g1 g2 g3 g4 => ?_
  have keep : ∀ c o, s1.heap.get? c = some o → h2.get? c = some o := fun c o e => g4 c o (fun hm => outN (Heap.lt_size e) hm) (k1 c o e)
  have S5 : h1.objs.size = s1.heap.objs.size + 5 := a6
  have big : ∀ t ∈ ts, s1.heap.objs.size ≤ t ∧ t ≠ h1.objs.size := fun t ht =>
    have q : h1.objs.size + 1 ≤ t := (g3.new t ht).1
    ⟨Nat.le_trans (by rw [S5]; exact Nat.le_add_right _ 6) q, fun z => Nat.lt_irrefl _ (Nat.lt_of_lt_of_eq q z)⟩
  have nS : h1.objs.size ∉ ts := fun hm => (big _ hm).2 rfl
  have fr : ∀ {t : Addr}, s1.heap.objs.size ≤ t → H1 t = none := fun h => I1.hok.fresh h
  have leS : s1.heap.objs.size ≤ h1.objs.size := by rw [S5]; exact Nat.le_add_right _ 5
  have frS : H1 h1.objs.size = none := fr leS
  have tl : ts.length = (xs.zip ys).length := by rw [List.length_zip, g2]; omega
  have old : ∀ {b : Addr} {o : HO}, H1 b = some o → upd (lays H1 ts (xs.zip ys)) h1.objs.size (.lst (ts.map V.ref)) b = some o := fun {b o} e => by
    have hb : b < s1.heap.objs.size := I1.hok.lt e
    rw [upd_ne (Nat.ne_of_lt (Nat.lt_of_lt_of_le hb leS)), lays_old (fun hm => Nat.lt_irrefl _ (Nat.lt_of_lt_of_le hb (big b hm).1))]
    exact e
  have newN : ∀ {b : Addr} {o : Obj}, s1.heap.get? b = some o → H1 b = none → upd (lays H1 ts (xs.zip ys)) h1.objs.size (.lst (ts.map V.ref)) b = none := fun {b o} e n => by
    have hb := Heap.lt_size e
    rw [upd_ne (Nat.ne_of_lt (Nat.lt_of_lt_of_le hb leS)), lays_old (fun hm => Nat.lt_irrefl _ (Nat.lt_of_lt_of_le hb (big b hm).1))]
    exact n
  refine ⟨.ref h1.objs.size, upd (lays H1 ts (xs.zip ys)) h1.objs.size (.lst (ts.map V.ref)), I1.un (t' := s1.toks) ⟨fun b o e _ _ _ => keep b o e, fun b o e _ _ _ => ⟨o.slots, keep b o e⟩, fun b o e n _ => newN e n, fun b o e _ => ⟨o, keep b o e⟩, fun b xs e => old e, fun b o u e => old e, fun b ps e => ⟨#[], by rw [old e]; simp⟩⟩ ?_, rfl, q ts _ tl g3.nd nS (fun t ht => fr (big t ht).1) frS⟩
  intro b o e
  by_cases hb : b = h1.objs.size
  · subst hb
    rw [upd_same] at e
    cases e
    exact ⟨by rw [List.length_map, g2]; omega, _, c', vals_refs2 ts, g1⟩
  · rw [upd_ne hb] at e
    rcases lays_cases e with ⟨j, p, e1, e2, rfl⟩ | e
    · obtain ⟨x, y, q1, q2, q3⟩ := g3.pair j b e1
      rw [List.getElem?_zip_eq_some] at e2
      obtain ⟨w1, w2⟩ := e2
      obtain ⟨u1, m1, m2⟩ := v1.get w1
      obtain ⟨u2, m3, m4⟩ := v2.get w2
      rw [List.getElem?_toArray] at q1 q2
      rw [m1] at q1; rw [m3] at q2
      cases q1; cases q2
      exact ⟨by show 2 ≤ sizeLine; decide, [_, _], .cons m2 (.cons m4 .nil), ⟨_, q3, rfl, _, rfl⟩⟩
    · exact (I1.hok b o e).stay (fun c u _ g => keep c u g) (fun c g => old g) fun c xs g => old g
end
end L2

namespace L3
open PySem L2
section
variable {K : PySem.W.Frag} {R : Hp} {W : Addr → Prop} {σ : St} {ρ : List Sl}
/-- new tuples of two -/
theorem Ev.lays : ∀ {ts : List Addr} {vs ws : List V} {ds es : List D} {B H : Hp}, Ev K R W B H σ ρ → Reps K B vs ds → Reps K B ws es → ts.length = (vs.zip ws).length → ts.Nodup → (∀ t ∈ ts, H t = none) →
    Ev K R W (L2.lays B ts (vs.zip ws)) (L2.lays H ts (vs.zip ws)) σ ρ ∧ Grow R B (L2.lays B ts (vs.zip ws)) ∧ Reps K (L2.lays B ts (vs.zip ws)) (ts.map V.ref) ((ds.zip es).map fun p => D.tup [p.1, p.2])
  | [], vs, ws, ds, es, B, H, e, r1, r2, hl, _, _ => by
    have q : (ds.zip es).length = 0 := by
      rw [List.length_zip, ← r1.length, ← r2.length, ← List.length_zip]
      exact hl.symm
    rw [List.length_eq_zero_iff.mp q]
    exact ⟨e, Grow.refl _ _, .nil⟩
  | t :: ts, vs, ws, ds, es, B, H, e, r1, r2, hl, nd, fr => by
    cases r1 with
    | nil => simp at hl
    | cons a1 r1 =>
      cases r2 with
      | nil => simp at hl
      | cons a2 r2 =>
        rename_i v d vs ds w d2 ws es
        have ht := fr t List.mem_cons_self
        have g := e.grow ht (.tup [v, w])
        have nd' := List.nodup_cons.mp nd
        obtain ⟨h1, h2, h3⟩ := Ev.lays (ts := ts) (e.alloc ht (.tup [v, w])) (r1.mono g.s) (r2.mono g.s) (by simpa using hl) nd'.2 (fun x hx => by
          rw [upd_ne (fun z : x = t => nd'.1 (by rw [← z]; exact hx))]
          exact fr x (List.mem_cons_of_mem _ hx))
        refine ⟨h1, g.trans h2, .cons (.tup (vs := [v, w]) (h2.s _ _ upd_same) (.cons ((a1.mono g.s).mono h2.s) (.cons ((a2.mono g.s).mono h2.s) .nil))) h3⟩
end
section
variable {X : Cx} {e1 e2 : Expr} {ua ub : UE}
/-- list(zip(a, b)) -/
def uZip (ua ub : UE) : UL := fun ρ k => ua ρ fun x => ub ρ fun y => ∃ ds es, x = .lst ds ∧ y = .lst es ∧ k ((ds.zip es).map fun p => .tup [p.1, p.2])
theorem o_zip {p1 p2 pos1 pos2 : Pos} (ha : PE3 X e1 ua) (hb : PE3 X e2 ub) (hc : X.calm = true) (hgl : Gl X "list") (hml : X.mg "list" = none) (hgz : Gl X "zip") (hmz : X.mg "zip" = none)
    (he1 : starEach [.Call (.Name "zip" p2) [e1, e2] [] pos2] X.env = (false, eval (.Call (.Name "zip" p2) [e1, e2] [] pos2) X.env) :: starEach [] X.env := by rfl)
    (he2 : starEach [e1, e2] X.env = (false, eval e1 X.env) :: starEach [e2] X.env := by rfl) (he3 : starEach [e2] X.env = (false, eval e2 X.env) :: starEach [] X.env := by rfl) (hpl : (backTo pos2 (starEach [e2] X.env)).any (·.1) = false := by rfl) :
    PO3 X (.Call (.Name "list" p1) [.Call (.Name "zip" p2) [e1, e2] [] pos2] [] pos1) (uZip ua ub) := by
  obtain ⟨_, h1, r1⟩ := ha; obtain ⟨_, h2, r2⟩ := hb
  refine ⟨_, pe_listzip (pa_cons h1 (pa_cons h2 pa_nil he3) he2) hc hgl hml hgz hmz he1 he2 hpl, fun ρ k h R W B H σ Q e q => ?_⟩
  refine r1 ρ _ h R W B H σ _ e fun d v B1 H1 z1 e1 g1 s1 => ?_
  refine r2 ρ _ z1 R W B1 H1 σ _ e1 fun d' v' B2 H2 z2 e2 g2 s2 => ?_
  obtain ⟨ds, es, rfl, rfl, z⟩ := z2
  obtain ⟨a, vs, rfl, ha, rs⟩ := (s1.mono g2.s).lstV
  obtain ⟨b, ws, rfl, hb, rt⟩ := s2.lstV
  refine ⟨a, b, vs, ws, rfl, e2.bh _ _ ha, e2.bh _ _ hb, fun ts S hl nd nS fr frS => ?_⟩
  obtain ⟨e3, g3, r3⟩ := e2.lays rs rt hl nd fr
  obtain ⟨f1, f2, f3, f4, f5⟩ := e3.newO (by rw [lays_old nS]; exact frS) r3
  exact q _ S _ _ _ z f1 ((g1.trans g2).trans g3) f2 f3 f4 r3 f5
end
end L3

namespace L2
open PySem PySem.Spec PyProof.Rows PySem.W
theorem rev_take (its : List Value) : ∀ m, m ≤ its.length → (List.range m).filterMap (fun k => its[its.length - 1 - k]?) = its.reverse.take m
  | 0, _ => rfl
  | m + 1, h => by
    rw [List.range_succ, List.filterMap_append, rev_take its m (by omega), List.take_add_one, List.getElem?_reverse (by omega)]
    congr 1
theorem slicePick_rev (its : List Value) : slicePick its.toArray none none (some (-1)) = its.reverse.toArray := by
  have hb : sliceBounds none none (some (-1)) its.toArray.size = ((its.length : Int) - 1, -1, -1) := by simp [sliceBounds]
  unfold slicePick
  rw [hb]
  have hr : sliceRange ((its.length : Int) - 1) (-1) (-1) = (List.range its.length).map fun k => its.length - 1 - k := by
    unfold sliceRange
    have c : (if (-1 : Int) > 0 then (if (its.length : Int) - 1 < -1 then (-1 - ((its.length : Int) - 1) + -1 - 1) / -1 else 0) else (if (its.length : Int) - 1 > -1 then ((its.length : Int) - 1 - -1 - -1 - 1) / (- -1) else 0)) = (its.length : Int) := by
      rw [if_neg (by decide)]
      split
      · rw [show (- -1 : Int) = 1 by decide, Int.ediv_one]; omega
      · omega
    simp only [c, Int.toNat_natCast]
    refine List.map_congr_left fun k hk => ?_
    omega
  simp only [hr, List.filterMap_map]
  have := rev_take its its.length (Nat.le_refl _)
  rw [List.take_of_length_le (by simp)] at this
  rw [← this]
  have e : ((fun x => its.toArray[x]?) ∘ fun k => its.length - 1 - k) = fun k => its[its.length - 1 - k]? := by
    funext k
    simp
  rw [e]
section
variable {X : Cx} {e st : Expr} {te ts : TE} {p2 pos : Pos}
end
end L2
namespace L3
open PySem L2
section
variable {X : Cx} {e st : Expr} {u us : UE} {p2 pos : Pos}
theorem Reps.reverse {K : PySem.W.Frag} {B : Hp} : ∀ {vs : List V} {ds : List D}, Reps K B vs ds → Reps K B vs.reverse ds.reverse
  | _, _, .nil => .nil
  | _, _, .cons h r => by
    rw [List.reverse_cons, List.reverse_cons]
    exact (Reps.reverse r).append (.cons h .nil)
end
end L3

namespace Cut
open PySem L2 L3
open PySem.Builtin.Int (intBits)
end Cut
namespace Cut
open PySem L2 L3
open PySem.Builtin.Int (intBits)
end Cut
namespace Cut
open PySem L2 L3
open PySem.Builtin.Int (intBits)
end Cut

/-! is None; try: return f(..) / except C: return None -/
namespace L2
open PySem PySem.Spec PyProof.Rows PySem.W
section
variable {X : Cx} {pins : List (Addr × Obj)} {σ : St} {H : Hp} {s : Shared}
end
end L2
namespace L3
open PySem L2 PySem.W
def isNon : D → Bool
  | .non => true
  | _ => false
section
variable {X : Cx} {a b : Expr} {ua ub : UE} {pos : Pos}
def uIsN (ua ub : UE) : UE := fun ρ k => ua ρ fun x => ub ρ fun y => y = .non ∧ k (.bl (isNon x))
theorem e_isN (ha : PE3 X a ua) (hb : PE3 X b ub) (hm : behindInMarks .Is b = false) : PE3 X (.Compare a [.Is] [b] pos) (uIsN ua ub) := by
  obtain ⟨_, h1, r1⟩ := ha; obtain ⟨_, h2, r2⟩ := hb
  refine ⟨_, pe_cmpR op_isN h1 h2 hm, ref2 (f := fun x y k => y = .non ∧ k (.bl (isNon x))) r1 r2 fun x y k h R W B H σ ρ v w Q e rx ry q => ?_⟩
  obtain ⟨rfl, hk⟩ := h
  have e1 : w = .non := by cases ry; rfl
  have e2 : decide (v = V.non) = isNon x := by cases rx <;> simp [isNon]
  refine ⟨e1, ?_⟩
  rw [e2]
  exact q _ _ B H hk e (Grow.refl _ _) (.bl _)
end
end L3

namespace L2
open PySem PySem.Spec PyProof.Rows
section
variable {X : Cx} {pos : Pos}
end
end L2
namespace L3
open PySem L2
section
variable {X : Cx} {w : UL} {pos : Pos}
end
end L3

/-! Tests over lists of one's own as they stand; trees all of whose lists are new; a scope at whose end they are emptied. -/
namespace L3
open PySem L2
section
variable {K : PySem.W.Frag} {R : Hp} {W : Addr → Prop} {B B' H H' : Hp} {σ : St} {ρ : List Sl}
def fz1 : Sl → Sl
  | .own ds => .val (.lst ds)
  | s => s
def frW (W : Addr → Prop) (σ : St) (ρ : List Sl) (a : Addr) : Prop := W a ∨ ∃ i : Nat, σ[i]? = some (some (.ref a)) ∧ ρ[i]? = some .bag
def OwnAd (σ : St) (ρ : List Sl) (a : Addr) : Prop := ∃ (i : Nat) (ds : List D), σ[i]? = some (some (.ref a)) ∧ ρ[i]? = some (.own ds)
open Classical in
noncomputable def frB (B H : Hp) (σ : St) (ρ : List Sl) : Hp := fun a => if OwnAd σ ρ a then H a else B a
theorem frB_own {a : Addr} (h : OwnAd σ ρ a) : frB B H σ ρ a = H a := by unfold frB; rw [if_pos h]
theorem frB_not {a : Addr} (h : ¬ OwnAd σ ρ a) : frB B H σ ρ a = B a := by unfold frB; rw [if_neg h]
theorem Ev.frW_B (e : Ev K R W B H σ ρ) {a : Addr} (h : frW W σ ρ a) : B a = none ∧ Bag H a := by
  rcases h with h | ⟨i, h1, h2⟩
  · exact ⟨e.wb a h, e.wh a h⟩
  · obtain ⟨b, c1, _, c3, c4⟩ := e.bagAt h2
    rw [h1] at c1; cases c1
    exact ⟨c3, c4⟩
theorem Ev.own_out (e : Ev K R W B H σ ρ) {a : Addr} (h : OwnAd σ ρ a) : R a = none ∧ B a = none ∧ H a ≠ none ∧ ¬ frW W σ ρ a := by
  obtain ⟨i, ds, h1, h2⟩ := h
  obtain ⟨b, vs, c1, c2, c3, c4, _⟩ := e.ownAt h2
  rw [h1] at c1; cases c1
  refine ⟨c2, c3, by rw [c4]; simp, fun z => ?_⟩
  rcases z with z | ⟨j, z1, z2⟩
  · exact e.wr a z c2
  · have := e.sep i j a ⟨h1, .inr ⟨ds, h2⟩⟩ ⟨z1, .inl z2⟩
    subst this
    rw [h2] at z2; cases z2
theorem Ev.frB_same (e : Ev K R W B H σ ρ) : Same B (frB B H σ ρ) := fun a o h => by
  by_cases z : OwnAd σ ρ a
  · rw [(e.own_out z).2.1] at h; cases h
  · rw [frB_not z]; exact h
theorem Ev.frame (e : Ev K R W B H σ ρ) : Ev K H (frW W σ ρ) (frB B H σ ρ) H σ (ρ.map fz1) := by
  have nb : ∀ a, frW W σ ρ a → frB B H σ ρ a = none := fun a h => by
    by_cases z : OwnAd σ ρ a
    · exact absurd h (e.own_out z).2.2.2
    · rw [frB_not z]; exact (e.frW_B h).1
  refine ⟨⟨fun _ _ z _ => z, fun a o h => ?_, nb, fun a h => (e.frW_B h).2, fun a h => ?_⟩, by rw [List.length_map]; exact e.len, fun i k h => ?_, fun i j a m1 m2 => ?_⟩
  · by_cases z : OwnAd σ ρ a
    · rw [frB_own z] at h; exact h
    · rw [frB_not z] at h; exact e.bh a o h
  · obtain ⟨x, y, q, _⟩ := (e.frW_B h).2
    rw [q]; simp
  · rw [List.getElem?_map] at h
    cases q : ρ[i]? with
    | none => rw [q] at h; cases h
    | some k0 =>
      rw [q] at h
      have h := Option.some.inj h
      subst h
      have z := e.ok i _ q
      cases k0 with
      | no => trivial
      | new d =>
        obtain ⟨v, h1, h2⟩ := z
        refine ⟨v, h1, h2.mono (mixB_re e.toWd e.frB_same (fun a o h => ?_) (fun a z hr => ?_) nb)⟩
        · by_cases z : OwnAd σ ρ a
          · rw [frB_own z] at h; exact h
          · rw [frB_not z] at h; exact e.bh a o h
        · rcases z with z | ⟨i, z1, z2⟩
          · exact z
          · obtain ⟨b, c1, c2, _⟩ := e.bagAt z2
            rw [z1] at c1; cases c1
            exact c2.resolve_right hr
      | pin v d =>
        obtain ⟨h1, h2⟩ := z
        refine ⟨h1, h2.mono (mixB_re e.toWd e.frB_same (fun a o h => ?_) (fun a z hr => ?_) nb)⟩
        · by_cases z : OwnAd σ ρ a
          · rw [frB_own z] at h; exact h
          · rw [frB_not z] at h; exact e.bh a o h
        · rcases z with z | ⟨i, z1, z2⟩
          · exact z
          · obtain ⟨b, c1, c2, _⟩ := e.bagAt z2
            rw [z1] at c1; cases c1
            exact c2.resolve_right hr
      | val d =>
        obtain ⟨v, h1, h2⟩ := z
        exact ⟨v, h1, h2.mono e.frB_same⟩
      | own ds =>
        obtain ⟨a, vs, h1, h2, h3, h4, h5⟩ := z
        exact ⟨.ref a, h1, .lst (by rw [frB_own ⟨i, ds, join_some h1, q⟩]; exact h4) (h5.mono e.frB_same)⟩
      | bag =>
        obtain ⟨b, h1, h2, h3, h4⟩ := z
        have w : frW W σ ρ b := .inr ⟨i, join_some h1, q⟩
        exact ⟨b, h1, .inl w, nb b w, h4⟩
  · have back : ∀ i, MutAt σ (ρ.map fz1) i a → MutAt σ ρ i a := fun i m => by
      obtain ⟨h1, h2⟩ := m
      refine ⟨h1, ?_⟩
      rw [List.getElem?_map] at h2
      cases q : ρ[i]? with
      | none => rw [q] at h2; rcases h2 with h2 | ⟨_, h2⟩ <;> cases h2
      | some k0 =>
        rw [q] at h2
        cases k0 with
        | bag => exact .inl rfl
        | no => rcases h2 with h2 | ⟨_, h2⟩ <;> cases h2
        | new d => rcases h2 with h2 | ⟨_, h2⟩ <;> cases h2
        | pin v d => rcases h2 with h2 | ⟨_, h2⟩ <;> cases h2
        | val d => rcases h2 with h2 | ⟨_, h2⟩ <;> cases h2
        | own ds => rcases h2 with h2 | ⟨_, h2⟩ <;> cases h2
    exact e.sep i j a (back i m1) (back j m2)
/-- behind whatever ran over the frozen lists: all as ahead -/
theorem Ev.unframe (e : Ev K R W B H σ ρ) (fr : ∀ a o, H a = some o → ¬ frW W σ ρ a → H' a = some o) (wh : ∀ a, frW W σ ρ a → Bag H' a) : Ev K R W B H' σ ρ := by
  have nW : ∀ a, R a ≠ none → ¬ W a → ¬ frW W σ ρ a := fun a h1 h2 z => by
    rcases z with z | ⟨i, z1, z2⟩
    · exact h2 z
    · obtain ⟨b, c1, c2, _⟩ := e.bagAt z2
      rw [z1] at c1; cases c1
      rcases c2 with c2 | c2
      · exact h2 c2
      · exact h1 c2
  refine ⟨⟨fun a o h nw => fr a o (e.fr a o h nw) (nW a (by rw [h]; simp) nw), fun a o h => fr a o (e.bh a o h) fun z => ?_, e.wb, fun a h => wh a (.inl h), e.wr⟩, e.len, fun i k h => ?_, e.sep⟩
  · rw [(e.frW_B z).1] at h; cases h
  · have z := e.ok i k h
    cases k with
    | no => trivial
    | new d => exact z
    | pin v d => exact z
    | val d => exact z
    | own ds =>
      obtain ⟨a, vs, h1, h2, h3, h4, h5⟩ := z
      exact ⟨a, vs, h1, h2, h3, fr a _ h4 (e.own_out ⟨i, ds, join_some h1, h⟩).2.2.2, h5⟩
    | bag =>
      obtain ⟨b, h1, h2, h3, h4⟩ := z
      exact ⟨b, h1, h2, h3, wh b (.inr ⟨i, join_some h1, h⟩)⟩
/-- some slots are forgotten, whatever they hold -/
theorem Ev.forget (e : Ev K R W B H σ ρ) {σ' : St} {ρ' : List Sl} (hl : σ'.length = ρ'.length) (h : ∀ (i : Nat) (k : Sl), ρ'[i]? = some k → k = .no ∨ (ρ[i]? = some k ∧ σ'[i]? = σ[i]?)) : Ev K R W B H σ' ρ' := by
  have back : ∀ i a, MutAt σ' ρ' i a → MutAt σ ρ i a := fun i a m => by
    obtain ⟨h1, h2⟩ := m
    rcases h2 with h2 | ⟨ds, h2⟩
    · rcases h i _ h2 with z | ⟨z1, z2⟩
      · cases z
      · exact ⟨by rw [← z2]; exact h1, .inl z1⟩
    · rcases h i _ h2 with z | ⟨z1, z2⟩
      · cases z
      · exact ⟨by rw [← z2]; exact h1, .inr ⟨ds, z1⟩⟩
  refine ⟨e.toWd, hl, fun i k q => ?_, fun i j a m1 m2 => e.sep i j a (back i a m1) (back j a m2)⟩
  rcases h i k q with rfl | ⟨z1, z2⟩
  · trivial
  · rw [z2]; exact e.ok i k z1
end
section
variable {K : PySem.W.Frag} {X : Cx} {e : Expr} {es : List Expr} {u : UE} {w : UL} {pos p : Pos}
/-! ### trees whose lists are new -/
mutual
def flat : D → Bool
  | .tup xs => flats xs
  | .lst _ => false
  | .scr _ => false
  | .ktup _ => false
  | .non => true
  | .bl _ => true
  | .int _ => true
  | .str _ => true
  | .ty _ => true
def flats : List D → Bool
  | [] => true
  | x :: r => flat x && flats r
end
theorem newL_tup {R B : Hp} {a : Addr} {vs : List V} (h : B a = some (.tup vs)) : newL R B a = some (.tup vs) := by
  unfold newL
  rw [h]
mutual
theorem Rep.flat {R B : Hp} : ∀ {v : V} {d : D}, Rep K B v d → flat d = true → Rep K (newL R B) v d
  | _, _, .non, _ => .non
  | _, _, .bl b, _ => .bl b
  | _, _, .int i, _ => .int i
  | _, _, .str x, _ => .str x
  | _, _, .ty n, _ => .ty n
  | _, _, .tup h r, f => .tup (newL_tup h) (Reps.flat r f)
  | _, _, .lst h r, f => by simp [L3.flat] at f
  | _, _, .scr h, f => by simp [L3.flat] at f
  | _, _, .ktup h _, f => by simp [L3.flat] at f
theorem Reps.flat {R B : Hp} : ∀ {vs : List V} {ds : List D}, Reps K B vs ds → flats ds = true → Reps K (newL R B) vs ds
  | _, _, .nil, _ => .nil
  | _, _, .cons h r, f => by
    rw [flats, Bool.and_eq_true] at f
    exact .cons (Rep.flat h f.1) (Reps.flat r f.2)
end
def RefD (K : PySem.W.Frag) (t : TE) (u : UE) : Prop := ∀ (ρ : List Sl) (k : D → Prop), u ρ k → ∀ (R : Hp) (W : Addr → Prop) (B H : Hp) (σ : St) (Q : VK), Ev K R W B H σ ρ →
  (∀ d v B' H', k d → Ev K R W B' H' σ ρ → Grow R B B' → Rep K (newL R B') v d → Q v H') → t σ H Q
def PD3 (X : Cx) (e : Expr) (u : UE) : Prop := ∃ t, PE X e t ∧ RefD X.K t u
def unO (w : UL) : UE := fun ρ k => w ρ fun ds => flats ds = true ∧ k (.lst ds)
theorem d_list (h : PO3 X e w) : PD3 X e (unO w) := by
  obtain ⟨_, h1, r1⟩ := h
  refine ⟨_, h1, fun ρ k h R W B H σ Q e q => ?_⟩
  refine r1 ρ _ h R W B H σ _ e fun ds a vs B1 H1 z1 e1 g1 f1 f2 f3 f4 f5 => ?_
  obtain ⟨e2, g2⟩ := e1.freeze f3 f1 f2 f5
  exact q _ _ _ _ z1.2 e2 (g1.trans g2) (.lst (newL_at upd_same f1) ((f4.mono g2.s).flat z1.1))
def uCallD (n : Nat) (F : FS) (w : UA) : UE := fun ρ k => w ρ fun as => sh as n = true ∧ F (as.map Arg.sl) fun r => ∃ d, r = .new d ∧ k d
theorem d_call {n : Nat} {F : FS} {w : UA} {x : Str} {ps : List Str} {j lv : Nat} (c : Cal X.prog X.w X.K X.mg X.base x ps j (Con X.K n F)) (hr : Room lv X.A) (hg : Gl X x) (ha : PA3 X (e :: es) w) (hjk : j ≤ lv := by decide)
    (hdb : (x == ("__debug__" : Str)) = false := by decide) (he : starEach (e :: es) X.env = (false, eval e X.env) :: starEach es X.env := by rfl) (hpl : (backTo pos (starEach es X.env)).any (·.1) = false := by rfl) :
    PD3 X (.Call (.Name x p) (e :: es) [] pos) (uCallD n F w) := by
  obtain ⟨_, h1, r1⟩ := ha
  refine ⟨_, pe_cal c hr hg h1 hjk hdb he hpl, fun ρ k h R W B H σ Q e q => ?_⟩
  refine r1 ρ _ h R W B H σ _ e fun as vs B1 H1 z1 e1 g1 s1 => ?_
  rw [List.append_nil]
  refine call_ok e1 s1 z1.1 z1.2 fun r v B2 H2 hk e2 g2 res => ?_
  obtain ⟨d, rfl, hk⟩ := hk
  have res : Rep X.K (newL H1 B2) v d := res
  exact q d v B2 H2 hk e2 (g1.trans g2) (res.mono (newL_weak fun a z => (e1.toWd.fresh z).1))
variable {elt iter tg : Expr} {ifs : List Expr} {scope : Scope} {cl : List (Str × Addr)} {ts fr : List Str} {js : List Nat} {ug : UG} {ut : UT}
end
end L3

/-! Lists emptied: one's own, and all of a new tree's at the end of a scope. -/
namespace L3
open PySem L2
section
variable {K : PySem.W.Frag} {X : Cx} {e : Expr} {es : List Expr} {u : UE} {w : UL} {pos p : Pos} {I : List Nat} {i : Nat} {rest : List Stmt} {uz : UEnds → List Sl → D → List Sl → Prop}
theorem Rep.lst_of {B : Hp} {v : V} {ds : List D} (r : Rep K B v (.lst ds)) : ∃ a vs, v = .ref a ∧ B a = some (.lst vs) ∧ Reps K B vs ds := by
  cases r with | lst h r => exact ⟨_, _, rfl, h, r⟩
theorem flats_at : ∀ {ds : List D} {n : Nat} {d : D}, flats ds = true → ds[n]? = some d → flat d = true
  | [], n, d, _, h => by simp at h
  | x :: r, 0, d, f, h => by rw [flats, Bool.and_eq_true] at f; simp at h; subst h; exact f.1
  | x :: r, n + 1, d, f, h => by rw [flats, Bool.and_eq_true] at f; exact flats_at (n := n) f.2 (by simpa using h)
/-- the heap through the emptying: what was there ahead of the scope, and the new tree's frame -/
structure Emp (K : PySem.W.Frag) (W : Addr → Prop) (σ : St) (ρ : List Sl) (H N H' : Hp) : Prop where
  fr : ∀ a o, H a = some o → ¬ frW W σ ρ a → H' a = some o
  wh : ∀ a, frW W σ ρ a → Bag H' a
  tp : ∀ a vs, N a = some (.tup vs) → H' a = some (.tup vs)
  ls : ∀ a vs, N a = some (.lst vs) → ∃ ws, H' a = some (.lst ws)
theorem Emp.clear {W : Addr → Prop} {σ : St} {ρ : List Sl} {H N H' : Hp} (m : Emp K W σ ρ H N H') (hb : ∀ a, frW W σ ρ a → H a ≠ none) {b : Addr} {vs : List V} (hN : N b = some (.lst vs)) (hH : H b = none) : Emp K W σ ρ H N (upd H' b (.lst [])) := by
  refine ⟨fun a o h nw => ?_, fun a h => ?_, fun a ws h => ?_, fun a ws h => ?_⟩
  · rw [upd_ne (by rintro rfl; rw [hH] at h; cases h)]; exact m.fr a o h nw
  · exact (m.wh a h).upd (by rintro rfl; exact hb _ h hH)
  · rw [upd_ne (by rintro rfl; rw [hN] at h; cases h)]; exact m.tp a ws h
  · by_cases z : a = b
    · subst z; exact ⟨[], upd_same⟩
    · rw [upd_ne z]; exact m.ls a ws h
theorem Emp.start {R : Hp} {W : Addr → Prop} {B H Bz Hz : Hp} {σ σz : St} {ρ ρz : List Sl} (e : Ev K R W B H σ ρ) (ez : Ev K H (frW W σ ρ) Bz Hz σz ρz) : Emp K W σ ρ H (newL H Bz) Hz ∧ ∀ a, frW W σ ρ a → H a ≠ none :=
  ⟨⟨ez.fr, ez.wh, fun a vs h => ez.bh a _ (newL_sub a _ h), fun a vs h => ⟨vs, ez.bh a _ (newL_sub a _ h)⟩⟩, ez.wr⟩
end
end L3

/-! Lists of one's own emptied; a new piece's ring emptied. -/
namespace L3
open PySem L2
section
variable {K : PySem.W.Frag} {X : Cx} {e : Expr} {es : List Expr} {u : UE} {w : UL} {pos p : Pos} {i : Nat} {rest : List Stmt}
end
end L3

namespace L2
open PySem PySem.Spec PyProof.Rows PySem.W
theorem slicePick_one (its : List Value) : slicePick its.toArray none none (some 1) = its.toArray := by
  have hb : sliceBounds none none (some 1) its.toArray.size = (0, (its.length : Int), 1) := by simp [sliceBounds]
  unfold slicePick
  rw [hb]
  have hr : sliceRange 0 (its.length : Int) 1 = List.range its.length := by
    unfold sliceRange
    have c : (if (1 : Int) > 0 then (if (0 : Int) < (its.length : Int) then ((its.length : Int) - 0 + 1 - 1) / 1 else 0) else (if (0 : Int) > (its.length : Int) then (0 - (its.length : Int) - 1 - 1) / (-1) else 0)) = (its.length : Int) := by
      rw [if_pos (by decide)]
      split
      · rw [Int.ediv_one]; omega
      · omega
    simp only [c, Int.toNat_natCast]
    refine (List.map_congr_left (g := id) fun k hk => ?_).trans (List.map_id _)
    show (0 + 1 * (k : Int)).toNat = k
    omega
  simp only [hr]
  congr 1
  have : ∀ (l : List Value) (m : Nat), m ≤ l.length → (List.range m).filterMap (fun k => l[k]?) = l.take m := by
    intro l m
    induction m with
    | zero => intro _; rfl
    | succ m ih =>
      intro h
      rw [List.range_succ, List.filterMap_append, ih (by omega), List.take_add_one]
      simp [List.getElem?_eq_getElem (show m < l.length by omega)]
  have z := this its its.length (Nat.le_refl _)
  rw [List.take_length] at z
  refine Eq.trans ?_ z
  congr 1
  funext k
  simp
section
variable {X : Cx} {e st : Expr} {te ts : TE} {p2 pos : Pos}
/-- xs[::h] of a list, h 1 or -1: a new list -/
def hand (xs : List α) (i : Int) : List α := if i = 1 then xs else xs.reverse
def tHand (te ts : TE) (K : PySem.W.Frag) : TE := fun σ H Q => te σ H fun x H1 => ts σ H1 fun i H2 => ∃ n : Int, i = .int n ∧ (n = 1 ∨ n = -1) ∧ ∃ a xs, x = .ref a ∧ SqL K H2 a xs ∧ ∀ p, H2 p = none → Q (.ref p) (upd H2 p (.lst (hand xs n)))
theorem pe_hand (he : PE X e te) (hs : PE X st ts) : PE X (.Subscript e (.Slice none none (some st) p2) pos) (tHand te ts X.K) := by
  intro pins s σ H Q I h
  refine Subscript_ (thn (he pins s σ H _ I h) fun v s1 ⟨x, H1, I1, r1, q1⟩ => ?_)
  refine wpAny_Slice ?_
  rw [evalPart_none]
  refine wpAny_pure ?_
  refine wpAny_pure ?_
  rw [evalPart_some]
  refine thn (hs pins s1 σ H1 _ I1 q1) fun u s3 ⟨i, H3, I3, ri, q3⟩ => ?_
  obtain ⟨n, rfl, hn, a, xs, rfl, hx, q⟩ := q3
  obtain ⟨tk, rfl⟩ := ri
  cases r1
  have I4 : Inv X pins σ H3 { s3 with heap := s3.heap.push { cls := .type "slice", data := .fields #[.none, .none, .int n tk] } } := I3.kept (t' := s3.toks) fun b ob q => Heap.get?_push_of_some _ q
  obtain ⟨its, r, ht, hz⟩ := I4.list hx
  have hlen := r.length
  show wpAny (model X.prog X.w) X.A (subscriptTail e (.Slice none none (some st) p2) (.ref a) (.ref s3.heap.objs.size)) (EP X pins σ Q) X.xe { s3 with heap := s3.heap.push { cls := .type "slice", data := .fields #[.none, .none, .int n tk] } }
  refine tail_any (ops := [.ref a, .ref s3.heap.objs.size]) ht.isList.typeIs slot_list_getitem.lookup ?_ (by with_unfolding_all rfl)
  have hlen2 := hlen
  rcases hn with rfl | rfl
  · have e1 : hand xs 1 = xs := rfl
    rw [e1] at q
    refine wpAny_getItem_list_slice (st := some 1) ht.isList (Heap.IsSliceOf.new ..) .none .none (.int _ _) (by simp) ?_ (by rw [List.size_toArray] <;> omega)
    rw [slicePick_one]
    refine ⟨.ref _, _, I4.laid (t' := s3.toks) (o := .lst xs) (fun b ob q => Heap.get?_push_of_some _ q) (Nat.le_refl _) ?_, rfl, q _ (I4.hok.fresh (Nat.le_refl _))⟩
    exact ⟨by exact hz, _, 0, r, Heap.get?_push_size _ rfl⟩
  · have e1 : hand xs (-1) = xs.reverse := rfl
    rw [e1] at q
    refine wpAny_getItem_list_slice (st := some (-1)) ht.isList (Heap.IsSliceOf.new ..) .none .none (.int _ _) (by simp) ?_ (by rw [List.size_toArray] <;> omega)
    rw [slicePick_rev]
    refine ⟨.ref _, _, I4.laid (t' := s3.toks) (o := .lst xs.reverse) (fun b ob q => Heap.get?_push_of_some _ q) (Nat.le_refl _) ?_, rfl, q _ (I4.hok.fresh (Nat.le_refl _))⟩
    exact ⟨by rw [List.length_reverse]; exact hz, _, 0, r.reverse, Heap.get?_push_size _ rfl⟩
end
end L2
namespace L3
open PySem L2
section
variable {X : Cx} {e st : Expr} {u us : UE} {p2 pos p : Pos} {F : FS} {a0 : Expr}
theorem Reps.hand {K : PySem.W.Frag} {B : Hp} {vs : List V} {ds : List D} {n : Int} (r : Reps K B vs ds) : Reps K B (L2.hand vs n) (L2.hand ds n) := by
  unfold L2.hand
  split
  · exact r
  · exact r.reverse
def uHand (u us : UE) : UL := fun ρ k => u ρ fun x => us ρ fun i => ∃ n : Int, i = .int n ∧ (n = 1 ∨ n = -1) ∧ ∃ ds, itemsD x = some ds ∧ k (L2.hand ds n)
theorem o_hand (he : PE3 X e u) (hs : PE3 X st us) : PO3 X (.Subscript e (.Slice none none (some st) p2) pos) (uHand u us) := by
  obtain ⟨_, h1, r1⟩ := he; obtain ⟨_, h2, r2⟩ := hs
  refine ⟨_, pe_hand h1 h2, fun ρ k h R W B H σ Q e q => ?_⟩
  refine r1 ρ _ h R W B H σ _ e fun d v B1 H1 z1 e1 g1 s1 => ?_
  refine r2 ρ _ z1 R W B1 H1 σ _ e1 fun i iv B2 H2 z2 e2 g2 s2 => ?_
  obtain ⟨n, rfl, hn, ds, hd, z⟩ := z2
  obtain ⟨a, vs, rfl, ha, rs⟩ := itemsD_ok e2.bh (s1.mono g2.s) hd
  refine ⟨n, s2.intV, hn, a, vs, rfl, ha, fun p hp => ?_⟩
  obtain ⟨f1, f2, f3, f4, f5⟩ := e2.newO hp rs.hand
  exact q _ p _ B2 _ z f1 (g1.trans g2) f2 f3 f4 rs.hand f5
end
end L3

/-! A tuple of the program's own names, read. -/
namespace L3
open PySem L2
section
variable {X : Cx} {a b : Expr} {ua ub : UE} {pos : Pos}
end
end L3

/-! A list unpacked to names. -/
namespace L2
open PySem PySem.Spec PyProof.Rows PySem.W
section
variable {prog : Program} {w : World} {A : Around} {E : Value → Shared → Prop} {s : Shared}
end
section
variable {X : Cx} {pos : Pos}
end
end L2
namespace L3
open PySem L2
section
variable {X : Cx} {es : List Expr} {pos : Pos}
end
end L3

namespace Cut
open PySem L2 L3
open PySem.Builtin.Int (intBits)
def sld (g p : P3) : P3 := (p.1 * g.2.2 + g.1 * p.2.2, p.2.1 * g.2.2 + g.2.1 * p.2.2, p.2.2 * g.2.2)
def trn (p : P3) : P3 := (-p.1, -p.2.1, p.2.2)
def mt4 (p q r s : P3) : P3 := crs (crs p q) (crs r s)
def det3 (p q r : P3) : Int := (crs p q).1 * r.1 + (crs p q).2.1 * r.2.1 + (crs p q).2.2 * r.2.2
def sg (x : Int) : Int := if 0 < x then 1 else if x < 0 then -1 else 0
theorem sg_eq {x y c d : Int} (hc : 0 < c) (hd : 0 < d) (h : c * x = d * y) : sg x = sg y := by
  have pos : 0 < x ↔ 0 < y := by
    constructor
    · intro hx
      have := Int.mul_pos hc hx
      rw [h] at this
      exact Int.pos_of_mul_pos_right this hd
    · intro hy
      have := Int.mul_pos hd hy
      rw [← h] at this
      exact Int.pos_of_mul_pos_right this hc
  have zer : x = 0 ↔ y = 0 := by
    constructor
    · intro hx
      rw [hx, Int.mul_zero] at h
      exact (Int.mul_eq_zero.mp h.symm).resolve_left (Int.ne_of_gt hd)
    · intro hy
      rw [hy, Int.mul_zero] at h
      exact (Int.mul_eq_zero.mp h).resolve_left (Int.ne_of_gt hc)
  unfold sg
  by_cases h1 : 0 < x
  · rw [if_pos h1, if_pos (pos.mp h1)]
  · rw [if_neg h1, if_neg (fun z => h1 (pos.mpr z))]
    by_cases h2 : x = 0
    · rw [if_neg (by omega), if_neg (by have := zer.mp h2; omega)]
    · have : y ≠ 0 := fun z => h2 (zer.mpr z)
      have : ¬ 0 < y := fun z => h1 (pos.mpr z)
      rw [if_pos (by omega), if_pos (by omega)]
/-- a map that leads lines to lines -/
structure Lin (L : P3 → P3) : Prop where
  hom : ∀ c p, L (sc c p) = sc c (L p)
  z : ∃ k, 0 < k ∧ ∀ p, (L p).2.2 = k * p.2.2
  mt : ∃ d, d ≠ 0 ∧ ∀ p q r s, mt4 (L p) (L q) (L r) (L s) = sc d (L (mt4 p q r s))
  dt : ∃ d, 0 < d ∧ ∀ p q r, det3 (L p) (L q) (L r) = d * det3 p q r
def cs (g c : P3) : P3 := (g.2.2 * c.1, g.2.2 * c.2.1, g.2.2 * c.2.2 - g.1 * c.1 - g.2.1 * c.2.1)
theorem crs_sld (g p q : P3) : crs (sld g p) (sld g q) = sc g.2.2 (cs g (crs p q)) := by
  refine p3_ext ?_ ?_ ?_ <;> simp only [crs, sc, sld, cs] <;> grind
theorem crs_cs (g u v : P3) : crs (cs g u) (cs g v) = sc g.2.2 (sld g (crs u v)) := by
  refine p3_ext ?_ ?_ ?_ <;> simp only [crs, sc, sld, cs] <;> grind
theorem lin_sld {g : P3} (hg : 0 < g.2.2) : Lin (sld g) := by
  have g0 := Int.ne_of_gt hg
  refine ⟨fun c p => by refine p3_ext ?_ ?_ ?_ <;> simp only [sc, sld] <;> grind, ⟨g.2.2, hg, fun p => by simp only [sld]; grind⟩, ⟨g.2.2 * g.2.2 * g.2.2, Int.mul_ne_zero (Int.mul_ne_zero g0 g0) g0, fun p q r s => ?_⟩, ⟨g.2.2 * g.2.2 * g.2.2, Int.mul_pos (Int.mul_pos hg hg) hg, fun p q r => ?_⟩⟩
  · unfold mt4
    rw [crs_sld, crs_sld, crs_sc, crs_cs, sc_sc]
  · unfold det3
    rw [crs_sld]
    generalize crs p q = c
    simp only [sc, cs, sld]
    grind
/-- a map, and its points in lowest form -/
theorem Lin.low {L : P3 → P3} (l : Lin L) {p : P3} (hp : 0 < p.2.2) : 0 < (L p).2.2 ∧ ∃ k, 0 < k ∧ L p = sc k (nP (L p)) := by
  obtain ⟨k, k0, e⟩ := l.z
  have pos : 0 < (L p).2.2 := by rw [e]; exact Int.mul_pos k0 hp
  obtain ⟨g, g0, eg⟩ := nP_sc (Int.ne_of_gt pos)
  have n0 := (nP_pt (Int.ne_of_gt pos)).1
  refine ⟨pos, g, ?_, eg⟩
  have e3 : (L p).2.2 = g * (nP (L p)).2.2 := congrArg (fun p : P3 => p.2.2) eg
  rw [e3] at pos
  exact Int.pos_of_mul_pos_left pos n0
theorem det3_sc (a b c : Int) (p q r : P3) : det3 (sc a p) (sc b q) (sc c r) = a * b * c * det3 p q r := by
  simp only [det3, crs_sc]
  generalize crs p q = u
  simp only [sc]
  grind
theorem Lin.side {L : P3 → P3} (l : Lin L) {p q r : P3} (hp : 0 < p.2.2) (hq : 0 < q.2.2) (hr : 0 < r.2.2) : sg (det3 (nP (L p)) (nP (L q)) (nP (L r))) = sg (det3 p q r) := by
  obtain ⟨_, a, a0, ea⟩ := l.low hp
  obtain ⟨_, b, b0, eb⟩ := l.low hq
  obtain ⟨_, c, c0, ec⟩ := l.low hr
  obtain ⟨d, d0, ed⟩ := l.dt
  refine sg_eq (Int.mul_pos (Int.mul_pos a0 b0) c0) d0 ?_
  rw [← det3_sc, ← ea, ← eb, ← ec, ed]
end Cut

namespace Cut
open PySem L2 L3
open PySem.Builtin.Int (intBits)
theorem npt_eq {x y z a b n : Int} (p : Pt x y z) (hn : n ≠ 0) (e1 : x * n = a * z) (e2 : y * n = b * z) : npt a b n = (x, y, z) := by
  obtain ⟨q, f1, f2, _⟩ := npt_spec (a := a) (b := b) hn
  obtain ⟨h1, h2, h3⟩ := pt_uniq q p (Int.eq_of_mul_eq_mul_right hn (by grind)) (Int.eq_of_mul_eq_mul_right hn (by grind))
  exact Prod.ext h1 (Prod.ext h2 h3)
end Cut

namespace Cut
open PySem L2 L3
open PySem.Builtin.Int (intBits)
theorem BP.sld {m n : Nat} {g p : P3} (hg : BP m g) (hp : BP n p) : BP (n + m + 1) (Cut.sld g p) := by
  refine ⟨?_, ?_, ?_⟩
  · exact Nat.le_trans (intBits_add_le (intBits_mul_le hp.a hg.c) (intBits_mul_le hg.a hp.c)) (by omega)
  · exact Nat.le_trans (intBits_add_le (intBits_mul_le hp.b hg.c) (intBits_mul_le hg.b hp.c)) (by omega)
  · exact Nat.le_trans (intBits_mul_le hp.c hg.c) (by omega)
theorem BP.trn {m : Nat} {p : P3} (hp : BP m p) : BP m (Cut.trn p) := ⟨intBits_neg_le hp.a, intBits_neg_le hp.b, hp.c⟩
theorem PtP.trn {p : P3} (h : PtP p) : PtP (Cut.trn p) := pt_neg h
theorem sld_ne {g p : P3} (hg : PtP g) (hp : PtP p) : (sld g p).2.2 ≠ 0 := one_ne hp.1 hg.1
theorem PtP.sld {g p : P3} (hg : PtP g) (hp : PtP p) : PtP (nP (Cut.sld g p)) := nP_pt (sld_ne hg hp)
theorem BP.sldN {m n : Nat} {g p : P3} (hg : BP m g) (hp : BP n p) (qg : PtP g) (qp : PtP p) : BP (n + m + 1) (Cut.nP (Cut.sld g p)) := (hg.sld hp).nP (sld_ne qg qp)
theorem sg_neg (x : Int) : sg (-x) = -sg x := by
  unfold sg
  split <;> split <;> (try split) <;> (try split) <;> omega
theorem sg_int (x : Int) : (if 0 < x then (1 : Int) else 0) - (if x < 0 then 1 else 0) = sg x := by
  unfold sg
  split <;> split <;> omega
theorem det3_two (p q : P3) : det3 p q q = 0 := by unfold det3 crs; grind
end Cut

namespace Cut
open PySem L2 L3
open PySem.Builtin.Int (intBits)
def nth (ps : List P3) (n : Nat) : P3 := (ps[n]?).getD (0, 0, 1)
theorem nth_eq {ps : List P3} {n : Nat} (h : n < ps.length) : nth ps n = ps[n] := by unfold nth; rw [List.getElem?_eq_getElem h]; rfl
theorem nth_map {f : P3 → P3} {ps : List P3} {n : Nat} (h : n < ps.length) : nth (ps.map f) n = f (nth ps n) := by
  rw [nth_eq h, nth_eq (by rw [List.length_map]; exact h), List.getElem_map]
theorem nth_mem {ps : List P3} {n : Nat} (h : n < ps.length) : nth ps n ∈ ps := by rw [nth_eq h]; exact List.getElem_mem h
theorem atI_nth {ps : List P3} {n : Nat} (h : n < ps.length) : atI (ps.map dP) (n : Int) = some (dP (nth ps n)) := by rw [nth_eq h]; exact atI_map (atI_ofNat h)
/-- a ring that bulges outward all round, its inside at the left hand -/
def Cvx (ps : List P3) : Prop := 3 ≤ ps.length ∧ ∀ k j, k < ps.length → j < ps.length → j ≠ k → j ≠ (k + 1) % ps.length → sg (det3 (nth ps k) (nth ps ((k + 1) % ps.length)) (nth ps j)) = 1
theorem Cvx.map {f : P3 → P3} {ps : List P3} (hf : ∀ p q r, p ∈ ps → q ∈ ps → r ∈ ps → sg (det3 (f p) (f q) (f r)) = sg (det3 p q r)) (h : Cvx ps) : Cvx (ps.map f) := by
  refine ⟨by rw [List.length_map]; exact h.1, fun k j hk hj h1 h2 => ?_⟩
  rw [List.length_map] at hk hj h2 ⊢
  have hk2 : (k + 1) % ps.length < ps.length := Nat.mod_lt _ (by omega)
  rw [nth_map hk, nth_map hj, nth_map hk2, hf _ _ _ (nth_mem hk) (nth_mem hk2) (nth_mem hj)]
  exact h.2 k j hk hj h1 h2
theorem cvx3 {p q r : P3} (h : sg (det3 p q r) = 1) : Cvx [p, q, r] := by
  refine ⟨by simp, fun k j hk hj h1 h2 => ?_⟩
  have l : [p, q, r].length = 3 := rfl
  rw [l] at hk hj h2 ⊢
  have c1 : det3 q r p = det3 p q r := by unfold det3 crs; grind
  have c2 : det3 r p q = det3 p q r := by unfold det3 crs; grind
  have : k = 0 ∨ k = 1 ∨ k = 2 := by omega
  rcases this with rfl | rfl | rfl
  · have : j = 2 := by omega
    subst this
    exact h
  · have : j = 0 := by omega
    subst this
    show sg (det3 q r p) = 1
    rw [c1]; exact h
  · have : j = 1 := by omega
    subst this
    show sg (det3 r p q) = 1
    rw [c2]; exact h
structure GP (m : Nat) (p : P3) : Prop where
  pt : PtP p
  bp : BP m p
theorem GP.mono {m n : Nat} {p : P3} (h : GP m p) (l : m ≤ n) : GP n p := ⟨h.pt, h.bp.mono l⟩
theorem GP.trn {m : Nat} {p : P3} (h : GP m p) : GP m (Cut.trn p) := ⟨h.pt.trn, h.bp.trn⟩
theorem GP.sl {m n : Nat} {g p : P3} (hg : GP m g) (h : GP n p) : GP (n + m + 1) (nP (sld g p)) := ⟨hg.pt.sld h.pt, hg.bp.sldN h.bp hg.pt h.pt⟩
theorem has_P (p : P3) : has (.T [.I, .I, .I]) (dP p) = true := rfl
theorem has_Ps (ps : List P3) : has (.L (.T [.I, .I, .I])) (.lst (ps.map dP)) = true := by
  simp only [has, List.all_eq_true]
  intro x hx
  obtain ⟨p, _, rfl⟩ := List.mem_map.mp hx
  exact has_P p
theorem side_det (p q r : P3) : p.1 * (q.2.1 * r.2.2 - q.2.2 * r.2.1) - p.2.1 * (q.1 * r.2.2 - q.2.2 * r.1) + p.2.2 * (q.1 * r.2.1 - q.2.1 * r.1) = det3 p q r := by unfold det3 crs; grind
theorem compG_none {α : Type} {f : α → D} {ut : UT} {u : UE} {fs : List Sl} : ∀ {rs : List α} {v0 : Sl} {k : List D → Prop}, (∀ r ∈ rs, ∀ k : Bool → Prop, k false → ut (.val (f r) :: fs) k) → k [] → compG (ugName 0) ut u (rs.map f) (v0 :: fs) k
  | [], _, _, _, hk => hk
  | r :: rs, v0, k, h, hk => by
    refine h r List.mem_cons_self _ ?_
    rw [if_neg Bool.false_ne_true]
    exact compG_none (fun x hx => h x (List.mem_cons_of_mem _ hx)) hk
theorem emod_cast (k n : Nat) : ((k : Int) + 1) % (n : Int) = (((k + 1) % n : Nat) : Int) := by
  rw [Int.natCast_emod]
  rfl
theorem compG_gen {u : UE} {fs : List Sl} {Pp : P3 → Prop} : ∀ {ds : List D} {v0 : Sl} {k : List D → Prop}, (∀ d ∈ ds, ∀ k : D → Prop, (∀ p, Pp p → k (dP p)) → u (.val d :: fs) k) → (∀ ps : List P3, ps.length = ds.length → (∀ p ∈ ps, Pp p) → k (ps.map dP)) → compG (ugName 0) utTrue u ds (v0 :: fs) k
  | [], _, _, _, hk => hk [] rfl (fun _ h => by simp at h)
  | d :: ds, v0, k, h, hk => by
    show (if true = true then u (.val d :: fs) fun y => compG (ugName 0) utTrue u ds (.val d :: fs) fun ys => k (y :: ys) else compG (ugName 0) utTrue u ds (.val d :: fs) k)
    rw [if_pos rfl]
    refine h d List.mem_cons_self _ fun p hp => ?_
    refine compG_gen (Pp := Pp) (fun x hx => h x (List.mem_cons_of_mem _ hx)) fun ps hl hps => ?_
    exact hk (p :: ps) (by simp [hl]) (fun q hq => by
      rcases List.mem_cons.mp hq with rfl | hq
      · exact hp
      · exact hps q hq)
theorem sg_cases (x : Int) : sg x = 1 ∨ sg x = -1 ∨ sg x = 0 := by
  unfold sg
  split
  · exact .inl rfl
  · split
    · exact .inr (.inl rfl)
    · exact .inr (.inr rfl)
theorem det3_rev (p q r : P3) : det3 r q p = -det3 p q r := by unfold det3 crs; grind
theorem flats_P (f : P3 → P3) : ∀ ps : List P3, flats (ps.map fun p => dP (f p)) = true
  | [] => rfl
  | p :: r => by
    rw [List.map_cons, flats, flats_P f r]
    rfl
theorem flats_P0 (ps : List P3) : flats (ps.map dP) = true := flats_P id ps
theorem map_dP (f : P3 → P3) (ps : List P3) : (ps.map fun p => dP (f p)) = (ps.map f).map dP := by rw [List.map_map]; rfl
end Cut

namespace Cut
open PySem L2 L3
open PySem.Builtin.Int (intBits)
theorem sg_pos {x : Int} (h : 0 < x) : sg x = 1 := by unfold sg; rw [if_pos h]
section
variable {w h : Int × Int}
end
/-- twice the area, as it is summed up -/
def stp (a : Int × Int) (p q : P3) : Int × Int := (a.1 * p.2.2 * q.2.2 + (p.1 * q.2.1 - p.2.1 * q.1) * a.2, a.2 * p.2.2 * q.2.2)
def ta (ps : List P3) (k : Nat) : Int × Int := (List.range k).foldl (fun a k => stp a (nth ps ((k + ps.length - 1) % ps.length)) (nth ps k)) (0, 1)
theorem ta_succ (ps : List P3) (k : Nat) : ta ps (k + 1) = stp (ta ps k) (nth ps ((k + ps.length - 1) % ps.length)) (nth ps k) := by
  unfold ta; rw [List.range_succ, List.foldl_append]; rfl
theorem ta_ok {ps : List P3} {m : Nat} (hps : ∀ p ∈ ps, GP m p) : ∀ k, k ≤ ps.length → 0 < (ta ps k).2 ∧ intBits (ta ps k).1 ≤ (2 * m + 2) * k + 1 ∧ intBits (ta ps k).2 ≤ (2 * m + 2) * k + 1
  | 0, _ => ⟨(show (0 : Int) < 1 by decide), Nat.le_trans (show intBits 0 ≤ 1 by decide) (by omega), Nat.le_trans (show intBits 1 ≤ 1 by decide) (by omega)⟩
  | k + 1, h => by
    obtain ⟨b0, b1, b2⟩ := ta_ok hps k (by omega)
    have n0 : 0 < ps.length := by omega
    have hp := hps _ (nth_mem (ps := ps) (Nat.mod_lt (k + ps.length - 1) n0))
    have hq := hps _ (nth_mem (ps := ps) (n := k) (by omega))
    rw [ta_succ]
    generalize nth ps ((k + ps.length - 1) % ps.length) = p at *
    generalize nth ps k = q at *
    generalize ta ps k = a at *
    have e : (2 * m + 2) * (k + 1) + 1 = (2 * m + 2) * k + 1 + (2 * m + 2) := by rw [Nat.mul_add]; omega
    rw [e]
    refine ⟨Int.mul_pos (Int.mul_pos b0 hp.pt.1) hq.pt.1, ?_, ?_⟩
    · refine Nat.le_trans (intBits_add_le (m := (2 * m + 2) * k + 1 + m + m) (n := m + m + 1 + ((2 * m + 2) * k + 1)) ?_ ?_) (by omega)
      · exact intBits_mul_le (intBits_mul_le b1 hp.bp.c) hq.bp.c
      · refine intBits_mul_le ?_ b2
        exact Nat.le_trans (intBits_sub_le (intBits_mul_le hp.bp.a hq.bp.b) (intBits_mul_le hp.bp.b hq.bp.a)) (by omega)
    · exact Nat.le_trans (intBits_mul_le (intBits_mul_le b2 hp.bp.c) hq.bp.c) (by omega)
/-- what is told of twice the area of a ring -/
def taP (ps : List P3) : P3 := npt (ta ps ps.length).1 0 (ta ps ps.length).2
section
variable {w h : Int × Int}
end
theorem atI_back1 {ps : List P3} {k : Nat} (h : k < ps.length) : atI (ps.map dP) ((k : Int) - 1) = some (dP (nth ps ((k + ps.length - 1) % ps.length))) := by
  cases k with
  | zero =>
    have e : ((0 : Nat) + ps.length - 1) % ps.length = ps.length - 1 := by rw [Nat.zero_add]; exact Nat.mod_eq_of_lt (by omega)
    rw [e, nth_eq (by omega)]
    unfold atI ixN
    rw [if_neg (by omega), if_pos (by rw [List.length_map]; omega)]
    show (ps.map dP)[_]? = _
    rw [List.getElem?_map, List.length_map, show (((0 : Nat) : Int) - 1 + (ps.length : Int)).toNat = ps.length - 1 by omega, List.getElem?_eq_getElem (by omega)]
    rfl
  | succ k =>
    have e : (k + 1 + ps.length - 1) % ps.length = k := by
      rw [show k + 1 + ps.length - 1 = k + ps.length by omega, Nat.add_mod_right]; exact Nat.mod_eq_of_lt (by omega)
    rw [e, show (((k + 1 : Nat) : Int) - 1) = (k : Int) by omega]
    exact atI_nth (by omega)
section
variable {s w h : Int × Int}
end
end Cut

/-! Texts: what the library says of them, over values. -/
namespace L2
open PySem PySem.Spec PyProof.Rows PySem.W
section
variable {X : Cx}
end
end L2

/-! Texts: written by parts, walked, compared by a chain. -/
namespace L2
open PySem PySem.Spec PyProof.Rows PySem.W
section
variable {X : Cx}
end
end L2

/-! Trees: texts. -/
namespace L3
open PySem L2
section
variable {X : Cx} {a b c e : Expr} {ua ub uc u : UE} {pos p p1 p2 p3 : Pos}
section
variable {o : Expr} {uo : UE} {ul : UL} {apos cpos : Pos}
end
end
end L3

/-! Texts of numbers: signs as lists. -/
namespace L3
open PySem L2 PyProof.Rows
end L3

/-! Texts: parts, splitting, signs in texts, repetition; all of a list of truth values. -/
namespace L2
open PySem PySem.Spec PyProof.Rows PySem.W
section
variable {X : Cx}
end
end L2

namespace L3
open PySem L2
section
variable {X : Cx} {a b c e : Expr} {ua ub uc u : UE} {pos p p1 p2 p3 : Pos}
section
variable {o : Expr} {uo : UE} {ul : UL} {apos cpos : Pos}
end
end
end L3

/-! Defs that raise: what passes through, over trees. -/
namespace L2
open PySem PySem.Spec PyProof.Rows PySem.W
end L2
namespace L3
open PySem L2 PySem.W
section
variable (K : PySem.W.Frag) (R : Hp)
end
section
variable {X : Cx} {R : Hp} {Z : Prop} {a b c e : Expr} {es : List Expr} {ua ub u u' : UE} {ul : UL} {uc : UT} {s t : US} {pos p : Pos} {E : XK} {C : Addr}
end
section
variable {P : Program} {w : World} {K : PySem.W.Frag} {mg : Str → Option Value} {base : Heap}
end
end L3

/-! Texts that are whole numbers, ratios, points. -/
namespace L3
open PySem L2 PyProof.Rows
end L3

namespace Cut
open PySem L2 L3
open PySem.Builtin.Int (intBits)
theorem d_cyc (p q r : P3) : det3 q r p = det3 p q r := by unfold det3 crs; grind
theorem d_alt (p q r : P3) : det3 q p r = -det3 p q r := by unfold det3 crs; grind
theorem d_same (p q : P3) : det3 p p q = 0 := by unfold det3 crs; grind
theorem plucker (o u a b c : P3) : det3 o u b * det3 o a c = det3 o u a * det3 o b c + det3 o u c * det3 o a b := by
  unfold det3 crs; grind
theorem sg_one {x : Int} (h : sg x = 1) : 0 < x := by
  unfold sg at h
  split at h
  · assumption
  · split at h <;> omega
/-- all triples in their order go round with the inside at the left hand -/
def Tri (ps : List P3) : Prop := ∀ i j k, i < j → j < k → k < ps.length → 0 < det3 (nth ps i) (nth ps j) (nth ps k)
theorem Cvx.edge {ps : List P3} (h : Cvx ps) {k j : Nat} (hk : k + 1 < ps.length) (hj : j < ps.length) (n1 : j ≠ k) (n2 : j ≠ k + 1) : 0 < det3 (nth ps k) (nth ps (k + 1)) (nth ps j) := by
  have := h.2 k j (by omega) hj n1 (by rw [Nat.mod_eq_of_lt hk]; exact n2)
  rw [Nat.mod_eq_of_lt hk] at this
  exact sg_one this
theorem Cvx.tri {ps : List P3} (h : Cvx ps) : Tri ps := by
  intro i j k hij hjk hk
  induction k with
  | zero => omega
  | succ k ih =>
    by_cases e : j = k
    · subst e
      rw [← d_cyc]
      exact h.edge hk (by omega) (by omega) (by omega)
    · have h1 := ih (by omega) (by omega)
      have h2 : 0 < det3 (nth ps i) (nth ps k) (nth ps (k + 1)) := by
        rw [← d_cyc]
        exact h.edge hk (by omega) (by omega) (by omega)
      have ub := h.edge (k := i) (j := k) (by omega) (by omega) (by omega) (by omega)
      have uc := h.edge (k := i) (j := k + 1) (by omega) (by omega) (by omega) (by omega)
      have ua : 0 ≤ det3 (nth ps i) (nth ps (i + 1)) (nth ps j) := by
        by_cases z : j = i + 1
        · subst z
          have : det3 (nth ps i) (nth ps (i + 1)) (nth ps (i + 1)) = 0 := det3_two _ _
          omega
        · exact Int.le_of_lt (h.edge (by omega) (by omega) (by omega) z)
      have pl := plucker (nth ps i) (nth ps (i + 1)) (nth ps j) (nth ps k) (nth ps (k + 1))
      have r1 := Int.mul_nonneg ua (Int.le_of_lt h2)
      have r2 := Int.mul_pos uc h1
      have : 0 < det3 (nth ps i) (nth ps (i + 1)) (nth ps k) * det3 (nth ps i) (nth ps j) (nth ps (k + 1)) := by omega
      exact Int.pos_of_mul_pos_right this ub
theorem Tri.cvx {ps : List P3} (hl : 3 ≤ ps.length) (h : Tri ps) : Cvx ps := by
  refine ⟨hl, fun k j hk hj n1 n2 => sg_pos ?_⟩
  by_cases e : k + 1 < ps.length
  · rw [Nat.mod_eq_of_lt e] at n2 ⊢
    by_cases z : k < j
    · exact h k (k + 1) j (by omega) (by omega) hj
    · rw [d_cyc]
      exact h j k (k + 1) (by omega) (by omega) e
  · have ek : k + 1 = ps.length := by omega
    rw [ek, Nat.mod_self] at n2 ⊢
    rw [← d_cyc]
    exact h 0 j k (by omega) (by omega) hk
/-- the same by the lists' own build: closed under sublists -/
def T1 (a : P3) : List P3 → Prop
  | [] => True
  | b :: r => (∀ c ∈ r, 0 < det3 a b c) ∧ T1 a r
def T0 : List P3 → Prop
  | [] => True
  | a :: r => T1 a r ∧ T0 r
theorem T1.sub {a : P3} {l m : List P3} (s : l.Sublist m) : T1 a m → T1 a l := by
  induction s with
  | slnil => exact id
  | cons b s ih => exact fun h => ih h.2
  | cons_cons b s ih => exact fun h => ⟨fun c hc => h.1 c (s.subset hc), ih h.2⟩
theorem T0.sub {l m : List P3} (s : l.Sublist m) : T0 m → T0 l := by
  induction s with
  | slnil => exact id
  | cons b s ih => exact fun h => ih h.2
  | cons_cons b s ih => exact fun h => ⟨T1.sub s h.1, ih h.2⟩
theorem nth_succ (a : P3) (r : List P3) (i : Nat) : nth (a :: r) (i + 1) = nth r i := rfl
theorem nth_zero (a : P3) (r : List P3) : nth (a :: r) 0 = a := rfl
theorem nth_memL {r : List P3} {i : Nat} (h : i < r.length) : nth r i ∈ r := by
  induction r generalizing i with
  | nil => exact absurd h (by simp)
  | cons a r ih =>
    cases i with
    | zero => exact List.mem_cons_self
    | succ i => exact List.mem_cons_of_mem _ (ih (by simpa using h))
theorem mem_nthL {r : List P3} {c : P3} (h : c ∈ r) : ∃ i, i < r.length ∧ nth r i = c := by
  induction r with
  | nil => cases h
  | cons a r ih =>
    rcases List.mem_cons.mp h with rfl | h
    · exact ⟨0, by simp, rfl⟩
    · obtain ⟨i, hi, e⟩ := ih h
      exact ⟨i + 1, by simpa using hi, e⟩
theorem t1_iff (a : P3) : ∀ r : List P3, T1 a r ↔ ∀ j k, j < k → k < r.length → 0 < det3 a (nth r j) (nth r k)
  | [] => ⟨fun _ j k _ h => absurd h (by simp), fun _ => trivial⟩
  | b :: r => by
    constructor
    · rintro ⟨h1, h2⟩ j k hjk hk
      cases k with
      | zero => omega
      | succ k =>
        have hk : k < r.length := by simpa using hk
        cases j with
        | zero => exact h1 _ (nth_memL hk)
        | succ j => exact (t1_iff a r).mp h2 j k (by omega) hk
    · intro h
      refine ⟨fun c hc => ?_, (t1_iff a r).mpr fun j k hjk hk => h (j + 1) (k + 1) (by omega) (by simpa using hk)⟩
      obtain ⟨i, hi, rfl⟩ := mem_nthL hc
      exact h 0 (i + 1) (by omega) (by simpa using hi)
theorem t0_iff : ∀ ps : List P3, T0 ps ↔ Tri ps
  | [] => ⟨fun _ i j k _ _ h => absurd h (by simp), fun _ => trivial⟩
  | a :: r => by
    constructor
    · rintro ⟨h1, h2⟩ i j k hij hjk hk
      cases k with
      | zero => omega
      | succ k =>
        cases j with
        | zero => omega
        | succ j =>
          have hk : k < r.length := by simpa using hk
          cases i with
          | zero => exact (t1_iff a r).mp h1 j k (by omega) hk
          | succ i => exact (t0_iff r).mp h2 i j k (by omega) (by omega) hk
    · intro h
      exact ⟨(t1_iff a r).mpr fun j k hjk hk => h 0 (j + 1) (k + 1) (by omega) (by omega) (by simpa using hk), (t0_iff r).mpr fun i j k h1 h2 hk => h (i + 1) (j + 1) (k + 1) (by omega) (by omega) (by simpa using hk)⟩
/-- the point in which a side meets a line: so much of the one end and so much of the other -/
theorem triple_product (c a b : P3) : crs c (crs a b) = lc (c.1 * b.1 + c.2.1 * b.2.1 + c.2.2 * b.2.2) a (-(c.1 * a.1 + c.2.1 * a.2.1 + c.2.2 * a.2.2)) b := by
  unfold crs lc
  refine p3_ext ?_ ?_ ?_ <;> dsimp only <;> grind
theorem d_lc1 (s t : Int) (a b q r : P3) : det3 (lc s a t b) q r = s * det3 a q r + t * det3 b q r := by unfold det3 crs lc; dsimp only; grind
theorem d_sc1 (s : Int) (a q r : P3) : det3 (sc s a) q r = s * det3 a q r := by unfold det3 crs sc; dsimp only; grind
end Cut

namespace Cut
open PySem L2 L3
/-! ### lists of corners put together -/
theorem t1_snoc {b a : P3} : ∀ {r : List P3}, T1 b r → (∀ c ∈ r, 0 < det3 b c a) → T1 b (r ++ [a])
  | [], _, _ => ⟨fun c hc => absurd hc (by simp), trivial⟩
  | d :: r, h, k => ⟨fun c hc => by
      rcases List.mem_append.mp hc with hc | hc
      · exact h.1 c hc
      · rw [List.mem_singleton.mp hc]; exact k d List.mem_cons_self, t1_snoc h.2 fun c hc => k c (List.mem_cons_of_mem _ hc)⟩
theorem t0_snoc {a : P3} : ∀ {r : List P3}, T0 r → T1 a r → T0 (r ++ [a])
  | [], _, _ => ⟨trivial, trivial⟩
  | b :: r, h, k => ⟨t1_snoc h.1 fun c hc => by rw [d_cyc]; exact k.1 c hc, t0_snoc h.2 k.2⟩
/-- begun at the next corner -/
theorem T0.rot {a : P3} {r : List P3} (h : T0 (a :: r)) : T0 (r ++ [a]) := t0_snoc h.2 h.1
/-- each two of the first list, in their order, and each of the second -/
def C2 : List P3 → List P3 → Prop
  | [], _ => True
  | x :: xs, zs => (∀ y ∈ xs, ∀ z ∈ zs, 0 < det3 x y z) ∧ C2 xs zs
theorem t1_app {x : P3} : ∀ {xs zs : List P3}, T1 x (xs ++ zs) ↔ T1 x xs ∧ T1 x zs ∧ ∀ y ∈ xs, ∀ z ∈ zs, 0 < det3 x y z
  | [], zs => ⟨fun h => ⟨trivial, h, fun y hy => absurd hy (by simp)⟩, fun h => h.2.1⟩
  | y :: xs, zs => by
    constructor
    · rintro ⟨h1, h2⟩
      obtain ⟨k1, k2, k3⟩ := t1_app.mp h2
      refine ⟨⟨fun c hc => h1 c (List.mem_append_left _ hc), k1⟩, k2, fun w hw z hz => ?_⟩
      rcases List.mem_cons.mp hw with rfl | hw
      · exact h1 z (List.mem_append_right _ hz)
      · exact k3 w hw z hz
    · rintro ⟨⟨h1, h2⟩, h3, h4⟩
      refine ⟨fun c hc => ?_, t1_app.mpr ⟨h2, h3, fun w hw z hz => h4 w (List.mem_cons_of_mem _ hw) z hz⟩⟩
      rcases List.mem_append.mp hc with hc | hc
      · exact h1 c hc
      · exact h4 y List.mem_cons_self c hc
theorem t0_app : ∀ {xs zs : List P3}, T0 (xs ++ zs) ↔ T0 xs ∧ T0 zs ∧ (∀ x ∈ xs, T1 x zs) ∧ C2 xs zs
  | [], zs => ⟨fun h => ⟨trivial, h, fun y hy => absurd hy (by simp), trivial⟩, fun h => h.2.1⟩
  | x :: xs, zs => by
    constructor
    · rintro ⟨h1, h2⟩
      obtain ⟨k1, k2, k3, k4⟩ := t0_app.mp h2
      obtain ⟨j1, j2, j3⟩ := t1_app.mp h1
      refine ⟨⟨j1, k1⟩, k2, fun w hw => ?_, ⟨j3, k4⟩⟩
      rcases List.mem_cons.mp hw with rfl | hw
      · exact j2
      · exact k3 w hw
    · rintro ⟨⟨h1, h2⟩, h3, h4, h5, h6⟩
      exact ⟨t1_app.mpr ⟨h1, h4 x List.mem_cons_self, h5⟩, t0_app.mpr ⟨h2, h3, fun w hw => h4 w (List.mem_cons_of_mem _ hw), h6⟩⟩
theorem c2_of {zs ws : List P3} (h : ∀ x y, (∀ z ∈ zs, 0 < det3 x y z) → ∀ z ∈ ws, 0 < det3 x y z) : ∀ {xs : List P3}, C2 xs zs → C2 xs ws
  | [], _ => trivial
  | x :: xs, k => ⟨fun y hy => h x y (k.1 y hy), c2_of h k.2⟩
/-! ### a point between two corners -/
/-- m lies between p and q: so much of the one and so much of the other, up to a number above 0 -/
def Btw (p q m : P3) : Prop := ∃ s a b : Int, 0 < s ∧ 0 < a ∧ 0 < b ∧ sc s m = lc a p b q
theorem pos_of {s x y : Int} (hs : 0 < s) (e : s * x = y) (hy : 0 < y) : 0 < x := by
  rw [← e] at hy
  exact Int.pos_of_mul_pos_right hy hs
theorem btw_d1 {p q m u v : P3} (h : Btw p q m) (h1 : 0 ≤ det3 p u v) (h2 : 0 ≤ det3 q u v) (h3 : 0 < det3 p u v ∨ 0 < det3 q u v) : 0 < det3 m u v := by
  obtain ⟨s, a, b, hs, ha, hb, e⟩ := h
  have k : s * det3 m u v = a * det3 p u v + b * det3 q u v := by rw [← d_sc1, e, d_lc1]
  refine pos_of hs k ?_
  have n1 := Int.mul_nonneg (Int.le_of_lt ha) h1
  have n2 := Int.mul_nonneg (Int.le_of_lt hb) h2
  rcases h3 with h3 | h3
  · have := Int.mul_pos ha h3; omega
  · have := Int.mul_pos hb h3; omega
theorem btw_d2 {p q m u v : P3} (h : Btw p q m) (h1 : 0 ≤ det3 u p v) (h2 : 0 ≤ det3 u q v) (h3 : 0 < det3 u p v ∨ 0 < det3 u q v) : 0 < det3 u m v := by
  rw [← d_cyc] at h1 h2 ⊢
  rw [← d_cyc u p v, ← d_cyc u q v] at h3
  exact btw_d1 h h1 h2 h3
theorem btw_d3 {p q m u v : P3} (h : Btw p q m) (h1 : 0 ≤ det3 u v p) (h2 : 0 ≤ det3 u v q) (h3 : 0 < det3 u v p ∨ 0 < det3 u v q) : 0 < det3 u v m := by
  rw [d_cyc] at h1 h2 ⊢
  rw [d_cyc p u v, d_cyc q u v] at h3
  exact btw_d1 h h1 h2 h3
theorem btw_t1 {p q m : P3} (h : Btw p q m) : ∀ {ys : List P3}, T1 p ys → T1 q ys → T1 m ys
  | [], _, _ => trivial
  | y :: ys, h1, h2 => ⟨fun c hc => btw_d1 h (Int.le_of_lt (h1.1 c hc)) (Int.le_of_lt (h2.1 c hc)) (.inl (h1.1 c hc)), btw_t1 h h1.2 h2.2⟩
theorem le0 {x : Int} (z : 0 < x) : 0 ≤ x := Int.le_of_lt z
theorem eq0 {x : Int} (z : x = 0) : 0 ≤ x := by omega
/-- the second of two corners drawn back along their side -/
theorem T0.back {xs ys : List P3} {p q m : P3} (h : T0 (xs ++ p :: q :: ys)) (hm : Btw p q m) : T0 (xs ++ p :: m :: ys) := by
  obtain ⟨h1, ⟨⟨p1, p2⟩, q1, q2⟩, h3, h4⟩ := t0_app.mp h
  refine t0_app.mpr ⟨h1, ⟨⟨fun c hc => ?_, p2⟩, btw_t1 hm p2 q1, q2⟩, fun x hx => ?_, c2_of (fun x y hz z hw => ?_) h4⟩
  · exact btw_d2 hm (eq0 (d_same p c)) (le0 (p1 c hc)) (.inr (p1 c hc))
  · obtain ⟨k1, k2, k3⟩ := h3 x hx
    refine ⟨fun c hc => ?_, fun c hc => ?_, k3⟩
    · rcases List.mem_cons.mp hc with rfl | hc
      · exact btw_d3 hm (eq0 (det3_two x p)) (le0 (k1 q List.mem_cons_self)) (.inr (k1 q List.mem_cons_self))
      · exact k1 c (List.mem_cons_of_mem _ hc)
    · exact btw_d2 hm (le0 (k1 c (List.mem_cons_of_mem _ hc))) (le0 (k2 c hc)) (.inr (k2 c hc))
  · rcases List.mem_cons.mp hw with rfl | hw
    · exact hz _ List.mem_cons_self
    · rcases List.mem_cons.mp hw with rfl | hw
      · exact btw_d3 hm (le0 (hz p List.mem_cons_self)) (le0 (hz q (List.mem_cons_of_mem _ List.mem_cons_self))) (.inl (hz p List.mem_cons_self))
      · exact hz z (List.mem_cons_of_mem _ (List.mem_cons_of_mem _ hw))
/-- the first of two corners drawn on along their side -/
theorem T0.on {xs ys : List P3} {p q m : P3} (h : T0 (xs ++ p :: q :: ys)) (hm : Btw p q m) : T0 (xs ++ m :: q :: ys) := by
  obtain ⟨h1, ⟨⟨p1, p2⟩, q1, q2⟩, h3, h4⟩ := t0_app.mp h
  refine t0_app.mpr ⟨h1, ⟨⟨fun c hc => ?_, btw_t1 hm p2 q1⟩, q1, q2⟩, fun x hx => ?_, c2_of (fun x y hz z hw => ?_) h4⟩
  · exact btw_d1 hm (le0 (p1 c hc)) (eq0 (d_same q c)) (.inl (p1 c hc))
  · obtain ⟨k1, k2, k3⟩ := h3 x hx
    refine ⟨fun c hc => ?_, k2, k3⟩
    rcases List.mem_cons.mp hc with rfl | hc
    · exact btw_d2 hm (le0 (k1 c List.mem_cons_self)) (eq0 (det3_two x c)) (.inl (k1 c List.mem_cons_self))
    · exact btw_d2 hm (le0 (k1 c (List.mem_cons_of_mem _ hc))) (le0 (k2 c hc)) (.inr (k2 c hc))
  · rcases List.mem_cons.mp hw with rfl | hw
    · exact btw_d3 hm (le0 (hz p List.mem_cons_self)) (le0 (hz q (List.mem_cons_of_mem _ List.mem_cons_self))) (.inl (hz p List.mem_cons_self))
    · exact hz z (List.mem_cons_of_mem _ hw)
/-- a corner cut off -/
theorem T0.off {xs ys : List P3} {p q r m n : P3} (h : T0 (xs ++ p :: q :: r :: ys)) (hm : Btw p q m) (hn : Btw q r n) : T0 (xs ++ p :: m :: n :: r :: ys) := by
  have e1 := T0.on (xs := xs ++ [p]) (p := q) (q := r) (by rw [List.append_assoc]; exact h) hn
  rw [List.append_assoc] at e1
  obtain ⟨h1, ⟨⟨p1, p2⟩, q1, q2⟩, h3, h4⟩ := t0_app.mp h
  obtain ⟨_, ⟨⟨a1, a2⟩, b1, b2⟩, c3, c4⟩ := t0_app.mp (show T0 (xs ++ p :: n :: r :: ys) from e1)
  have pq : T0 (xs ++ p :: m :: r :: ys) := h.back hm
  obtain ⟨_, ⟨⟨d1, d2⟩, f1, f2⟩, g3, g4⟩ := t0_app.mp pq
  -- p q n, q n c, x q n
  have pqn : 0 < det3 p q n := btw_d3 hn (eq0 (det3_two p q)) (le0 (p1 r List.mem_cons_self)) (.inr (p1 r List.mem_cons_self))
  have mn : ∀ c ∈ r :: ys, 0 < det3 m n c := fun c hc => by
    refine btw_d1 hm (le0 (a1 c hc)) ?_ (.inl (a1 c hc))
    rcases List.mem_cons.mp hc with rfl | hc
    · exact eq0 (by
        obtain ⟨s, a, b, hs, _, _, e⟩ := hn
        have k : s * det3 q n c = a * det3 q q c + b * det3 q c c := by
          rw [← d_cyc q n c, ← d_cyc q q c, ← d_cyc q c c, ← d_sc1, e, d_lc1]
        rw [d_same, det3_two, Int.mul_zero, Int.mul_zero] at k
        rcases Int.mul_eq_zero.mp k with z | z
        · omega
        · exact z)
    · exact le0 (btw_d2 hn (eq0 (d_same q c)) (le0 (q1.1 c hc)) (.inr (q1.1 c hc)))
  refine t0_app.mpr ⟨h1, ⟨⟨fun c hc => ?_, a1, a2⟩, ⟨mn, f1⟩, b1, b2⟩, fun x hx => ?_, c2_of (fun x y hz z hw => ?_) h4⟩
  · rcases List.mem_cons.mp hc with rfl | hc
    · exact btw_d2 hm (eq0 (d_same p c)) (le0 pqn) (.inr pqn)
    · exact d1 c hc
  · obtain ⟨k1, k2, k3⟩ := h3 x hx
    obtain ⟨l1, l2, l3⟩ := c3 x hx
    obtain ⟨o1, o2, o3⟩ := g3 x hx
    refine ⟨fun c hc => ?_, fun c hc => ?_, l2, l3⟩
    · rcases List.mem_cons.mp hc with rfl | hc
      · exact o1 c List.mem_cons_self
      · exact l1 c hc
    · rcases List.mem_cons.mp hc with rfl | hc
      · have xqn : 0 < det3 x q c := btw_d3 hn (eq0 (det3_two x q)) (le0 (k2 r List.mem_cons_self)) (.inr (k2 r List.mem_cons_self))
        exact btw_d2 hm (le0 (l1 c List.mem_cons_self)) (le0 xqn) (.inr xqn)
      · exact o2 c hc
  · have zq := hz q (List.mem_cons_of_mem _ List.mem_cons_self)
    have zp := hz p List.mem_cons_self
    have zr := hz r (List.mem_cons_of_mem _ (List.mem_cons_of_mem _ List.mem_cons_self))
    rcases List.mem_cons.mp hw with rfl | hw
    · exact zp
    · rcases List.mem_cons.mp hw with rfl | hw
      · exact btw_d3 hm (le0 zp) (le0 zq) (.inl zp)
      · rcases List.mem_cons.mp hw with rfl | hw
        · exact btw_d3 hn (le0 zq) (le0 zr) (.inl zq)
        · exact hz z (List.mem_cons_of_mem _ (List.mem_cons_of_mem _ hw))
/-! ### hands of four corners -/
def ln (l p : P3) : Int := l.1 * p.1 + l.2.1 * p.2.1 + l.2.2 * p.2.2
theorem four (l p q r s : P3) : det3 q r s * ln l p - det3 p r s * ln l q + det3 p q s * ln l r - det3 p q r * ln l s = 0 := by
  unfold det3 crs ln; grind
end Cut

namespace Cut
open PySem L2 L3
theorem T1.one {a : P3} : ∀ {xs : List P3}, C2 xs [a] → T1 a xs
  | [], _ => trivial
  | x :: xs, h => ⟨fun c hc => by rw [← d_cyc]; exact h.1 c hc a List.mem_cons_self, T1.one h.2⟩
theorem T0.unrot {a : P3} {r : List P3} (h : T0 (r ++ [a])) : T0 (a :: r) := by
  obtain ⟨h1, _, _, h4⟩ := t0_app.mp h
  exact ⟨T1.one h4, h1⟩
/-- begun at any corner -/
theorem T0.turn : ∀ {xs ys : List P3}, T0 (xs ++ ys) → T0 (ys ++ xs)
  | [], ys, h => by rw [List.append_nil]; exact h
  | x :: xs, ys, h => by
    have h1 : T0 (xs ++ (ys ++ [x])) := by rw [← List.append_assoc]; exact T0.rot h
    have h2 := T0.turn h1
    rw [List.append_assoc] at h2
    exact h2
/-! ### a ring cut: what lies at the one hand -/
section
variable (f : P3 → Int) (mt : P3 → P3 → P3)
def kp (p : P3) : List P3 := if 0 ≤ f p then [p] else []
def mx (p q : P3) : List P3 := if f p * f q < 0 then [mt p q] else []
def sgs : List P3 → P3 → List P3
  | [], _ => []
  | p :: r, w => kp f p ++ mx f mt p (r.headD w) ++ sgs r w
def cutR (ps : List P3) : List P3 := sgs f mt ps (ps.headD (0, 0, 1))
end
variable {f : P3 → Int} {mt : P3 → P3 → P3}
theorem headD_app (xs ys : List P3) (w : P3) : (xs ++ ys).headD w = xs.headD (ys.headD w) := by
  cases xs <;> rfl
theorem sgs_app (w : P3) : ∀ xs ys : List P3, sgs f mt (xs ++ ys) w = sgs f mt xs (ys.headD w) ++ sgs f mt ys w
  | [], _ => rfl
  | p :: xs, ys => by
    show kp f p ++ mx f mt p ((xs ++ ys).headD w) ++ sgs f mt (xs ++ ys) w = kp f p ++ mx f mt p (xs.headD (ys.headD w)) ++ sgs f mt xs (ys.headD w) ++ sgs f mt ys w
    rw [sgs_app w xs ys, headD_app, List.append_assoc, List.append_assoc, List.append_assoc]
/-- cut from another corner on it is the same, begun elsewhere -/
theorem cutR_swap (xs ys : List P3) : ∃ P Q, cutR f mt (xs ++ ys) = P ++ Q ∧ cutR f mt (ys ++ xs) = Q ++ P := by
  cases xs with
  | nil => exact ⟨[], cutR f mt ys, rfl, by rw [List.append_nil, List.append_nil]⟩
  | cons x xs =>
    cases ys with
    | nil => exact ⟨cutR f mt (x :: xs), [], by rw [List.append_nil, List.append_nil], rfl⟩
    | cons y ys =>
      refine ⟨sgs f mt (x :: xs) y, sgs f mt (y :: ys) x, ?_, ?_⟩
      · unfold cutR; rw [sgs_app]; rfl
      · unfold cutR; rw [sgs_app]; rfl
theorem cutR_turn {xs ys : List P3} (h : T0 (cutR f mt (ys ++ xs)) ∧ 3 ≤ (cutR f mt (ys ++ xs)).length) : T0 (cutR f mt (xs ++ ys)) ∧ 3 ≤ (cutR f mt (xs ++ ys)).length := by
  obtain ⟨P, Q, e1, e2⟩ := cutR_swap (f := f) (mt := mt) xs ys
  rw [e1]
  rw [e2] at h
  refine ⟨T0.turn h.1, ?_⟩
  have := h.2
  rw [List.length_append] at this ⊢
  omega
theorem sgs_in {w : P3} : ∀ {a : P3} {A : List P3}, (∀ p ∈ A ++ [a], 0 ≤ f p) → sgs f mt (A ++ [a]) w = A ++ [a] ++ mx f mt a w
  | a, [], h => by
    show kp f a ++ mx f mt a w ++ [] = [a] ++ mx f mt a w
    unfold kp
    rw [if_pos (h a (by simp)), List.append_nil]
  | a, p :: A, h => by
    show kp f p ++ mx f mt p ((A ++ [a]).headD w) ++ sgs f mt (A ++ [a]) w = p :: A ++ [a] ++ mx f mt a w
    rw [sgs_in fun q hq => h q (List.mem_cons_of_mem _ hq)]
    have hp := h p List.mem_cons_self
    have hq : 0 ≤ f ((A ++ [a]).headD w) := by
      cases A with
      | nil => exact h a (by simp)
      | cons b A => exact h b (by simp)
    unfold kp mx
    rw [if_pos hp, if_neg (by have := Int.mul_nonneg hp hq; omega)]
    simp
theorem sgs_out {w : P3} : ∀ {s : P3} {N : List P3}, (∀ p ∈ N ++ [s], f p < 0) → sgs f mt (N ++ [s]) w = mx f mt s w
  | s, [], h => by
    show kp f s ++ mx f mt s w ++ [] = mx f mt s w
    unfold kp
    rw [if_neg (by have := h s (by simp); omega), List.append_nil, List.nil_append]
  | s, p :: N, h => by
    show kp f p ++ mx f mt p ((N ++ [s]).headD w) ++ sgs f mt (N ++ [s]) w = mx f mt s w
    rw [sgs_out fun q hq => h q (List.mem_cons_of_mem _ hq)]
    have hp := h p List.mem_cons_self
    have hq : f ((N ++ [s]).headD w) < 0 := by
      cases N with
      | nil => exact h s (by simp)
      | cons b N => exact h b (by simp)
    unfold kp mx
    rw [if_neg (by omega), if_neg (by have := Int.mul_pos_of_neg_of_neg hp hq; omega)]
    rfl
/-- a side that meets the line does so between its ends -/
def Meets (f : P3 → Int) (mt : P3 → P3 → P3) : Prop := ∀ p q, f p * f q < 0 → Btw p q (mt p q)
theorem mx_yes {p q : P3} (h : f p * f q < 0) : mx f mt p q = [mt p q] := by unfold mx; rw [if_pos h]
theorem mx_no {p q : P3} (h : ¬ f p * f q < 0) : mx f mt p q = [] := by unfold mx; rw [if_neg h]
theorem neg_mul {a b : Int} (ha : 0 < a) (hb : b < 0) : a * b < 0 := Int.mul_neg_of_pos_of_neg ha hb
/-- the ring with all that is at the one hand first -/
theorem cut_norm {b : P3} {A N : List P3} {s : P3} (hM : Meets f mt) (h : T0 ((A ++ [b]) ++ (N ++ [s]))) (hA : ∀ p ∈ A ++ [b], 0 ≤ f p) (hN : ∀ p ∈ N ++ [s], f p < 0) (hl : 3 ≤ ((A ++ [b]) ++ (N ++ [s])).length) (hp : ∃ p ∈ A ++ [b], 0 < f p) :
    T0 (cutR f mt ((A ++ [b]) ++ (N ++ [s]))) ∧ 3 ≤ (cutR f mt ((A ++ [b]) ++ (N ++ [s]))).length := by
  -- the first corner a, the first beyond n
  obtain ⟨a, A', ea⟩ : ∃ a A', A ++ [b] = a :: A' := by
    cases A with
    | nil => exact ⟨b, [], rfl⟩
    | cons a A => exact ⟨a, A ++ [b], rfl⟩
  obtain ⟨n, N', en⟩ : ∃ n N', N ++ [s] = n :: N' := by
    cases N with
    | nil => exact ⟨s, [], rfl⟩
    | cons n N => exact ⟨n, N ++ [s], rfl⟩
  have fa : 0 ≤ f a := hA a (by rw [ea]; exact List.mem_cons_self)
  have fb : 0 ≤ f b := hA b (by simp)
  have fn : f n < 0 := hN n (by rw [en]; exact List.mem_cons_self)
  have fs : f s < 0 := hN s (by simp)
  have e : cutR f mt ((A ++ [b]) ++ (N ++ [s])) = (A ++ [b]) ++ mx f mt b n ++ mx f mt s a := by
    unfold cutR
    rw [sgs_app, sgs_in hA, sgs_out hN, ea, en]
    rfl
  rw [e]
  have two : N ≠ [] → T0 ((A ++ [b]) ++ [n, s]) := fun z => by
    refine T0.sub (List.Sublist.append (List.Sublist.refl _) ?_) h
    cases N with
    | nil => exact absurd rfl z
    | cons m N =>
      have : m = n := (List.cons.inj en).1
      subst this
      exact List.Sublist.cons_cons _ (List.sublist_append_right N [s])
  have oneN : T0 ((A ++ [b]) ++ [n]) := T0.sub (List.Sublist.append (List.Sublist.refl _) (List.singleton_sublist.mpr (by rw [en]; exact List.mem_cons_self))) h
  have oneS : T0 ((A ++ [b]) ++ [s]) := T0.sub (List.Sublist.append (List.Sublist.refl _) (List.singleton_sublist.mpr (by simp))) h
  by_cases hb : 0 < f b
  · have mb : f b * f n < 0 := neg_mul hb fn
    have Mb := hM b n mb
    rw [mx_yes mb]
    by_cases ha : 0 < f a
    · have ma : f s * f a < 0 := by rw [Int.mul_comm]; exact neg_mul ha fs
      have Ma := hM s a ma
      rw [mx_yes ma]
      refine ⟨?_, by simp⟩
      by_cases z : N = []
      · subst z
        have es : s = n := (List.cons.inj en).1
        subst es
        cases A with
        | nil => simp at hl
        | cons a2 A2 =>
          have : a2 = a := (List.cons.inj ea).1
          subst this
          have r1 : T0 (A2 ++ b :: s :: a2 :: []) := by
            have := T0.rot (a := a2) (r := A2 ++ [b] ++ [s]) oneS
            simpa using this
          have r2 := T0.unrot (a := a2) (r := A2 ++ [b, mt b s, mt s a2]) (by simpa using r1.off Mb Ma)
          simpa using r2
      · have t := two z
        have r1 : T0 (A ++ b :: mt b n :: [s]) := T0.back (by simpa using t) Mb
        have r2 : T0 (a :: (A' ++ [mt b n, s])) := by
          have : T0 ((A ++ [b]) ++ [mt b n, s]) := by simpa using r1
          rw [ea] at this
          exact this
        have r3 : T0 ((A' ++ [mt b n]) ++ s :: a :: []) := by simpa using T0.rot r2
        have r4 := T0.unrot (a := a) (r := A' ++ [mt b n, mt s a]) (by simpa using r3.on Ma)
        rw [ea]
        simpa using r4
    · have a0 : f a = 0 := by omega
      have na : A ≠ [] := by
        rintro rfl
        have : b = a := (List.cons.inj ea).1
        subst this
        exact ha hb
      rw [mx_no (by rw [a0, Int.mul_zero]; omega), List.append_nil]
      refine ⟨?_, ?_⟩
      · have r := T0.back (xs := A) (p := b) (q := n) (ys := []) (by simpa using oneN) Mb
        simpa using r
      · have := List.length_pos_iff.mpr na
        simp; omega
  · have b0 : f b = 0 := by omega
    rw [mx_no (by rw [b0, Int.zero_mul]; omega), List.append_nil]
    by_cases ha : 0 < f a
    · have ma : f s * f a < 0 := by rw [Int.mul_comm]; exact neg_mul ha fs
      have Ma := hM s a ma
      have na : A ≠ [] := by
        rintro rfl
        have : b = a := (List.cons.inj ea).1
        subst this
        exact hb ha
      rw [mx_yes ma]
      refine ⟨?_, ?_⟩
      · have r1 : T0 (a :: (A' ++ [s])) := by rw [ea] at oneS; exact oneS
        have r3 : T0 (A' ++ s :: a :: []) := by simpa using T0.rot r1
        have r4 := T0.unrot (a := a) (r := A' ++ [mt s a]) (by simpa using r3.on Ma)
        rw [ea]
        exact r4
      · have := List.length_pos_iff.mpr na
        simp; omega
    · have a0 : f a = 0 := by omega
      rw [mx_no (by rw [a0, Int.mul_zero]; omega), List.append_nil]
      refine ⟨T0.sub (List.sublist_append_left _ _) h, ?_⟩
      obtain ⟨p, hp1, hp2⟩ := hp
      have e1 : p ≠ b := by rintro rfl; omega
      have e2 : p ≠ a := by rintro rfl; omega
      have hp3 : p ∈ A := by
        rcases List.mem_append.mp hp1 with q | q
        · exact q
        · exact absurd (List.mem_singleton.mp q) e1
      cases A with
      | nil => cases hp3
      | cons a2 A2 =>
        have : a2 = a := (List.cons.inj ea).1
        subst this
        rcases List.mem_cons.mp hp3 with q | q
        · exact absurd q e2
        · have := List.length_pos_of_mem q
          simp; omega
/-! ### what is at the one hand stands together -/
theorem span {P : P3 → Prop} : ∀ ps : List P3, (∀ p, P p ∨ ¬ P p) → ∃ A r, ps = A ++ r ∧ (∀ p ∈ A, P p) ∧ (r = [] ∨ ∃ x r', r = x :: r' ∧ ¬ P x)
  | [], _ => ⟨[], [], rfl, fun p hp => absurd hp (by simp), .inl rfl⟩
  | p :: ps, em => by
    rcases em p with h | h
    · obtain ⟨A, r, e, hA, hr⟩ := span ps em
      refine ⟨p :: A, r, by rw [e]; rfl, fun q hq => ?_, hr⟩
      rcases List.mem_cons.mp hq with rfl | hq
      · exact h
      · exact hA q hq
    · exact ⟨[], p :: ps, rfl, fun q hq => absurd hq (by simp), .inr ⟨p, ps, rfl, h⟩⟩
theorem alt {l p q r s : P3} (h : T0 [p, q, r, s]) : ¬ (0 ≤ ln l p ∧ ln l q < 0 ∧ 0 ≤ ln l r ∧ ln l s < 0) ∧ ¬ (ln l p < 0 ∧ 0 ≤ ln l q ∧ ln l r < 0 ∧ 0 ≤ ln l s) := by
  obtain ⟨⟨h1, h2, _⟩, ⟨h3, _⟩, _⟩ := h
  have d1 := h1 r (by simp)
  have d2 := h1 s (by simp)
  have d3 := h2 s (by simp)
  have d4 := h3 s (by simp)
  have k := four l p q r s
  constructor
  · rintro ⟨a, b, c, d⟩
    have t1 := Int.mul_nonneg (le0 d4) a
    have t2 := Int.mul_neg_of_pos_of_neg d3 b
    have t3 := Int.mul_nonneg (le0 d2) c
    have t4 := Int.mul_neg_of_pos_of_neg d1 d
    omega
  · rintro ⟨a, b, c, d⟩
    have t1 := Int.mul_neg_of_pos_of_neg d4 a
    have t2 := Int.mul_nonneg (le0 d3) b
    have t3 := Int.mul_neg_of_pos_of_neg d2 c
    have t4 := Int.mul_nonneg (le0 d1) d
    omega
theorem four_sub {a b c d : P3} {A B C D : List P3} (ha : a ∈ A) (hb : b ∈ B) (hc : c ∈ C) (hd : d ∈ D) : [a, b, c, d].Sublist (A ++ (B ++ (C ++ D))) :=
  List.Sublist.append (List.singleton_sublist.mpr ha) (List.Sublist.append (List.singleton_sublist.mpr hb) (List.Sublist.append (List.singleton_sublist.mpr hc) (List.singleton_sublist.mpr hd)))
/-- a ring that bulges outward, cut by a line: what is at the one hand does so as well, if there is anything strictly there -/
theorem cut_t0 {l : P3} {ps : List P3} (hM : Meets (ln l) mt) (h : T0 ps) (hl : 3 ≤ ps.length) (hp : ∃ p ∈ ps, 0 < ln l p) : T0 (cutR (ln l) mt ps) ∧ 3 ≤ (cutR (ln l) mt ps).length := by
  have em : ∀ p, 0 ≤ ln l p ∨ ¬ 0 ≤ ln l p := fun p => by omega
  have norm : ∀ A N : List P3, A ≠ [] → N ≠ [] → T0 (A ++ N) → 3 ≤ (A ++ N).length → (∀ p ∈ A, 0 ≤ ln l p) → (∀ p ∈ N, ln l p < 0) → (∃ p ∈ A, 0 < ln l p) → T0 (cutR (ln l) mt (A ++ N)) ∧ 3 ≤ (cutR (ln l) mt (A ++ N)).length := fun A N hA hN t0 len pA pN ex => by
    obtain ⟨A', b, rfl⟩ : ∃ A' b, A = A' ++ [b] := ⟨_, _, (List.dropLast_concat_getLast hA).symm⟩
    obtain ⟨N', s, rfl⟩ : ∃ N' s, N = N' ++ [s] := ⟨_, _, (List.dropLast_concat_getLast hN).symm⟩
    exact cut_norm hM t0 pA pN len ex
  obtain ⟨A1, r, rfl, hA1, hr⟩ := span (P := fun p => 0 ≤ ln l p) ps em
  rcases hr with rfl | ⟨x, r', rfl, hx⟩
  · rw [List.append_nil] at h hl hp ⊢
    have ne : A1 ≠ [] := by rintro rfl; simp at hl
    obtain ⟨A', b, rfl⟩ : ∃ A' b, A1 = A' ++ [b] := ⟨_, _, (List.dropLast_concat_getLast ne).symm⟩
    have e : cutR (ln l) mt (A' ++ [b]) = A' ++ [b] := by
      unfold cutR
      rw [sgs_in hA1, mx_no, List.append_nil]
      have h1 := hA1 b (by simp)
      have h2 : 0 ≤ ln l ((A' ++ [b]).headD (0, 0, 1)) := by
        cases A' with
        | nil => exact h1
        | cons a A' => exact hA1 a (by simp)
      have := Int.mul_nonneg h1 h2
      omega
    rw [e]
    exact ⟨h, hl⟩
  obtain ⟨N1, r2, e2, hN1, hr2⟩ := span (P := fun p => ¬ 0 ≤ ln l p) (x :: r') (fun p => by omega)
  have nN : N1 ≠ [] := by
    rintro rfl
    rcases hr2 with rfl | ⟨y, q, e, hy⟩
    · cases e2
    · rw [e] at e2
      have : x = y := (List.cons.inj e2).1
      subst this
      exact hy hx
  have hN1' : ∀ p ∈ N1, ln l p < 0 := fun p hp => by have := hN1 p hp; omega
  obtain ⟨n1, hn1⟩ := List.exists_mem_of_ne_nil N1 nN
  rw [e2] at h hl hp ⊢
  by_cases zA : A1 = []
  · subst zA
    simp only [List.nil_append] at h hl hp ⊢
    rcases hr2 with rfl | ⟨y, q, rfl, hy⟩
    · obtain ⟨p, hp1, hp2⟩ := hp
      rw [List.append_nil] at hp1
      have := hN1' p hp1
      omega
    · have hy : 0 ≤ ln l y := by omega
      obtain ⟨A2, r3, e3, hA2, hr3⟩ := span (P := fun p => 0 ≤ ln l p) (y :: q) em
      have nA : A2 ≠ [] := by
        rintro rfl
        rcases hr3 with rfl | ⟨z, q', e, hz⟩
        · cases e3
        · rw [e] at e3
          have : y = z := (List.cons.inj e3).1
          subst this
          exact hz hy
      rw [e3] at h hl hp ⊢
      have hr3' : ∀ w ∈ r3, ln l w < 0 := fun w hw => by
        rcases hr3 with rfl | ⟨z, q', rfl, hz⟩
        · cases hw
        · by_cases pw : 0 ≤ ln l w
          · rcases List.mem_cons.mp hw with rfl | hw
            · exact absurd pw hz
            · obtain ⟨a2, ha2⟩ := List.exists_mem_of_ne_nil A2 nA
              have t := T0.sub (four_sub (a := n1) (b := a2) (c := z) (d := w) (A := N1) (B := A2) (C := [z]) (D := q') hn1 ha2 List.mem_cons_self hw) (by simpa using h)
              exact absurd ⟨hN1' n1 hn1, hA2 a2 ha2, by omega, pw⟩ (alt t).2
          · omega
      refine cutR_turn ?_
      rw [List.append_assoc]
      refine norm A2 (r3 ++ N1) nA (by simp [nN]) (by rw [← List.append_assoc]; exact T0.turn h) (by simp at hl ⊢; omega) hA2 (fun p hp => ?_) ?_
      · rcases List.mem_append.mp hp with z | z
        · exact hr3' p z
        · exact hN1' p z
      · obtain ⟨p, hp1, hp2⟩ := hp
        refine ⟨p, ?_, hp2⟩
        rcases List.mem_append.mp hp1 with z | z
        · have := hN1' p z; omega
        · rcases List.mem_append.mp z with z | z
          · exact z
          · have := hr3' p z; omega
  · obtain ⟨a1, ha1⟩ := List.exists_mem_of_ne_nil A1 zA
    have hr2' : ∀ w ∈ r2, 0 ≤ ln l w := fun w hw => by
      rcases hr2 with rfl | ⟨y, q, rfl, hy⟩
      · cases hw
      · by_cases pw : 0 ≤ ln l w
        · exact pw
        · have hy : 0 ≤ ln l y := by omega
          rcases List.mem_cons.mp hw with rfl | hw
          · exact hy
          · have t := T0.sub (four_sub (a := a1) (b := n1) (c := y) (d := w) (A := A1) (B := N1) (C := [y]) (D := q) ha1 hn1 List.mem_cons_self hw) (by simpa using h)
            exact absurd ⟨hA1 a1 ha1, hN1' n1 hn1, hy, by omega⟩ (alt t).1
    rw [← List.append_assoc] at h hl hp ⊢
    refine cutR_turn ?_
    rw [← List.append_assoc]
    refine norm (r2 ++ A1) N1 (by simp [zA]) nN (by rw [List.append_assoc]; exact T0.turn h) (by simp at hl ⊢; omega) (fun p hp => ?_) hN1' ?_
    · rcases List.mem_append.mp hp with z | z
      · exact hr2' p z
      · exact hA1 p z
    · obtain ⟨p, hp1, hp2⟩ := hp
      refine ⟨p, ?_, hp2⟩
      rcases List.mem_append.mp hp1 with z | z
      · rcases List.mem_append.mp z with z | z
        · exact List.mem_append_right _ z
        · have := hN1' p z; omega
      · exact List.mem_append_left _ z
end Cut

namespace Cut
open PySem L2 L3
/-- where a side meets a line, as the program tells it; of no points: so much of the one end and of the other -/
def mtQ (l p q : P3) : P3 := if 0 < p.2.2 ∧ 0 < q.2.2 then nP (crs l (crs p q)) else if 0 < ln l q then lc (ln l q) p (-ln l p) q else lc (-ln l q) p (ln l p) q
theorem opp {x y : Int} (h : x * y < 0) : (0 < x ∧ y < 0) ∨ (x < 0 ∧ 0 < y) := by
  rcases Int.lt_trichotomy x 0 with z | z | z
  · rcases Int.lt_trichotomy y 0 with w | w | w
    · have := Int.mul_pos_of_neg_of_neg z w; omega
    · rw [w, Int.mul_zero] at h; omega
    · exact .inr ⟨z, w⟩
  · rw [z, Int.zero_mul] at h; omega
  · rcases Int.lt_trichotomy y 0 with w | w | w
    · exact .inl ⟨z, w⟩
    · rw [w, Int.mul_zero] at h; omega
    · have := Int.mul_pos z w; omega
theorem sc_one (p : P3) : sc 1 p = p := by unfold sc; simp
theorem sc_neg_lc {g a b : Int} {m p q : P3} (h : lc a p b q = sc g m) : sc (-g) m = lc (-a) p (-b) q := by
  have h1 := congrArg (fun x : P3 => x.1) h
  have h2 := congrArg (fun x : P3 => x.2.1) h
  have h3 := congrArg (fun x : P3 => x.2.2) h
  unfold sc lc at *
  dsimp only at h1 h2 h3 ⊢
  refine p3_ext ?_ ?_ ?_ <;> dsimp only <;> grind
theorem btw_mtQ {l p q : P3} (h : ln l p * ln l q < 0) : Btw p q (mtQ l p q) := by
  unfold mtQ
  by_cases w : 0 < p.2.2 ∧ 0 < q.2.2
  · rw [if_pos w]
    have tp : crs l (crs p q) = lc (ln l q) p (-ln l p) q := triple_product l p q
    have e3 : (crs l (crs p q)).2.2 = ln l q * p.2.2 + -ln l p * q.2.2 := by rw [tp]; rfl
    rcases opp h with ⟨h1, h2⟩ | ⟨h1, h2⟩
    · have n1 : ln l q * p.2.2 < 0 := by rw [Int.mul_comm]; exact Int.mul_neg_of_pos_of_neg w.1 h2
      have n2 : -ln l p * q.2.2 < 0 := by rw [Int.mul_comm]; exact Int.mul_neg_of_pos_of_neg w.2 (by omega)
      have n0 : (crs l (crs p q)).2.2 ≠ 0 := by omega
      obtain ⟨g, _, hg⟩ := nP_sc n0
      have hp := (nP_pt n0).1
      have h3 : (crs l (crs p q)).2.2 = g * (nP (crs l (crs p q))).2.2 := congrArg (fun x : P3 => x.2.2) hg
      have g0 : g < 0 := by
        by_cases z : g < 0
        · exact z
        · have := Int.mul_nonneg (show 0 ≤ g by omega) (le0 hp)
          omega
      rw [tp] at hg
      refine ⟨-g, -ln l q, ln l p, by omega, by omega, h1, ?_⟩
      have := sc_neg_lc hg
      rw [Int.neg_neg, ← tp] at this
      exact this
    · have n1 : 0 < ln l q * p.2.2 := Int.mul_pos h2 w.1
      have n2 : 0 < -ln l p * q.2.2 := Int.mul_pos (by omega) w.2
      have n0 : (crs l (crs p q)).2.2 ≠ 0 := by omega
      obtain ⟨g, _, hg⟩ := nP_sc n0
      have hp := (nP_pt n0).1
      have h3 : (crs l (crs p q)).2.2 = g * (nP (crs l (crs p q))).2.2 := congrArg (fun x : P3 => x.2.2) hg
      have g0 : 0 < g := by
        by_cases z : 0 < g
        · exact z
        · have := Int.mul_nonneg (show 0 ≤ -g by omega) (le0 hp)
          rw [Int.neg_mul] at this
          omega
      refine ⟨g, ln l q, -ln l p, g0, h2, by omega, ?_⟩
      rw [← hg, tp]
  · rw [if_neg w]
    rcases opp h with ⟨h1, h2⟩ | ⟨h1, h2⟩
    · rw [if_neg (by omega)]
      exact ⟨1, _, _, by decide, by omega, h1, sc_one _⟩
    · rw [if_pos h2]
      exact ⟨1, _, _, by decide, h2, by omega, sc_one _⟩
/-- the point met lies on the line -/
theorem ln_lc (l p q : P3) (a b : Int) : ln l (lc a p b q) = a * ln l p + b * ln l q := by unfold ln lc; dsimp only; grind
theorem ln_sc (l p : P3) (s : Int) : ln l (sc s p) = s * ln l p := by unfold ln sc; dsimp only; grind
/-- whatever a cut keeps: a corner, or where a side meets the line -/
theorem sgs_mem {f : P3 → Int} {mt : P3 → P3 → P3} {x : P3} : ∀ {ps : List P3} {w : P3}, x ∈ sgs f mt ps w → (x ∈ ps ∧ 0 ≤ f x) ∨ ∃ p ∈ ps, ∃ q, (q ∈ ps ∨ q = w) ∧ f p * f q < 0 ∧ x = mt p q
  | [], _, h => by cases h
  | p :: r, w, h => by
    have h : x ∈ kp f p ++ mx f mt p (r.headD w) ++ sgs f mt r w := h
    rcases List.mem_append.mp h with h | h
    · rcases List.mem_append.mp h with h | h
      · unfold kp at h
        split at h
        · rename_i z
          rw [List.mem_singleton.mp h]
          exact .inl ⟨List.mem_cons_self, z⟩
        · cases h
      · unfold mx at h
        split at h
        · rename_i z
          refine .inr ⟨p, List.mem_cons_self, r.headD w, ?_, z, List.mem_singleton.mp h⟩
          cases r with
          | nil => exact .inr rfl
          | cons y r => exact .inl (List.mem_cons_of_mem _ List.mem_cons_self)
        · cases h
    · rcases sgs_mem h with ⟨h1, h2⟩ | ⟨p', h1, q, h2, h3, h4⟩
      · exact .inl ⟨List.mem_cons_of_mem _ h1, h2⟩
      · refine .inr ⟨p', List.mem_cons_of_mem _ h1, q, ?_, h3, h4⟩
        rcases h2 with h2 | h2
        · exact .inl (List.mem_cons_of_mem _ h2)
        · exact .inr h2
theorem cutR_mem {f : P3 → Int} {mt : P3 → P3 → P3} {x : P3} {ps : List P3} (h : x ∈ cutR f mt ps) : (x ∈ ps ∧ 0 ≤ f x) ∨ ∃ p ∈ ps, ∃ q ∈ ps, f p * f q < 0 ∧ x = mt p q := by
  rcases sgs_mem h with h | ⟨p, h1, q, h2, h3⟩
  · exact .inl h
  · refine .inr ⟨p, h1, q, ?_, h3⟩
    rcases h2 with h2 | h2
    · exact h2
    · cases ps with
      | nil => cases h1
      | cons a r => rw [h2]; exact List.mem_cons_self
/-- all of a cut are points, at the one hand or on the line -/
theorem cutR_pts {l : P3} {ps : List P3} (hp : ∀ p ∈ ps, PtP p) : ∀ x ∈ cutR (ln l) (mtQ l) ps, PtP x ∧ 0 ≤ ln l x := fun x hx => by
  rcases cutR_mem hx with ⟨h1, h2⟩ | ⟨p, h1, q, h2, h3, rfl⟩
  · exact ⟨hp x h1, h2⟩
  · have wp : 0 < p.2.2 ∧ 0 < q.2.2 := ⟨(hp p h1).1, (hp q h2).1⟩
    have B := btw_mtQ h3
    refine ⟨?_, ?_⟩
    · unfold mtQ
      rw [if_pos wp]
      refine nP_pt ?_
      rw [show (crs l (crs p q)).2.2 = ln l q * p.2.2 + -ln l p * q.2.2 by rw [triple_product l p q]; rfl]
      rcases opp h3 with ⟨a, b⟩ | ⟨a, b⟩
      · have n1 : ln l q * p.2.2 < 0 := by rw [Int.mul_comm]; exact Int.mul_neg_of_pos_of_neg wp.1 b
        have n2 : -ln l p * q.2.2 < 0 := by rw [Int.mul_comm]; exact Int.mul_neg_of_pos_of_neg wp.2 (by omega)
        omega
      · have n1 : 0 < ln l q * p.2.2 := Int.mul_pos b wp.1
        have n2 : 0 < -ln l p * q.2.2 := Int.mul_pos (by omega) wp.2
        omega
    · unfold mtQ
      rw [if_pos wp]
      have n0 : (crs l (crs p q)).2.2 ≠ 0 := by
        rw [show (crs l (crs p q)).2.2 = ln l q * p.2.2 + -ln l p * q.2.2 by rw [triple_product l p q]; rfl]
        rcases opp h3 with ⟨a, b⟩ | ⟨a, b⟩
        · have n1 : ln l q * p.2.2 < 0 := by rw [Int.mul_comm]; exact Int.mul_neg_of_pos_of_neg wp.1 b
          have n2 : -ln l p * q.2.2 < 0 := by rw [Int.mul_comm]; exact Int.mul_neg_of_pos_of_neg wp.2 (by omega)
          omega
        · have n1 : 0 < ln l q * p.2.2 := Int.mul_pos b wp.1
          have n2 : 0 < -ln l p * q.2.2 := Int.mul_pos (by omega) wp.2
          omega
      obtain ⟨g, g0, hg⟩ := nP_sc n0
      have z : ln l (crs l (crs p q)) = 0 := by rw [show crs l (crs p q) = lc (ln l q) p (-ln l p) q from triple_product l p q, ln_lc]; grind
      rw [hg, ln_sc] at z
      rcases Int.mul_eq_zero.mp z with y | y
      · exact absurd y g0
      · omega
end Cut

/-! for i, x in enumerate(l). -/
namespace L2
open PySem PySem.Spec PyProof.Rows PySem.W
section
variable {X : Cx} {pins : List (Addr × Obj)} {σ : St} {H : Hp} {s : Shared} {h' : Heap}
theorem Inv.turned2 {t' : Nat} {it e : Addr} (I : Inv X pins σ H s) (k : ∀ b o, b ≠ it → b ≠ e → s.heap.get? b = some o → h'.get? b = some o) (fi : FpOk X pins H it) (fe : FpOk X pins H e) : Inv X pins σ H { s with heap := h', toks := t' } := by
  obtain ⟨i0, i1, i2, i3, i4, i5⟩ := fi
  obtain ⟨e0, e1, e2, e3, e4, e5⟩ := fe
  have nit : ∀ b u, H b = some u → b ≠ it ∧ b ≠ e := fun b u q => ⟨(fun z => by rw [z, i0] at q; cases q), (fun z => by rw [z, e0] at q; cases q)⟩
  have kk : ∀ b o, b ∉ [it, e] → s.heap.get? b = some o → h'.get? b = some o := fun b o hc q => k b o (fun z => hc (by simp [z])) (fun z => hc (by simp [z])) q
  refine I.step (g' := s.gens) (d' := s.drawn) (ch := [it, e]) (fun b hb => ?_) (fun b o _ _ hc q _ => kk b o hc q) (fun b o _ _ hc q _ => ⟨o.slots, kk b o hc q⟩) (fun _ _ _ _ n => n)
    (fun b o hc q => ⟨o, kk b o hc q⟩) (fun _ _ e => e) (fun _ _ _ e => e) (fun b ps q => ⟨#[], by rw [q]; simp⟩) (fun m hm => ?_) (fun b u q => ?_) I.bare
  · rcases List.mem_cons.mp hb with rfl | hb
    · exact ⟨i3, i1, i4, i5⟩
    · rw [List.mem_singleton.mp hb]; exact ⟨e3, e1, e4, e5⟩
  · obtain ⟨o, es, ep, ho, r⟩ := hm
    exact ⟨o, es, ep, k _ o (Ne.symm i1) (Ne.symm e1) ho, r⟩
  · refine (I.hok b u q).stay (fun c v hc y => k c v ?_ ?_ y) (fun _ q => q) fun _ _ q => q
    · rcases hc with z | z
      · rw [z]; exact (nit b u q).1
      · exact (nit c _ z).1
    · rcases hc with z | z
      · rw [z]; exact (nit b u q).2
      · exact (nit c _ z).2
end
/-- pairs of a place and an item, each a new tuple -/
def Ite (K : PySem.W.Frag) (a : Addr) : It :=
  ⟨fun i H => ∃ xs x, SqL K H a xs ∧ xs[i]? = some x, fun i H x H' => ∃ p y, H p = none ∧ x = .ref p ∧ H' = upd H p (.tup [.int i, y]) ∧ ∀ xs, SqL K H a xs → xs[i]? = some y, fun i H => ∃ xs, SqL K H a xs ∧ xs.length ≤ i⟩
theorem turn_enum {P : Program} {w : World} {K : PySem.W.Frag} {elts : List Expr} {k : Nat} {pos : Pos} (a it e : Addr) (hne : e ≠ it) : Turn P w K (.Tuple elts k pos) (Ite K a) [e, it] e (fun i h => (∃ old, IsEnum h e it (i : Nat) old) ∧ h.IsListIter it a i) where
  mem := by simp
  obj := fun i h st b hb => by
    obtain ⟨⟨old, he⟩, o, ho, c, d⟩ := st
    rcases List.mem_cons.mp hb with rfl | hb
    · exact ⟨_, he, fun v z => by cases z⟩
    · rw [List.mem_singleton.mp hb]
      exact ⟨o, ho, fun v z => by rw [d] at z; cases z⟩
  keep := fun i h h' st kp => by
    obtain ⟨⟨old, he⟩, hi⟩ := st
    exact ⟨⟨old, kp e (by simp) _ he⟩, hi.at fun o q => kp it (by simp) o q⟩
  item := by
    intro X hP hw hK hc i pins s σ H E I hf st hg
    subst hP hw hK
    obtain ⟨xs, x, hq, hx⟩ := hg
    obtain ⟨⟨old, he⟩, hi⟩ := st
    obtain ⟨its, rv, p, hz⟩ := I.list hq
    obtain ⟨u, hu, ru⟩ := rv.get hx
    have fe := hf e (by simp)
    have fi := hf it (by simp)
    have elt : e < s.heap.objs.size := Heap.lt_size he
    have ilt : it < s.heap.objs.size := by obtain ⟨o, ho, _⟩ := id hi; exact Heap.lt_size ho
    refine wpAny_pyNext_enum_item he hi p.isList (x := u) (by simpa using hu) hne fun h1 out hi1 ht hs1 kp => ⟨_, rfl, wpAny_letOwnedTupleGo_enum out fun h2 he2 sb => ?_⟩
    have Te : s.heap.objs.size ≠ e := Nat.ne_of_gt elt
    have Ti : s.heap.objs.size ≠ it := Nat.ne_of_gt ilt
    have I0 : Inv X pins σ (upd H s.heap.objs.size (.tup [.int i, x])) { s with heap := s.heap.push { cls := .type "tuple", data := .seq #[.int i s.toks, u] }, toks := s.toks + 1 } :=
      I.laid (t' := s.toks + 1) (fun _ _ q => Heap.get?_push_of_some _ q) (Nat.le_refl _) ⟨by show 2 ≤ sizeLine; decide, [.int i s.toks, u], .cons ⟨_, rfl⟩ (.cons ru .nil), ⟨_, Heap.get?_push_size _ rfl, rfl, _, rfl⟩⟩
    have up : ∀ b, FpOk X pins H b → b ≠ s.heap.objs.size → FpOk X pins (upd H s.heap.objs.size (.tup [.int i, x])) b := fun b f n => ⟨by rw [upd_ne n]; exact f.1, f.2⟩
    have I1 := I0.turned2 (h' := h2) (t' := s.toks + 1) (it := it) (e := e) (fun b o n1 n2 q => by
      rw [sb.2 b n2]
      by_cases z : b = s.heap.objs.size
      · subst z
        rw [Heap.get?_push_size _ rfl] at q
        rw [← q]; exact ht
      · refine kp b o n2 n1 ?_
        rw [← q]
        exact (Heap.get?_push_ne s.heap b _ z).symm) (up it fi (Ne.symm Ti)) (up e fe (Ne.symm Te))
    refine ⟨.ref s.heap.objs.size, _, I1, rfl, ⟨s.heap.objs.size, x, I.fresh, rfl, rfl, fun ys hy => by rw [I.list_inj hy hq]; exact hx⟩, ⟨⟨_, he2⟩, hi1.at fun o q => (sb.2 it (Ne.symm hne)).trans q⟩, fun b hb => ?_⟩
    rcases List.mem_cons.mp hb with rfl | hb
    · exact (up _ fe (Ne.symm Te)).1
    · rw [List.mem_singleton.mp hb]; exact (up it fi (Ne.symm Ti)).1
  done := by
    intro X hP hw hK hc i pins s σ H E I hf st hg
    subst hP hw hK
    obtain ⟨xs, hq, hx⟩ := hg
    obtain ⟨⟨old, he⟩, hi⟩ := st
    obtain ⟨its, rv, p, hz⟩ := I.list hq
    obtain ⟨f0, f1, f2, f3, f4, f5⟩ := hf it (by simp)
    have hl := rv.length
    exact wpAny_pyNext_enum_end (I.ok.hd hc) he hi p.isList (by simp; omega) fun h' eb => ⟨rfl, I.turned (t' := s.toks) (fun b o hb q => eb b o hb q) f0 f1 f3 f4 f5⟩
  self := fun _ _ _ _ _ st h => by
    obtain ⟨⟨old, he⟩, _⟩ := st
    exact wpAny_pyIter_enum he h
def iEnum (K : PySem.W.Frag) (ta : TA) : TI := fun σ H R => ta σ H fun vs H1 => ∃ a, vs = [.ref a] ∧ (∃ xs, SqL K H1 a xs) ∧ R (Ite K a) H1
theorem pi_enum {X : Cx} {elts : List Expr} {k : Nat} {tp : Pos} {a : Expr} {ta : TA} {p pos : Pos} (hg : Gl X "enumerate") (hm : X.mg "enumerate" = none) (ha : PA X [a] ta) (hs : starEach [a] X.env = [(false, eval a X.env)] := by rfl) : PI X (.Tuple elts k tp) (.Call (.Name "enumerate" p) [a] [] pos) (iEnum X.K ta) := by
  intro pins s σ H R I h
  refine Call_ (ld_blt I hg hm (by decide +kernel : bootBuiltins "enumerate" = some (.type "enumerate")) (PyProof.Rows.callWith_type1 (thn (ha pos pins s σ H _ I h) fun us s1 ⟨vs, H1, I1, r1, q1⟩ => ?_) hs rfl))
  obtain ⟨l, e, ⟨xs, hq⟩, q⟩ := q1
  subst e
  obtain ⟨u, rfl, r⟩ := vals1 r1
  cases r
  obtain ⟨its, rv, pl, hz⟩ := I1.list hq
  refine call_enumerate_list pl.isList fun h' en li sz kp => wpAny_pyIter_enum en ?_
  refine ⟨s1.heap.objs.size + 1, [s1.heap.objs.size + 1, s1.heap.objs.size], _, _, H1, rfl, I1.kept (t' := s1.toks) kp, turn_enum l s1.heap.objs.size (s1.heap.objs.size + 1) (Nat.succ_ne_self _), ⟨⟨_, en⟩, li⟩, fun b hb => ?_, q⟩
  rcases List.mem_cons.mp hb with rfl | hb
  · exact I1.fpOk (Nat.le_succ _) (I1.hok.fresh (Nat.le_succ _))
  · rw [List.mem_singleton.mp hb]; exact I1.fpOk (Nat.le_refl _) (I1.hok.fresh (Nat.le_refl _))
end L2
namespace L3
open PySem L2
def prs : Nat → List D → List D
  | _, [] => []
  | n, d :: r => .tup [.int (n : Nat), d] :: prs (n + 1) r
section
variable {X : Cx} {a : Expr} {u : UE} {pos p : Pos}
end
end L3

namespace L3
open PySem L2
theorem forR_prs {α : Type} {f : α → D} {s : US} {U : UEnds} {i j : Nat} (I : List α → List Sl → Prop) : ∀ {rs done : List α} {ρ : List Sl}, I done ρ →
    (∀ (pre : List α) (r : α) (rest : List α) ρ, done ++ rs = pre ++ r :: rest → I pre ρ → ∀ N : List Sl → Prop, (∀ r', I (pre ++ [r]) r' → N r') → s { U with nx := N, ct := N, bk := U.nx } ((ρ.set i (.val (.int pre.length))).set j (.val (f r)))) → (∀ ρ, I (done ++ rs) ρ → U.nx ρ) →
    forR (ugTup 2 (ugCons (ugName i) (ugCons (ugName j) ugNil))) s U (prs done.length (rs.map f)) ρ
  | [], done, ρ, h0, _, h2 => h2 ρ (by rw [List.append_nil]; exact h0)
  | r :: rs, done, ρ, h0, h1, h2 => by
    refine ⟨_, rfl, rfl, _, _, rfl, _, _, rfl, rfl, h1 done r rs ρ rfl h0 _ fun r' hr => ?_⟩
    have e : done ++ r :: rs = (done ++ [r]) ++ rs := by simp
    rw [e] at h1 h2
    have := forR_prs I hr h1 h2
    rw [List.length_append] at this
    exact this
end L3
namespace Cut
open PySem L2 L3
theorem sg_mul_neg {x y : Int} : sg x * sg y < 0 ↔ x * y < 0 := by
  constructor
  · intro h
    rcases opp h with ⟨a, b⟩ | ⟨a, b⟩
    · have h1 : 0 < x := by unfold sg at a; split at a <;> first | assumption | (split at a <;> omega)
      have h2 : y < 0 := by unfold sg at b; split at b <;> first | omega | (split at b <;> first | assumption | omega)
      exact Int.mul_neg_of_pos_of_neg h1 h2
    · have h1 : x < 0 := by unfold sg at a; split at a <;> first | omega | (split at a <;> first | assumption | omega)
      have h2 : 0 < y := by unfold sg at b; split at b <;> first | assumption | (split at b <;> omega)
      rw [Int.mul_comm]
      exact Int.mul_neg_of_pos_of_neg h2 h1
  · intro h
    rcases opp h with ⟨a, b⟩ | ⟨a, b⟩
    · have e1 : sg x = 1 := sg_pos a
      have e2 : sg y = -1 := by unfold sg; rw [if_neg (by omega), if_pos b]
      rw [e1, e2]; decide
    · have e1 : sg x = -1 := by unfold sg; rw [if_neg (by omega), if_pos a]
      have e2 : sg y = 1 := sg_pos b
      rw [e1, e2]; decide
theorem sg_ge {x : Int} : 0 ≤ sg x ↔ 0 ≤ x := by unfold sg; split <;> first | omega | (split <;> omega)
theorem sg_le {x : Int} : sg x ≤ 0 ↔ x ≤ 0 := by unfold sg; split <;> first | omega | (split <;> omega)
/-- the next corner, round the ring -/
theorem next_at {pre rest : List P3} {c a0 : P3} (h : (pre ++ c :: rest).headD a0 = a0) : nth (pre ++ c :: rest) ((pre.length + 1) % (pre ++ c :: rest).length) = rest.headD a0 := by
  cases rest with
  | nil =>
    have e : (pre.length + 1) % (pre ++ [c]).length = 0 := by rw [List.length_append]; simp
    rw [e]
    cases pre with
    | nil => exact h
    | cons p pre => exact h
  | cons d rest =>
    rw [Nat.mod_eq_of_lt (by simp)]
    unfold nth
    rw [List.getElem?_append_right (by omega)]
    simp
end Cut
namespace Cut
open PySem L2 L3
theorem atI_nat {α : Type} {xs : List α} {i : Nat} {x : α} (h : xs[i]? = some x) : atI xs (i : Int) = some x := by
  have lt : i < xs.length := (List.getElem?_eq_some_iff.mp h).1
  unfold atI
  have e : L2.ixN xs.length (i : Int) = some i := by
    unfold L2.ixN
    rw [if_pos (by omega)]
    simp [lt]
  rw [e]
  exact h
theorem at_mid {α : Type} {h : P3 → α} {pre rest : List P3} {c : P3} : atI ((pre ++ c :: rest).map h) (pre.length : Int) = some (h c) := by
  refine atI_nat ?_
  rw [List.getElem?_map, List.getElem?_append_right (Nat.le_refl _)]
  simp
theorem at_nxt {α : Type} {h : P3 → α} {ps pre rest : List P3} {c a0 : P3} (e : ps = pre ++ c :: rest) (ha : ps.headD a0 = a0) : atI (ps.map h) (((pre.length : Int) + 1) % (ps.length : Int)) = some (h (rest.headD a0)) := by
  subst e
  have n0 : 0 < (pre ++ c :: rest).length := by rw [List.length_append, List.length_cons]; omega
  have lt := Nat.mod_lt (pre.length + 1) n0
  have e1 : ((pre.length : Int) + 1) % ((pre ++ c :: rest).length : Int) = (((pre.length + 1) % (pre ++ c :: rest).length : Nat) : Int) := by rw [Int.natCast_emod]; rfl
  rw [e1]
  refine atI_nat ?_
  rw [List.getElem?_map]
  have := next_at ha
  unfold nth at this
  rw [List.getElem?_eq_getElem lt] at this ⊢
  simp at this
  simp [this]
theorem sgs_one {f : P3 → Int} {mt : P3 → P3 → P3} {pre : List P3} {c w : P3} : sgs f mt (pre ++ [c]) w = sgs f mt pre c ++ kp f c ++ mx f mt c w := by
  rw [sgs_app]
  show sgs f mt pre c ++ (kp f c ++ mx f mt c w ++ []) = _
  rw [List.append_nil, List.append_assoc]
end Cut
namespace Cut
open PySem L2 L3
theorem sgs_len {f : P3 → Int} {mt : P3 → P3 → P3} : ∀ {ps : List P3} {w : P3}, (sgs f mt ps w).length ≤ 2 * ps.length
  | [], _ => Nat.le_refl _
  | p :: r, w => by
    show (kp f p ++ mx f mt p (r.headD w) ++ sgs f mt r w).length ≤ _
    have h := sgs_len (f := f) (mt := mt) (ps := r) (w := w)
    have h1 : (kp f p).length ≤ 1 := by unfold kp; split <;> simp
    have h2 : (mx f mt p (r.headD w)).length ≤ 1 := by unfold mx; split <;> simp
    rw [List.length_append, List.length_append, List.length_cons]
    omega
theorem sg_bd (x : Int) : -1 ≤ sg x ∧ sg x ≤ 1 := by unfold sg; split <;> first | omega | (split <;> omega)
theorem sg_bits (x : Int) : PySem.Builtin.Int.intBits (sg x) ≤ 9000 := by
  have := sg_bd x
  have eT : (10 : Int) ^ 30 = 1000000000000000000000000000000 := rfl
  exact Nat.le_trans (bits30 (by omega) (by omega)) (by decide)
end Cut
namespace Cut
open PySem L2 L3
theorem kp_yes {f : P3 → Int} {c : P3} (h : 0 ≤ f c) : kp f c = [c] := by unfold kp; rw [if_pos h]
theorem kp_no {f : P3 → Int} {c : P3} (h : ¬ 0 ≤ f c) : kp f c = [] := by unfold kp; rw [if_neg h]
theorem mtQ_pt {l p q : P3} (hp : PtP p) (hq : PtP q) : nP (crs l (crs p q)) = mtQ l p q := by unfold mtQ; rw [if_pos ⟨hp.1, hq.1⟩]
theorem meet_ne {l p q : P3} (hp : PtP p) (hq : PtP q) (h : ln l p * ln l q < 0) : (crs l (crs p q)).2.2 ≠ 0 := by
  rw [show (crs l (crs p q)).2.2 = ln l q * p.2.2 + -ln l p * q.2.2 by rw [triple_product l p q]; rfl]
  have w1 := hp.1
  have w2 := hq.1
  rcases opp h with ⟨a, b⟩ | ⟨a, b⟩
  · have n1 : ln l q * p.2.2 < 0 := by rw [Int.mul_comm]; exact Int.mul_neg_of_pos_of_neg w1 b
    have n2 : -ln l p * q.2.2 < 0 := by rw [Int.mul_comm]; exact Int.mul_neg_of_pos_of_neg w2 (by omega)
    omega
  · have n1 : 0 < ln l q * p.2.2 := Int.mul_pos b w1
    have n2 : 0 < -ln l p * q.2.2 := Int.mul_pos (by omega) w2
    omega
theorem sg_one_mem {l : P3} {ps : List P3} : D.int 1 ∈ ps.map (fun c => D.int (sg (ln l c))) ↔ ∃ c ∈ ps, 0 < ln l c := by
  rw [List.mem_map]
  constructor
  · rintro ⟨c, hc, e⟩
    exact ⟨c, hc, sg_one (D.int.inj e)⟩
  · rintro ⟨c, hc, h⟩
    exact ⟨c, hc, by rw [sg_pos h]⟩
theorem sg_neg_mem {l : P3} {ps : List P3} : D.int (-1) ∈ ps.map (fun c => D.int (sg (ln l c))) ↔ ∃ c ∈ ps, ln l c < 0 := by
  rw [List.mem_map]
  constructor
  · rintro ⟨c, hc, e⟩
    refine ⟨c, hc, ?_⟩
    have := D.int.inj e
    unfold sg at this
    split at this
    · omega
    · split at this <;> omega
  · rintro ⟨c, hc, h⟩
    exact ⟨c, hc, by unfold sg; rw [if_neg (by omega), if_pos h]⟩
end Cut

/-! Arguments that are only looked at: lists that were there at the entry. What a def makes is new then. -/
namespace L3
open PySem L2
def unold : Sl → Sl
  | .new d => .val d
  | .pin _ d => .val d
  | s => s
def look (s : Sl) : Sl := fz1 (unold s)
section
variable {K : PySem.W.Frag} {R : Hp} {W : Addr → Prop} {B B' H H' : Hp} {σ : St} {ρ : List Sl}
theorem look_map : (ρ.map unold).map fz1 = ρ.map look := by rw [List.map_map]; rfl
theorem unold_mut {i : Nat} {a : Addr} (m : MutAt σ (ρ.map unold) i a) : MutAt σ ρ i a := by
  obtain ⟨h1, h2⟩ := m
  refine ⟨h1, ?_⟩
  rw [List.getElem?_map] at h2
  cases q : ρ[i]? with
  | none => rw [q] at h2; rcases h2 with h2 | ⟨_, h2⟩ <;> cases h2
  | some k0 =>
    rw [q] at h2
    cases k0 with
    | bag => exact .inl rfl
    | own ds => exact .inr ⟨ds, rfl⟩
    | no => rcases h2 with h2 | ⟨_, h2⟩ <;> cases h2
    | new d => rcases h2 with h2 | ⟨_, h2⟩ <;> cases h2
    | pin v d => rcases h2 with h2 | ⟨_, h2⟩ <;> cases h2
    | val d => rcases h2 with h2 | ⟨_, h2⟩ <;> cases h2
theorem unold_bag {i : Nat} : (ρ.map unold)[i]? = some .bag ↔ ρ[i]? = some .bag := by
  rw [List.getElem?_map]
  constructor
  · intro h
    cases q : ρ[i]? with
    | none => rw [q] at h; cases h
    | some k0 =>
      rw [q] at h
      cases k0 with
      | bag => rfl
      | own ds => cases h
      | no => cases h
      | new d => cases h
      | pin v d => cases h
      | val d => cases h
  · intro h; rw [h]; rfl
theorem unold_frW {a : Addr} : frW W σ (ρ.map unold) a ↔ frW W σ ρ a := by
  unfold frW
  constructor
  · rintro (h | ⟨i, h1, h2⟩)
    · exact .inl h
    · exact .inr ⟨i, h1, unold_bag.mp h2⟩
  · rintro (h | ⟨i, h1, h2⟩)
    · exact .inl h
    · exact .inr ⟨i, h1, unold_bag.mpr h2⟩
/-- all that is only looked at, as plain values -/
theorem Ev.wide (e : Ev K R W B H σ ρ) : Ev K R W (mixB R W B) H σ (ρ.map unold) := by
  have nm : ∀ a, R a = none → mixB R W B a = B a := fun a h => mixB_no fun vs z => by rw [h] at z; cases z
  refine ⟨⟨e.fr, mixB_now e.toWd, fun a z => by rw [mixB_W z]; exact e.wb a z, e.wh, e.wr⟩, by rw [List.length_map]; exact e.len, fun i k h => ?_, fun i j a m1 m2 => e.sep i j a (unold_mut m1) (unold_mut m2)⟩
  rw [List.getElem?_map] at h
  cases q : ρ[i]? with
  | none => rw [q] at h; cases h
  | some k0 =>
    rw [q] at h
    have h := Option.some.inj h
    subst h
    have z := e.ok i _ q
    cases k0 with
    | no => trivial
    | new d => exact z
    | pin v d => exact ⟨v, z⟩
    | val d =>
      obtain ⟨v, h1, h2⟩ := z
      exact ⟨v, h1, h2.mono (mixB_in e.toWd)⟩
    | own ds =>
      obtain ⟨a, vs, h1, h2, h3, h4, h5⟩ := z
      exact ⟨a, vs, h1, h2, by rw [nm a h2]; exact h3, h4, h5.mono (mixB_in e.toWd)⟩
    | bag =>
      obtain ⟨b, h1, h2, h3, h4⟩ := z
      refine ⟨b, h1, h2, ?_, h4⟩
      rcases h2 with h2 | h2
      · rw [mixB_W h2]; exact h3
      · rw [nm b h2]; exact h3
theorem newL_non {a : Addr} {o : HO} (h : B a = some o) (n : ∀ vs, o ≠ .lst vs) : newL R B a = some o := by
  unfold newL
  rw [h]
  cases o with
  | lst vs => exact absurd rfl (n vs)
  | _ => rfl
noncomputable abbrev lookB (R : Hp) (W : Addr → Prop) (B H : Hp) (σ : St) (ρ : List Sl) : Hp := frB (mixB R W B) H σ (ρ.map unold)
/-- behind whatever ran over what is looked at: what is new stays -/
theorem Ev.looked (e : Ev K R W B H σ ρ) {B2 H2 : Hp} (wd : Wd H (frW W σ (ρ.map unold)) B2 H2) (g : Grow H (lookB R W B H σ ρ) B2) :
    ∃ B', Ev K R W B' H2 σ ρ ∧ Grow R B B' ∧ Same (newL H B2) (newL R B') ∧ ∀ a, H a = none → B' a = B2 a := by
  have u := e.unframe (H' := H2) (fun a o h nw => wd.fr a o h fun z => nw (unold_frW.mp z)) (fun a h => wd.wh a (unold_frW.mpr h))
  obtain ⟨B1, b1, b2⟩ : ∃ B1 : Hp, (∀ a, H a = none → B1 a = B2 a) ∧ ∀ a, H a ≠ none → B1 a = B a :=
    ⟨fun a => match H a with | none => B2 a | some _ => B a, fun a h => by dsimp only; rw [h], fun a h => by
      dsimp only
      cases q : H a with
      | none => exact absurd q h
      | some o => rfl⟩
  have s : Same B B1 := fun a o h => by rw [b2 a (by rw [e.bh a o h]; simp)]; exact h
  refine ⟨B1, u.move ⟨u.fr, fun a o h => ?_, fun a z => ?_, u.wh, u.wr⟩ s fun i a m => ⟨?_, fun z => ?_, fun _ => rfl⟩, ⟨s, fun a o h => ?_⟩, fun a o h => ?_, b1⟩
  · by_cases q : H a = none
    · rw [b1 a q] at h; exact wd.bh a o h
    · rw [b2 a q] at h; exact u.bh a o h
  · obtain ⟨x, y, q, _⟩ := e.wh a z
    rw [b2 a (by rw [q]; simp)]; exact e.wb a z
  · rw [b2 a (e.mutOk m).2]; exact (e.mutOk m).1
  · obtain ⟨b, c1, _, _, c4⟩ := u.bagAt z
    rw [m.1] at c1; cases c1
    exact c4
  · by_cases q : H a = none
    · exact .inr (e.toWd.fresh q).1
    · rw [b2 a q] at h; exact .inl h
  · have h2 := newL_sub a o h
    by_cases q : H a = none
    · have hb : B1 a = some o := by rw [b1 a q]; exact h2
      cases o with
      | lst vs => exact newL_at hb (e.toWd.fresh q).1
      | _ => exact newL_non hb (fun _ z => by cases z)
    · have nl : ∀ vs, o ≠ .lst vs := fun vs z => by
        subst z
        exact q (newL_out h).2
      refine newL_non ?_ nl
      rw [b2 a q]
      rcases g.n a o h2 with z | z
      · by_cases w : OwnAd σ (ρ.map unold) a
        · obtain ⟨i, ds, w1, w2⟩ := id w
          obtain ⟨b, vs, c1, _, _, c4, _⟩ := e.wide.ownAt w2
          rw [w1] at c1; cases c1
          rw [lookB, frB_own w, c4] at z
          cases z
          exact absurd rfl (nl vs)
        · rw [lookB, frB_not w] at z
          rcases mixB_out z with z | ⟨_, _, vs, z⟩
          · exact z
          · exact absurd z (nl vs)
      · exact absurd z q
theorem Ev.lookF (e : Ev K R W B H σ ρ) : Ev K H (frW W σ (ρ.map unold)) (lookB R W B H σ ρ) H σ (ρ.map look) := by
  have := e.wide.frame
  rw [look_map] at this
  exact this
end
section
variable {K : PySem.W.Frag} {X : Cx} {e : Expr} {es : List Expr} {u : UE} {w : UL} {pos p : Pos}
theorem t_look {c : Expr} {uc : UT} (h : PT3 X c uc) : PT3 X c (fun ρ k => uc (ρ.map look) k) := by
  obtain ⟨_, h1, r1⟩ := h
  refine ⟨_, h1, fun ρ k h R W B H σ Q e q => ?_⟩
  refine r1 _ _ h _ _ _ _ _ _ e.lookF fun b B2 H2 z e' g => ?_
  obtain ⟨B1, e1, g1, _⟩ := e.looked e'.toWd g
  exact q b B1 H2 z e1 g1
def uLook (u : UE) : UE := fun ρ k => u (ρ.map look) fun d => flat d = true ∧ k d
theorem e_look (h : PE3 X e u) : PE3 X e (uLook u) := by
  obtain ⟨_, h1, r1⟩ := h
  refine ⟨_, h1, fun ρ k h R W B H σ Q e q => ?_⟩
  refine r1 _ _ h _ _ _ _ _ _ e.lookF fun d v B2 H2 z e' g s => ?_
  obtain ⟨B1, e1, g1, s1, _⟩ := e.looked e'.toWd g
  exact q d v B1 H2 z.2 e1 g1 (((s.flat z.1).mono s1).mono newL_sub)
/-- a new tree, made while one looks -/
def uLookD (u : UE) : UE := fun ρ k => u (ρ.map look) k
theorem d_look (h : PD3 X e u) : PD3 X e (uLookD u) := by
  obtain ⟨_, h1, r1⟩ := h
  refine ⟨_, h1, fun ρ k h R W B H σ Q e q => ?_⟩
  refine r1 _ _ h _ _ _ _ _ _ e.lookF fun d v B2 H2 z e' g s => ?_
  obtain ⟨B1, e1, g1, s1, _⟩ := e.looked e'.toWd g
  exact q d v B1 H2 z e1 g1 (s.mono s1)
theorem d_e (h : PD3 X e u) : PE3 X e u := by
  obtain ⟨_, h1, r1⟩ := h
  refine ⟨_, h1, fun ρ k h R W B H σ Q e q => ?_⟩
  exact r1 ρ k h R W B H σ _ e fun d v B1 H1 z e1 g1 s1 => q d v B1 H1 z e1 g1 (s1.mono newL_sub)
def uLookO (w : UL) : UL := fun ρ k => w (ρ.map look) fun ds => flats ds = true ∧ k ds
theorem refLookO {t : TE} (r1 : RefO K t w) : RefO K t (uLookO w) := by
  intro ρ k h R W B H σ Q e q
  refine r1 _ _ h _ _ _ _ _ _ e.lookF fun ds a vs B2 H2 z e' g f1 f2 f3 f4 f5 => ?_
  obtain ⟨B1, e1, g1, s1, b1⟩ := e.looked e'.toWd g
  exact q ds a vs B1 H2 z.2 e1 g1 (e.toWd.fresh f1).1 (by rw [b1 a f1]; exact f2) f3 (((f4.flat z.1).mono s1).mono newL_sub) fun i m => (e.mutOk m).2 f1
theorem mixB_flat {R : Hp} {W : Addr → Prop} {B H : Hp} {v : V} {d : D} (w : Wd R W B H) (r : Rep K (mixB R W B) v d) (f : flat d = true) : Rep K B v d := by
  refine (r.flat (R := H) f).mono fun a o h => ?_
  have h2 := newL_sub a o h
  rcases mixB_out h2 with z | ⟨_, _, vs, rfl⟩
  · exact z
  · have := (newL_out h).2
    rw [mixB_now w a _ h2] at this
    cases this
variable {tg : Expr}
theorem Ev.oldAt {R : Hp} {W : Addr → Prop} {B H : Hp} {σ : St} {ρ : List Sl} (e : Ev K R W B H σ ρ) {i : Nat} {d : D} (h : ρ[i]? = some (.new d)) : ∃ v, σ[i]? = some (some v) ∧ Rep K (mixB R W B) v d := by
  obtain ⟨v, h1, h2⟩ := e.ok i _ h
  exact ⟨v, join_some h1, h2⟩
/-- for i, x in enumerate(a list of flat things that is looked at) -/
def uForEO (n : Nat) (g : UG) (s : US) : US := fun U ρ => ∃ ds, ρ[n]? = some (.new (.lst ds)) ∧ flats ds = true ∧ forR g s U (prs 0 ds) ρ
theorem s_forEO (n : Nat) {x : Str} {px : Pos} {elts : List Expr} {k : Nat} {tp : Pos} {body : List Stmt} {g : UG} {s : US} (hp : PassesOwn (model X.prog X.w) X.A X.env X.xe) (hc : X.calm = true) (hge : Gl X "enumerate") (hm : X.mg "enumerate" = none) (hg : PG3 X (.Tuple elts k tp) g) (hb : PSs3 X body s)
    (hN : X.N[n]? = some x := by rfl) (hv : Vis X.env.scope x := by first | exact Or.inl rfl | exact Or.inr (Or.inl rfl) | exact Or.inr (Or.inr rfl)) (hd : (x == ("__debug__" : Str)) = false := by decide) (hcd : (x == ("__classdict__" : Str)) = false := by decide)
    (hsa : starEach [.Name x px] X.env = [(false, eval (.Name x px) X.env)] := by rfl) (hs : ∀ v, foldedSetIterable (.Call (.Name "enumerate" p) [.Name x px] [] pos) X.env v = pure v := by intro _; rfl) {pos' : Pos} :
    PS3 X (.For (.Tuple elts k tp) (.Call (.Name "enumerate" p) [.Name x px] [] pos) body [] pos') (uForEO n g s) := by
  obtain ⟨_, h1, r1⟩ := hg; obtain ⟨_, h2, r2⟩ := hb
  refine ⟨_, ps_for hp hc (pi_enum hge hm (pa_cons (pe_var hN hv hd hcd) pa_nil (by rw [hsa]; rfl)) hsa) h1 h2 hs, fun U ρ h R W B H σ D e sm => ?_⟩
  obtain ⟨ds, ho, hfl, z1⟩ := h
  obtain ⟨v, hσ, rv⟩ := e.oldAt ho
  obtain ⟨l, vs, rfl, hl, rs⟩ := rv.lstV
  refine ⟨_, hσ, l, rfl, ⟨vs, SqL.of (mixB_now e.toWd _ _ hl)⟩, ?_⟩
  refine ⟨fun i m σ' H' => ∃ ρ' B', m = ds.length - i ∧ i ≤ ds.length ∧ forR g s U (prs i (ds.drop i)) ρ' ∧ Ev X.K R W B' H' σ' ρ' ∧ Grow R B B', ⟨ds.length, ρ, B, by simp, Nat.zero_le _, z1, e, Grow.refl _ _⟩, ?_⟩
  rintro i m σ1 H2 ⟨ρ1, B2, rfl, hi, z2, e2, g2⟩
  have hq : SqL X.K H2 l vs := SqL.of (mixB_now e2.toWd _ _ (mixB_mono g2.s _ _ hl))
  by_cases hlt : i < ds.length
  · have hlv : i < vs.length := by rw [rs.length]; exact hlt
    refine .inr ⟨⟨vs, vs[i], hq, List.getElem?_eq_getElem hlv⟩, fun σ' H' => ∃ ρ' B', forR g s U (prs (i + 1) (ds.drop (i + 1))) ρ' ∧ Ev X.K R W B' H' σ' ρ' ∧ Grow R B B', ?_, ?_⟩
    · rintro σ' H' ⟨ρ', B', z, e', g'⟩
      exact ⟨ds.length - (i + 1), by omega, ρ', B', rfl, hlt, z, e', g'⟩
    · rintro x0 H' ⟨q, y, hq0, rfl, rfl, hy⟩
      obtain ⟨d, hd', rx⟩ := rs.getV (hy vs hq)
      have fd := flats_at hfl hd'
      have rx' := mixB_flat e.toWd rx fd
      have ed : ds.drop i = d :: ds.drop (i + 1) := by
        rw [List.drop_eq_getElem_cons hlt]
        rw [List.getElem?_eq_getElem hlt] at hd'
        rw [Option.some.inj hd']
      rw [ed] at z2
      have g3 := e2.grow hq0 (.tup [.int i, y])
      have e3 := e2.alloc hq0 (.tup [.int i, y])
      have g4 := g2.trans g3
      refine r1 _ ρ1 _ z2 R W _ _ σ1 (.ref q) _ e3 (.tup upd_same (.cons (.int _) (.cons (rx'.mono g4.s) .nil))) fun ρ' σ' z' e' _ => ?_
      exact r2 _ ρ' z' R W _ _ σ' _ e' ⟨fun ρ' σ' B' H' z e' g => ⟨ρ', B', z, e', g4.trans g⟩, fun ρ' σ' B' H' z e' g => sm.nx ρ' σ' B' H' z e' (g4.trans g), fun ρ' σ' B' H' z e' g => ⟨ρ', B', z, e', g4.trans g⟩, fun r v B' H' z e' g q => sm.rt r v B' H' z e' (g4.trans g) q⟩
  · have ei : i = ds.length := by omega
    subst ei
    rw [List.drop_length] at z2
    exact .inl ⟨⟨vs, hq, by rw [rs.length]; exact Nat.le_refl _⟩, sm.nx ρ1 σ1 B2 H2 z2 e2 g2⟩
/-! ### a list's truth -/
def uTruL (u : UE) : UT := fun ρ k => u ρ fun x => ∃ ds, x = .lst ds ∧ k (!ds.isEmpty)
theorem t_truL {a : Expr} {ua : UE} (ha : PE3 X a ua) (he : ∀ whole, isTrue a X.env whole = (do let v ← whole; standAt a.pos; holding [v] (truthy v)) := by intro _; rfl) : PT3 X a (uTruL ua) := by
  obtain ⟨_, h1, r1⟩ := ha
  refine ⟨_, pt_truth h1 he, fun ρ k h R W B H σ Q e q => ?_⟩
  refine r1 ρ _ h R W B H σ _ e fun x v B1 H1 z1 e1 g1 s1 => ?_
  obtain ⟨ds, rfl, hk⟩ := z1
  obtain ⟨a, vs, rfl, ha, rs⟩ := s1.lstV
  refine ⟨!vs.isEmpty, .inl ⟨vs, SqL.of (e1.bh _ _ ha), rfl⟩, q _ B1 H1 ?_ e1 g1⟩
  have : vs.isEmpty = ds.isEmpty := by
    have hl := rs.length
    cases vs with
    | nil => cases ds with
      | nil => rfl
      | cons d ds => simp at hl
    | cons v vs => cases ds with
      | nil => simp at hl
      | cons d ds => rfl
  rw [this]; exact hk
variable {elt iter : Expr} {ifs : List Expr} {scope : Scope} {cl : List (Str × Addr)} {ts fr : List Str} {js : List Nat} {ug : UG} {ut : UT}
/-- name = a comprehension of flat things over what is looked at -/
theorem s_compAO {i : Nat} {y : Str} {py spos : Pos} (hN : X.N.Nodup) (hiN : X.N[i]? = some y) (hy : X.env.scope.names.lookup y = some .local)
    (hi : PI3 X tg iter w) (hg : ∀ C s H ex, PG3 (compCx X (ts ++ fr) scope cl C s H ex) tg ug) (hts : ∀ C s H ex, PIfs3 (compCx X (ts ++ fr) scope cl C s H ex) ifs ut) (helt : ∀ C s H ex, PE3 (compCx X (ts ++ fr) scope cl C s H ex) elt u)
    (F : FreeOk X scope cl fr js) (hjn : js.Nodup := by decide) (hc : X.calm = true := by rfl) (hs : ∀ v, foldedSetIterable iter X.env v = pure v := by intro _; rfl)
    (hsw : swapsWith (.ListComp elt [⟨tg, iter, ifs, 0⟩] scope pos) (some (.Name y py)) spos.line X.env = pure true := by rfl) :
    PS3 X (.Assign [.Name y py] (.ListComp elt [⟨tg, iter, ifs, 0⟩] scope pos) spos) (uSetO i (uLookO (uCompG w ug ut u ts.length js))) := by
  obtain ⟨_, h0, r0⟩ := hi
  obtain ⟨tg', hg', rg⟩ := joinG (K := X.K) (Xs := fun a : Addr × Shared × Hp × List Addr => compCx X (ts ++ fr) scope cl a.1 a.2.1 a.2.2.1 a.2.2.2) (fun _ => rfl) fun a => hg a.1 a.2.1 a.2.2.1 a.2.2.2
  obtain ⟨tt, ht', rt⟩ := joinI (K := X.K) (Xs := fun a : Addr × Shared × Hp × List Addr => compCx X (ts ++ fr) scope cl a.1 a.2.1 a.2.2.1 a.2.2.2) (fun _ => rfl) fun a => hts a.1 a.2.1 a.2.2.1 a.2.2.2
  obtain ⟨te, he', re⟩ := joinE (K := X.K) (Xs := fun a : Addr × Shared × Hp × List Addr => compCx X (ts ++ fr) scope cl a.1 a.2.1 a.2.2.1 a.2.2.2) (fun _ => rfl) fun a => helt a.1 a.2.1 a.2.2.1 a.2.2.2
  refine ⟨_, ps_compA hN hiN hy h0 (fun C s H ex => hg' (C, s, H, ex)) (fun C s H ex => ht' (C, s, H, ex)) (fun C s H ex => he' (C, s, H, ex)) F hc hs hsw, fun U ρ h R W B H σ D e s => ?_⟩
  exact refLookO (refCompG r0 rg rt re hjn) ρ _ h R W B H σ _ e fun ds a vs B1 H1 z1 e1 g1 f1 f2 f3 f4 f5 => s.nx _ _ B1 H1 z1 (e1.setO i f1 f2 f3 f4 fun j _ => f5 j) g1
end
/-! ### a def that only looks at its lists: what it hands back is new -/
section
variable {K : PySem.W.Frag}
/-- the arguments, those marked looked at only; the others flat, or bags -/
def ol1 : Bool → Sl → Sl
  | true, .val d => .new d
  | _, x => x
def ok1 : Bool → Sl → Prop
  | false, .val d => flat d = true
  | _, _ => True
def olds : List Bool → List Sl → List Sl
  | b :: m, x :: r => ol1 b x :: olds m r
  | _, r => r
def oldOk : List Bool → List Sl → Prop
  | b :: m, x :: r => ok1 b x ∧ oldOk m r
  | [], [] => True
  | _, _ => False
theorem olds_length : ∀ (m : List Bool) (as : List Sl), (olds m as).length = as.length
  | [], [] => rfl
  | [], _ :: _ => rfl
  | _ :: _, [] => rfl
  | b :: m, x :: r => by rw [olds, List.length_cons, List.length_cons, olds_length m r]
theorem olds_get {W : Addr → Prop} {B : Hp} : ∀ {vs : List V} {as : List Sl}, ArgsIn K W B vs as → ∀ (m : List Bool), oldOk m as → ∀ (i : Nat) (k : Sl), (olds m as)[i]? = some k →
    (∃ v d, vs[i]? = some v ∧ k = .new d ∧ Rep K B v d) ∨ (∃ v d, vs[i]? = some v ∧ k = .val d ∧ Rep K B v d ∧ flat d = true) ∨ (∃ b, vs[i]? = some (.ref b) ∧ k = .bag ∧ W b ∧ as[i]? = some .bag)
  | _, _, .nil, [], _, i, k, e => by simp [olds] at e
  | _, _, .nil, _ :: _, ho, i, k, e => by cases ho
  | _, _, .val h r, [], ho, i, k, e => by cases ho
  | _, _, .bag h r, [], ho, i, k, e => by cases ho
  | _, _, .val h r, b :: m, ho, i + 1, k, e => by
    simpa using olds_get r m ho.2 i k (by simpa [olds] using e)
  | _, _, .bag h r, b :: m, ho, i + 1, k, e => by
    simpa using olds_get r m ho.2 i k (by simpa [olds] using e)
  | _, _, .val h r, true :: m, ho, 0, k, e => by
    simp [olds, ol1] at e; subst e; exact .inl ⟨_, _, rfl, rfl, h⟩
  | _, _, .val h r, false :: m, ho, 0, k, e => by
    simp [olds, ol1] at e; subst e; exact .inr (.inl ⟨_, _, rfl, rfl, h, ho.1⟩)
  | _, _, .bag h r, b :: m, ho, 0, k, e => by
    have e : k = .bag := by cases b <;> (simp [olds, ol1] at e; exact e.symm)
    subst e; exact .inr (.inr ⟨_, rfl, rfl, h, rfl⟩)
theorem mixB_all {W : Addr → Prop} {B H : Hp} (sB : Same B H) (hw : ∀ a, W a → B a = none) : Same B (mixB H W (newL H B)) := fun a o h => by
  have hH := sB a o h
  have nw : ¬ W a := fun z => by rw [hw a z] at h; cases h
  by_cases q : ∃ vs, o = .lst vs
  · obtain ⟨vs, rfl⟩ := q
    exact mixB_at hH nw
  · rw [mixB_no fun vs e => q ⟨vs, by rw [hH] at e; exact Option.some.inj e⟩]
    exact newL_non h fun vs e => q ⟨vs, e⟩
theorem Ev.startN {N : List Str} {W : Addr → Prop} {B H : Hp} {vs : List V} {as : List Sl} {m : List Bool} (hb : bags as ≤ 1) (sB : Same B H) (hw : ∀ a, W a → B a = none ∧ Bag H a) (ai : ArgsIn K W B vs as) (ho : oldOk m as) : Ev K H W (newL H B) H (L2.start N vs) (olds m as ++ List.replicate (N.length - as.length) .no) := by
  have hl := ai.length
  have ol := olds_length m as
  have nn : ∀ a, W a → newL H B a = none := fun a h => by
    cases q : newL H B a with
    | none => rfl
    | some o => have := newL_sub a o q; rw [(hw a h).1] at this; cases this
  have wd : Wd H W (newL H B) H := ⟨fun _ _ h _ => h, newL_sub.trans sB, nn, fun a h => (hw a h).2, fun a h => by obtain ⟨x, y, q, _⟩ := (hw a h).2; rw [q]; simp⟩
  have lo : ∀ i, i < as.length → (L2.start N vs)[i]? = (vs[i]?).map some := fun i lt => by
    unfold L2.start
    rw [List.getElem?_append_left (by rw [List.length_map]; omega), List.getElem?_map]
  have cs : ∀ (i : Nat) (k : Sl), (olds m as ++ List.replicate (N.length - as.length) Sl.no)[i]? = some k → (i < as.length ∧ (olds m as)[i]? = some k) ∨ k = Sl.no := fun i k h => by
    by_cases z : i < (olds m as).length
    · rw [List.getElem?_append_left z] at h; exact .inl ⟨by omega, h⟩
    · rw [List.getElem?_append_right (by omega)] at h
      rw [List.getElem?_replicate] at h
      split at h
      · exact .inr (Option.some.inj h).symm
      · cases h
  refine ⟨wd, by unfold L2.start; simp [hl, ol], fun i k h => ?_, fun i j a m1 m2 => ?_⟩
  · rcases cs i k h with ⟨lt, h⟩ | rfl
    · rw [lo i lt]
      rcases olds_get ai m ho i k h with ⟨v, d, h1, rfl, r⟩ | ⟨v, d, h1, rfl, r, f⟩ | ⟨b, h1, rfl, r, _⟩
      · rw [h1]; exact ⟨v, rfl, r.mono (mixB_all sB fun a z => (hw a z).1)⟩
      · rw [h1]; exact ⟨v, rfl, r.flat f⟩
      · rw [h1]; exact ⟨b, rfl, .inl r, wd.wb b r, (hw b r).2⟩
    · trivial
  · have one : ∀ i, MutAt (L2.start N vs) (olds m as ++ List.replicate (N.length - as.length) Sl.no) i a → as[i]? = some .bag := fun i mm => by
      rcases mm.2 with z | ⟨ds, z⟩
      · rcases cs i _ z with ⟨_, z⟩ | z
        · rcases olds_get ai m ho i _ z with ⟨v, d, _, q, _⟩ | ⟨v, d, _, q, _⟩ | ⟨b, _, _, _, q⟩
          · cases q
          · cases q
          · exact q
        · cases z
      · rcases cs i _ z with ⟨_, z⟩ | z
        · rcases olds_get ai m ho i _ z with ⟨v, d, _, q, _⟩ | ⟨v, d, _, q, _⟩ | ⟨b, _, q, _⟩ <;> cases q
        · cases z
    exact bags_one hb (one i m1) (one j m2)
/-- what a body hands back, as new -/
def nwR (k : Sl → Prop) : Sl → Prop
  | .val d => k (.new d)
  | .own ds => k (.new (.lst ds))
  | .new d => k (.new d)
  | _ => False
theorem def3N {P : Program} {w : World} {mg : Str → Option Value} {base : Heap} {x : Str} {st : Stmt} {N ps : List Str} {lv n : Nat} {F : FS} (m : List Bool) (Fd : Fnd K mg x st ps) (S : FnScope N ps (defScope st)) (hn : ps.length = n)
    (hbody : ∀ (f : Addr) (cdv : Value) (A : Around) (outer : List PySem.Env) (s : Shared) (H : Hp) (E : XK), Room lv (A.deeper (PyProof.Rows.envOfC x (defScope st) s.heap.objs.size f cdv)) →
      ∃ u, PSs3 (cxOf CX0 P w K mg base N x (defScope st) f cdv A outer s H E).nox (defBody st) u ∧ ∀ as k, as.length = n → F as k → oldOk m as ∧ u { nx := fun _ => k (.val .non), rt := nwR k } (olds m as ++ List.replicate (N.length - n) .no)) : Cal P w K mg base x ps (lv + 1) (Con K n F) := by
  refine Fd.ok S (fun vs H Q E h => ?_) (fun f cdv A outer s H vs Q E hr h => ?_)
  · obtain ⟨W, B, as, k, _, hl, _, _, _, ai, _⟩ := h
    rw [ai.length, hl, hn]
  · obtain ⟨W, B, as, k, hF, hl, hb, sB, hw, ai, q⟩ := h
    obtain ⟨u, ⟨t, ht, rt⟩, hu⟩ := hbody f cdv A outer s H E hr
    obtain ⟨ho, hu⟩ := hu as k hl hF
    have ev := Ev.startN (N := N) (m := m) (Nat.le_of_ble_eq_true hb) sB hw ai ho
    rw [hl] at ev
    -- what stays at the end: what stood ahead, and what was made
    have fin : ∀ B' H', Wd H W B' H' → Grow H (newL H B) B' → ∃ B2, Wd H W B2 H' ∧ Grow H B B2 ∧ Same B' (newL H B2) := fun B' H' wd g => by
      have sBH : Same B H' := fun a o h => wd.fr a o (sB a o h) fun z => by rw [(hw a z).1] at h; cases h
      obtain ⟨B2, b1, b2⟩ : ∃ B2 : Hp, (∀ a o, B a = some o → B2 a = some o) ∧ ∀ a, B a = none → B2 a = B' a :=
        ⟨fun a => match B a with | some o => some o | none => B' a, fun a o h => by dsimp only; rw [h], fun a h => by dsimp only; rw [h]⟩
      refine ⟨B2, ⟨wd.fr, fun a o h => ?_, fun a z => ?_, wd.wh, wd.wr⟩, ⟨b1, fun a o h => ?_⟩, fun a o h => ?_⟩
      · cases z : B a with
        | none => rw [b2 a z] at h; exact wd.bh a o h
        | some o' => rw [b1 a o' z] at h; cases h; exact sBH a _ z
      · rw [b2 a (hw a z).1]; exact wd.wb a z
      · cases z : B a with
        | none =>
          rw [b2 a z] at h
          rcases g.n a o h with y | y
          · rw [newL_sub a o y] at z; cases z
          · exact .inr y
        | some o' => rw [b1 a o' z] at h; cases h; exact .inl rfl
      · have h2 : B2 a = some o := by
          cases z : B a with
          | none => rw [b2 a z]; exact h
          | some o' =>
            have e1 := sBH a _ z
            rw [wd.bh a o h] at e1
            cases e1
            exact b1 a _ z
        by_cases y : ∃ vs, o = .lst vs
        · obtain ⟨vs, rfl⟩ := y
          refine newL_at h2 ?_
          rcases g.n a _ h with y | y
          · exact (newL_out y).2
          · exact y
        · exact newL_non h2 fun vs e => y ⟨vs, e⟩
    refine ⟨t, ht, rt _ _ hu H W _ H (L2.start N vs) _ ev ⟨fun ρ σ B' H' h e g => ?_, fun _ _ _ _ h => h.elim, fun _ _ _ _ h => h.elim, fun r v B' H' h e g z => ?_⟩⟩
    · obtain ⟨B2, w2, g2, _⟩ := fin B' H' e.toWd g
      exact q _ _ B2 H' h ⟨w2, g2, .non⟩
    · cases r with
      | no => exact h.elim
      | bag => exact h.elim
      | pin v d => exact h.elim
      | val d =>
        obtain ⟨B2, w2, g2, s2⟩ := fin B' H' e g
        exact q (.new d) v B2 H' h ⟨w2, g2, Rep.mono s2 z⟩
      | new d =>
        obtain ⟨B2, w2, g2, s2⟩ := fin B' H' e g
        exact q (.new d) v B2 H' h ⟨w2, g2, Rep.mono s2 (Rep.mono newL_sub z)⟩
      | own ds =>
        obtain ⟨a, us, rfl, f1, f2, f3, f4⟩ := z
        have e0 : Ev K H W B' H' [] [] := ⟨e, rfl, fun i k h => by simp at h, fun i j a m => by have := m.1; simp at this⟩
        obtain ⟨e3, g3⟩ := e0.freeze f3 f1 f2 fun i m => by have := m.1; simp at this
        obtain ⟨B2, w2, g2, s2⟩ := fin _ H' e3.toWd (g.trans g3)
        exact q (.new (.lst ds)) _ B2 H' h ⟨w2, g2, Rep.mono s2 (.lst upd_same (f4.mono g3.s))⟩
end
end L3

namespace Cut
open PySem L2 L3
/-! ### the sides of a ring -/
/-- each with the one ahead of it -/
def prZ : P3 → List P3 → List (P3 × P3)
  | _, [] => []
  | z, p :: r => (z, p) :: prZ p r
def lz : P3 → List P3 → P3
  | z, [] => z
  | _, p :: r => lz p r
/-- all sides, the closing one first -/
def eds (ps : List P3) : List (P3 × P3) := prZ (lz (0, 0, 1) ps) ps
theorem prZ_app : ∀ (z : P3) (A B : List P3), prZ z (A ++ B) = prZ z A ++ prZ (lz z A) B
  | _, [], _ => rfl
  | z, p :: A, B => by
    show (z, p) :: prZ p (A ++ B) = (z, p) :: (prZ p A ++ prZ (lz p A) B)
    rw [prZ_app p A B]
theorem lz_app : ∀ (z : P3) (A B : List P3), lz z (A ++ B) = lz (lz z A) B
  | _, [], _ => rfl
  | _, p :: A, B => lz_app p A B
theorem lz_cons {z z' : P3} {L : List P3} (h : L ≠ []) : lz z L = lz z' L := by
  cases L with
  | nil => exact absurd rfl h
  | cons p r => rfl
theorem lz_mem : ∀ {z : P3} {L : List P3}, L ≠ [] → lz z L ∈ L
  | _, [], h => absurd rfl h
  | z, [p], _ => List.mem_cons_self
  | z, p :: q :: r, _ => List.mem_cons_of_mem _ (lz_mem (z := p) (L := q :: r) (by simp))
theorem prZ_mem : ∀ {z : P3} {L : List P3} {e : P3 × P3}, e ∈ prZ z L → (e.1 = z ∨ e.1 ∈ L) ∧ e.2 ∈ L
  | _, [], _, h => by cases h
  | z, p :: r, e, h => by
    rcases List.mem_cons.mp h with rfl | h
    · exact ⟨.inl rfl, List.mem_cons_self⟩
    · obtain ⟨h1, h2⟩ := prZ_mem h
      refine ⟨.inr ?_, List.mem_cons_of_mem _ h2⟩
      rcases h1 with h1 | h1
      · rw [h1]; exact List.mem_cons_self
      · exact List.mem_cons_of_mem _ h1
theorem eds_mem {L : List P3} {e : P3 × P3} (h : e ∈ eds L) : e.1 ∈ L ∧ e.2 ∈ L := by
  have n : L ≠ [] := by rintro rfl; cases h
  obtain ⟨h1, h2⟩ := prZ_mem h
  refine ⟨?_, h2⟩
  rcases h1 with h1 | h1
  · rw [h1]; exact lz_mem n
  · exact h1
/-! ### a ring's cut, side by side -/
section
variable {f : P3 → Int} {mt : P3 → P3 → P3}
/-- what is said of two neighbours in a cut: P of a corner reached from the one ahead, along a side; Z of two on the line -/
theorem cut_ind {C : P3 → P3 → Prop} (hz : ∀ u v, f u = 0 → f v = 0 → C u v) : ∀ {ps : List P3} {w z : P3},
    (∀ p q, (p, q) ∈ prZ (ps.headD w) (ps.tail ++ [w]) → 0 ≤ f p → 0 ≤ f q → C p q) →
    (∀ p q, (p, q) ∈ prZ (ps.headD w) (ps.tail ++ [w]) → f p * f q < 0 → f (mt p q) = 0 ∧ (0 < f p → C p (mt p q)) ∧ (0 < f q → C (mt p q) q)) →
    (0 ≤ f (ps.headD w) → C z (ps.headD w)) → (f (ps.headD w) < 0 → f z = 0) → ps ≠ [] →
    (∀ e ∈ prZ z (sgs f mt ps w), C e.1 e.2) ∧ (0 ≤ f w → C (lz z (sgs f mt ps w)) w) ∧ (f w < 0 → f (lz z (sgs f mt ps w)) = 0)
  | [], _, _, _, _, _, _, hn => absurd rfl hn
  | p :: r, w, z, h1, h2, h3, h4, _ => by
    have h3 : 0 ≤ f p → C z p := h3
    have h4 : f p < 0 → f z = 0 := h4
    -- the next corner
    have hq : (p, r.headD w) ∈ prZ p (r ++ [w]) := by
      cases r with
      | nil => exact List.mem_cons_self
      | cons q r => exact List.mem_cons_self
    have h1 : ∀ a b, (a, b) ∈ prZ p (r ++ [w]) → 0 ≤ f a → 0 ≤ f b → C a b := h1
    have h2 : ∀ a b, (a, b) ∈ prZ p (r ++ [w]) → f a * f b < 0 → f (mt a b) = 0 ∧ (0 < f a → C a (mt a b)) ∧ (0 < f b → C (mt a b) b) := h2
    -- behind this side
    have step : (∀ e ∈ prZ z (kp f p ++ mx f mt p (r.headD w)), C e.1 e.2) ∧ (0 ≤ f (r.headD w) → C (lz z (kp f p ++ mx f mt p (r.headD w))) (r.headD w)) ∧ (f (r.headD w) < 0 → f (lz z (kp f p ++ mx f mt p (r.headD w))) = 0) := by
      generalize r.headD w = q at hq
      by_cases fp : 0 ≤ f p
      · rw [show kp f p = [p] by unfold kp; rw [if_pos fp]]
        by_cases c : f p * f q < 0
        · rw [mx_yes c]
          obtain ⟨m0, m1, m2⟩ := h2 p q hq c
          have lp : 0 < f p := by
            rcases opp c with ⟨a, _⟩ | ⟨a, _⟩
            · exact a
            · omega
          have lq : f q < 0 := by
            rcases opp c with ⟨_, a⟩ | ⟨a, _⟩
            · exact a
            · omega
          refine ⟨fun e he => ?_, fun h => absurd h (by omega), fun _ => m0⟩
          rcases List.mem_cons.mp he with rfl | he
          · exact h3 fp
          · rcases List.mem_cons.mp he with rfl | he
            · exact m1 lp
            · cases he
        · rw [mx_no c]
          refine ⟨fun e he => ?_, fun h => h1 p q hq fp h, fun h => ?_⟩
          · rcases List.mem_cons.mp he with rfl | he
            · exact h3 fp
            · cases he
          · show f p = 0
            rcases Int.lt_or_eq_of_le fp with a | a
            · exact absurd (Int.mul_neg_of_pos_of_neg a h) c
            · exact a.symm
      · rw [show kp f p = [] by unfold kp; rw [if_neg fp]]
        have z0 := h4 (by omega)
        by_cases c : f p * f q < 0
        · rw [mx_yes c]
          obtain ⟨m0, m1, m2⟩ := h2 p q hq c
          have lq : 0 < f q := by
            rcases opp c with ⟨a, _⟩ | ⟨_, a⟩
            · omega
            · exact a
          refine ⟨fun e he => ?_, fun _ => m2 lq, fun h => absurd h (by omega)⟩
          rcases List.mem_cons.mp he with rfl | he
          · exact hz _ _ z0 m0
          · cases he
        · rw [mx_no c]
          refine ⟨fun e he => (by cases he), fun h => hz _ _ z0 ?_, fun _ => z0⟩
          rcases Int.lt_or_eq_of_le h with a | a
          · exact absurd (by rw [Int.mul_comm]; exact Int.mul_neg_of_pos_of_neg a (by omega)) c
          · exact a.symm
    obtain ⟨s1, s2, s3⟩ := step
    show (∀ e ∈ prZ z (kp f p ++ mx f mt p (r.headD w) ++ sgs f mt r w), C e.1 e.2) ∧ (0 ≤ f w → C (lz z (kp f p ++ mx f mt p (r.headD w) ++ sgs f mt r w)) w) ∧ (f w < 0 → f (lz z (kp f p ++ mx f mt p (r.headD w) ++ sgs f mt r w)) = 0)
    rw [prZ_app z (kp f p ++ mx f mt p (r.headD w)), lz_app z (kp f p ++ mx f mt p (r.headD w))]
    cases r with
    | nil => exact ⟨fun e he => by rw [show prZ _ (sgs f mt [] w) = [] from rfl, List.append_nil] at he; exact s1 e he, s2, s3⟩
    | cons q r =>
      obtain ⟨t1, t2, t3⟩ := cut_ind hz (ps := q :: r) (w := w) (z := lz z (kp f p ++ mx f mt p q)) (fun a b hab => h1 a b (List.mem_cons_of_mem _ hab)) (fun a b hab => h2 a b (List.mem_cons_of_mem _ hab)) s2 s3 (by simp)
      refine ⟨fun e he => ?_, t2, t3⟩
      rcases List.mem_append.mp he with he | he
      · exact s1 e he
      · exact t1 e he
/-- the sides, begun at the first corner -/
theorem eds_rot {a : P3} {r : List P3} {e : P3 × P3} : e ∈ prZ a (r ++ [a]) ↔ e ∈ eds (a :: r) := by
  have : eds (a :: r) = (lz a r, a) :: prZ a r := rfl
  rw [this, prZ_app]
  simp [prZ, or_comm]
/-- neighbours in a cut: two on the line, or two of one side -/
theorem cut_eds {C : P3 → P3 → Prop} {ps : List P3} (hz : ∀ u v, f u = 0 → f v = 0 → C u v) (o : P3) (ho : f o = 0)
    (h1 : ∀ e ∈ eds ps, 0 ≤ f e.1 → 0 ≤ f e.2 → C e.1 e.2) (h2 : ∀ e ∈ eds ps, f e.1 * f e.2 < 0 → f (mt e.1 e.2) = 0 ∧ (0 < f e.1 → C e.1 (mt e.1 e.2)) ∧ (0 < f e.2 → C (mt e.1 e.2) e.2)) :
    ∀ e ∈ eds (cutR f mt ps), C e.1 e.2 := by
  cases ps with
  | nil => intro e he; cases he
  | cons a r =>
    intro e he
    have n : cutR f mt (a :: r) ≠ [] := by intro z; rw [z] at he; cases he
    have g1 : ∀ p q, (p, q) ∈ prZ ((a :: r).headD a) ((a :: r).tail ++ [a]) → 0 ≤ f p → 0 ≤ f q → C p q := fun p q h => h1 (p, q) (eds_rot.mp h)
    have g2 : ∀ p q, (p, q) ∈ prZ ((a :: r).headD a) ((a :: r).tail ++ [a]) → f p * f q < 0 → f (mt p q) = 0 ∧ (0 < f p → C p (mt p q)) ∧ (0 < f q → C (mt p q) q) := fun p q h => h2 (p, q) (eds_rot.mp h)
    -- first from o on, to know the last; C of o is not known: say it of the larger relation
    have first := cut_ind (f := f) (mt := mt) (C := fun u v => u = o ∨ C u v) (fun u v hu hv => .inr (hz u v hu hv)) (ps := a :: r) (w := a) (z := o) (fun p q h x y => .inr (g1 p q h x y)) (fun p q h x => ⟨(g2 p q h x).1, fun y => .inr ((g2 p q h x).2.1 y), fun y => .inr ((g2 p q h x).2.2 y)⟩) (fun _ => .inl rfl) (fun _ => ho) (by simp)
    have e1 : lz o (sgs f mt (a :: r) a) = lz (0, 0, 1) (cutR f mt (a :: r)) := lz_cons n
    have l3 : f a < 0 → f (lz (0, 0, 1) (cutR f mt (a :: r))) = 0 := fun h => by rw [← e1]; exact first.2.2 h
    -- the last one and the first corner
    have l2 : 0 ≤ f a → C (lz (0, 0, 1) (cutR f mt (a :: r))) a := fun h => by
      by_cases oz : lz o (sgs f mt (a :: r) a) = o
      · -- from another start
        have := cut_ind (f := f) (mt := mt) (C := fun u v => (u = a ∧ v = a) ∨ C u v) (fun u v hu hv => .inr (hz u v hu hv)) (ps := a :: r) (w := a) (z := a) (fun p q h x y => .inr (g1 p q h x y)) (fun p q h x => ⟨(g2 p q h x).1, fun y => .inr ((g2 p q h x).2.1 y), fun y => .inr ((g2 p q h x).2.2 y)⟩) (fun _ => .inl ⟨rfl, rfl⟩) (fun y => absurd y (show ¬ f a < 0 by omega)) (by simp)
        have e2 : lz a (sgs f mt (a :: r) a) = lz (0, 0, 1) (cutR f mt (a :: r)) := lz_cons n
        rcases this.2.1 h with ⟨q1, _⟩ | q
        · rw [e2] at q1
          rw [q1]
          rw [e1, q1] at oz
          rw [oz]
          exact hz o o ho ho
        · rw [← e2]; exact q
      · rcases first.2.1 h with q | q
        · exact absurd q oz
        · rw [← e1]; exact q
    exact (cut_ind hz g1 g2 l2 l3 (by simp)).1 e he
end
/-! ### the fan: who is right of no side is made of the corners -/
theorem tri_in {a b c s l : P3} : det3 a b c * ln l s = det3 b c s * ln l a + det3 c a s * ln l b + det3 a b s * ln l c := by
  unfold det3 crs ln; grind
theorem fan_at {l s a : P3} (ha : 0 ≤ ln l a) : ∀ {rest : List P3} {b : P3}, rest ≠ [] → T0 (a :: b :: rest) → 0 ≤ det3 a b s → (∀ e ∈ prZ b rest, 0 ≤ det3 e.1 e.2 s) → 0 ≤ det3 (lz b rest) a s → 0 ≤ ln l b → (∀ x ∈ rest, 0 ≤ ln l x) → 0 ≤ ln l s
  | [], _, h, _, _, _, _, _, _ => absurd rfl h
  | c :: rest, b, _, ht, hab, he, hl, hb, hr => by
    have hbc := he (b, c) List.mem_cons_self
    have hc := hr c List.mem_cons_self
    by_cases g : det3 a c s ≤ 0
    · have t : 0 < det3 a b c := ht.1.1 c List.mem_cons_self
      have e : det3 c a s = -det3 a c s := d_alt a c s
      have k := tri_in (a := a) (b := b) (c := c) (s := s) (l := l)
      have n1 := Int.mul_nonneg hbc ha
      have n2 := Int.mul_nonneg (show 0 ≤ det3 c a s by omega) hb
      have n3 := Int.mul_nonneg hab hc
      have n4 : 0 ≤ det3 a b c * ln l s := by
        rw [k]
        exact Int.add_nonneg (Int.add_nonneg n1 n2) n3
      by_cases y : 0 ≤ ln l s
      · exact y
      · have := Int.mul_neg_of_pos_of_neg t (show ln l s < 0 by omega)
        omega
    · cases rest with
      | nil =>
        have e : det3 c a s = -det3 a c s := d_alt a c s
        have hl : 0 ≤ det3 c a s := hl
        omega
      | cons d rest =>
        exact fan_at ha (b := c) (by simp) (T0.sub (.cons_cons a (.cons b (List.Sublist.refl _))) ht) (by omega) (fun e h => he e (List.mem_cons_of_mem _ h)) hl hc fun x hx => hr x (List.mem_cons_of_mem _ hx)
/-- who is right of no side of a ring that bulges outward is where all corners are -/
theorem fan {l s : P3} {ps : List P3} (ht : T0 ps) (h3 : 3 ≤ ps.length) (he : ∀ e ∈ eds ps, 0 ≤ det3 e.1 e.2 s) (hl : ∀ x ∈ ps, 0 ≤ ln l x) : 0 ≤ ln l s := by
  match ps, ht, h3, he, hl with
  | [], _, h, _, _ => simp at h
  | [_], _, h, _, _ => simp at h
  | [_, _], _, h, _, _ => simp at h
  | a :: b :: c :: r, ht, _, he, hl =>
    refine fan_at (a := a) (b := b) (rest := c :: r) (hl a List.mem_cons_self) (by simp) ht ?_ (fun e h => he e ?_) ?_ (hl b (by simp)) fun x hx => hl x (List.mem_cons_of_mem _ (List.mem_cons_of_mem _ hx))
    · exact he (a, b) (List.mem_cons_of_mem _ List.mem_cons_self)
    · exact List.mem_cons_of_mem _ (List.mem_cons_of_mem _ h)
    · exact he (lz b (c :: r), a) List.mem_cons_self
end Cut

namespace Cut
open PySem L2 L3
open PySem.Builtin.Int (intBits)
/-- a side that meets the line does so between its ends, on the line -/
def MtOk (l : P3) (mt : P3 → P3 → P3) : Prop := ∀ p q, ln l p * ln l q < 0 → Btw p q (mt p q) ∧ ln l (mt p q) = 0
theorem mtQ_on {l p q : P3} (h : ln l p * ln l q < 0) : ln l (mtQ l p q) = 0 := by
  unfold mtQ
  by_cases w : 0 < p.2.2 ∧ 0 < q.2.2
  · rw [if_pos w]
    have n0 : (crs l (crs p q)).2.2 ≠ 0 := by
      rw [show (crs l (crs p q)).2.2 = ln l q * p.2.2 + -ln l p * q.2.2 by rw [triple_product l p q]; rfl]
      rcases opp h with ⟨a, b⟩ | ⟨a, b⟩
      · have n1 : ln l q * p.2.2 < 0 := by rw [Int.mul_comm]; exact Int.mul_neg_of_pos_of_neg w.1 b
        have n2 : -ln l p * q.2.2 < 0 := by rw [Int.mul_comm]; exact Int.mul_neg_of_pos_of_neg w.2 (by omega)
        omega
      · have n1 : 0 < ln l q * p.2.2 := Int.mul_pos b w.1
        have n2 : 0 < -ln l p * q.2.2 := Int.mul_pos (by omega) w.2
        omega
    obtain ⟨g, g0, hg⟩ := nP_sc n0
    have z : ln l (crs l (crs p q)) = 0 := by rw [show crs l (crs p q) = lc (ln l q) p (-ln l p) q from triple_product l p q, ln_lc]; grind
    rw [hg, ln_sc] at z
    rcases Int.mul_eq_zero.mp z with y | y
    · exact absurd y g0
    · exact y
  · rw [if_neg w]
    by_cases c : 0 < ln l q
    · rw [if_pos c, ln_lc]; grind
    · rw [if_neg c, ln_lc]; grind
theorem mtOk_Q (l : P3) : MtOk l (mtQ l) := fun _ _ h => ⟨btw_mtQ h, mtQ_on h⟩
def ngL (l : P3) : P3 := sc (-1) l
theorem ln_ng (l p : P3) : ln (ngL l) p = -ln l p := by unfold ngL ln sc; dsimp only; grind
theorem MtOk.meets {l : P3} {mt : P3 → P3 → P3} (h : MtOk l mt) : Meets (ln l) mt := fun p q c => (h p q c).1
theorem Btw.ln {p q m g : P3} (h : Btw p q m) (h1 : 0 ≤ ln g p) (h2 : 0 ≤ ln g q) : 0 ≤ Cut.ln g m := by
  obtain ⟨s, a, b, hs, ha, hb, e⟩ := h
  have k : s * Cut.ln g m = a * Cut.ln g p + b * Cut.ln g q := by rw [← ln_sc, e, ln_lc]
  have n1 := Int.mul_nonneg (le0 ha) h1
  have n2 := Int.mul_nonneg (le0 hb) h2
  by_cases y : 0 ≤ Cut.ln g m
  · exact y
  · have := Int.mul_neg_of_pos_of_neg hs (show Cut.ln g m < 0 by omega)
    omega
theorem Btw.ln0 {p q m g : P3} (h : Btw p q m) (h1 : Cut.ln g p = 0) (h2 : Cut.ln g q = 0) : Cut.ln g m = 0 := by
  obtain ⟨s, a, b, hs, ha, hb, e⟩ := h
  have k : s * Cut.ln g m = a * Cut.ln g p + b * Cut.ln g q := by rw [← ln_sc, e, ln_lc]
  rw [h1, h2, Int.mul_zero, Int.mul_zero] at k
  rcases Int.mul_eq_zero.mp k with z | z
  · omega
  · exact z
section
variable {l : P3} {mt : P3 → P3 → P3} {ps : List P3}
theorem cut_ge (hM : MtOk l mt) {g : P3} (hg : ∀ x ∈ ps, 0 ≤ ln g x) : ∀ x ∈ cutR (ln l) mt ps, 0 ≤ ln g x := fun x hx => by
  rcases cutR_mem hx with ⟨h1, _⟩ | ⟨p, h1, q, h2, h3, rfl⟩
  · exact hg x h1
  · exact (hM p q h3).1.ln (hg p h1) (hg q h2)
theorem cut_on (hM : MtOk l mt) : ∀ x ∈ cutR (ln l) mt ps, 0 ≤ ln l x := fun x hx => by
  rcases cutR_mem hx with ⟨_, h2⟩ | ⟨p, h1, q, h2, h3, rfl⟩
  · exact h2
  · rw [(hM p q h3).2]; exact Int.le_refl 0
theorem prZ_split : ∀ {z : P3} {r : List P3} {e : P3 × P3}, e ∈ prZ z r → ∃ A B, z :: r = A ++ e.1 :: e.2 :: B
  | _, [], _, h => by cases h
  | z, p :: r, e, h => by
    rcases List.mem_cons.mp h with rfl | h
    · exact ⟨[], r, rfl⟩
    · obtain ⟨A, B, q⟩ := prZ_split h
      exact ⟨z :: A, B, by rw [q]; rfl⟩
theorem lz_split : ∀ {z : P3} {r : List P3}, r ≠ [] → ∃ A, r = A ++ [lz z r]
  | _, [], h => absurd rfl h
  | z, [p], _ => ⟨[], rfl⟩
  | z, p :: q :: r, _ => by
    obtain ⟨A, e⟩ := lz_split (z := p) (r := q :: r) (by simp)
    exact ⟨p :: A, congrArg (p :: ·) e⟩
/-- begun at a side -/
theorem eds_split (hl : 2 ≤ ps.length) {e : P3 × P3} (he : e ∈ eds ps) : ∃ X Y C, ps = X ++ Y ∧ Y ++ X = e.1 :: e.2 :: C := by
  cases ps with
  | nil => simp at hl
  | cons a r =>
    have hr : r ≠ [] := by rintro rfl; simp at hl
    rcases List.mem_cons.mp he with rfl | he
    · obtain ⟨A, eA⟩ := lz_split (z := a) hr
      exact ⟨a :: A, [lz a r], A, congrArg (a :: ·) eA, rfl⟩
    · obtain ⟨A, B, q⟩ := prZ_split he
      exact ⟨A, e.1 :: e.2 :: B, B ++ A, q, by simp⟩
theorem eds_gt (ht : T0 ps) (hl : 3 ≤ ps.length) {e : P3 × P3} (he : e ∈ eds ps) : (∀ x ∈ ps, 0 ≤ det3 e.1 e.2 x) ∧ ∃ x ∈ ps, 0 < det3 e.1 e.2 x := by
  obtain ⟨X, Y, C, e1, e2⟩ := eds_split (by omega) he
  have t : T0 (e.1 :: e.2 :: C) := by rw [← e2]; exact T0.turn (by rw [← e1]; exact ht)
  have len : (e.1 :: e.2 :: C).length = ps.length := by rw [← e2, e1, List.length_append, List.length_append]; omega
  refine ⟨fun x hx => ?_, ?_⟩
  · have hx : x ∈ e.1 :: e.2 :: C := by
      rw [← e2]
      rw [e1] at hx
      rcases List.mem_append.mp hx with h | h
      · exact List.mem_append_right _ h
      · exact List.mem_append_left _ h
    rcases List.mem_cons.mp hx with rfl | hx
    · exact eq0 (by unfold det3 crs; grind)
    · rcases List.mem_cons.mp hx with rfl | hx
      · exact eq0 (det3_two _ _)
      · exact le0 (t.1.1 x hx)
  · cases C with
    | nil => simp at len; omega
    | cons c C =>
      refine ⟨c, ?_, t.1.1 c List.mem_cons_self⟩
      have : c ∈ Y ++ X := by rw [e2]; simp
      rw [e1]
      rcases List.mem_append.mp this with h | h
      · exact List.mem_append_right _ h
      · exact List.mem_append_left _ h
/-- who is left of all sides of the ring, strictly at the one hand, is left of all sides of the cut -/
theorem cut_in (hM : MtOk l mt) (o : P3) (ho : ln l o = 0) (ht : T0 ps) (hl : 3 ≤ ps.length) (hp : ∃ p ∈ ps, 0 < ln l p) {s : P3} (h : ∀ e ∈ eds ps, 0 < det3 e.1 e.2 s) (hs : 0 < ln l s) : ∀ e ∈ eds (cutR (ln l) mt ps), 0 < det3 e.1 e.2 s := by
  obtain ⟨t, hl'⟩ := cut_t0 hM.meets ht hl hp
  have key := cut_eds (f := ln l) (mt := mt) (ps := ps) (C := fun u v => ∃ g : P3, ln g u = 0 ∧ ln g v = 0 ∧ (g = l ∨ ∃ e ∈ eds ps, g = crs e.1 e.2)) (fun u v hu hv => ⟨l, hu, hv, .inl rfl⟩) o ho
    (fun e he _ _ => ⟨crs e.1 e.2, by show det3 e.1 e.2 e.1 = 0; unfold det3 crs; grind, det3_two _ _, .inr ⟨e, he, rfl⟩⟩)
    (fun e he c => by
      obtain ⟨b, z⟩ := hM _ _ c
      have g1 : ln (crs e.1 e.2) e.1 = 0 := by show det3 e.1 e.2 e.1 = 0; unfold det3 crs; grind
      have g2 : ln (crs e.1 e.2) e.2 = 0 := det3_two _ _
      exact ⟨z, fun _ => ⟨crs e.1 e.2, g1, b.ln0 g1 g2, .inr ⟨e, he, rfl⟩⟩, fun _ => ⟨crs e.1 e.2, b.ln0 g1 g2, g2, .inr ⟨e, he, rfl⟩⟩⟩)
  intro e he
  obtain ⟨g, gu, gv, hg⟩ := key e he
  obtain ⟨x, hx, dx⟩ := (eds_gt t hl' he).2
  have ge : 0 ≤ ln g x ∧ 0 < ln g s := by
    rcases hg with rfl | ⟨d, hd, rfl⟩
    · exact ⟨cut_on hM x hx, hs⟩
    · exact ⟨cut_ge hM (fun y hy => (eds_gt ht hl hd).1 y hy) x hx, h d hd⟩
  have f4 := four g e.1 e.2 x s
  rw [gu, gv, Int.mul_zero, Int.mul_zero] at f4
  have e1 : det3 e.1 e.2 s * ln g x = det3 e.1 e.2 x * ln g s := by omega
  have pos := Int.mul_pos dx ge.2
  rw [← e1] at pos
  have lx : 0 < ln g x := by
    rcases Int.lt_or_eq_of_le ge.1 with a | a
    · exact a
    · rw [← a, Int.mul_zero] at pos; omega
  exact Int.pos_of_mul_pos_left pos lx
end
/-! ### how a ring is told from a spot -/
open Classical in
/-- as the laws reckon it: 0 right of a side, -1 on one, else 1 -/
noncomputable def wi (ps : List P3) (s : P3) : Int := if ∃ e ∈ eds ps, det3 e.1 e.2 s < 0 then 0 else if ∃ e ∈ eds ps, det3 e.1 e.2 s = 0 then -1 else 1
theorem wi_one {ps : List P3} {s : P3} (h : ∀ e ∈ eds ps, 0 < det3 e.1 e.2 s) : wi ps s = 1 := by
  unfold wi
  rw [if_neg fun ⟨e, he, z⟩ => by have := h e he; omega, if_neg fun ⟨e, he, z⟩ => by have := h e he; omega]
theorem wi_zero {ps : List P3} {s : P3} (h : ¬ ∀ e ∈ eds ps, 0 ≤ det3 e.1 e.2 s) : wi ps s = 0 := by
  unfold wi
  rw [if_pos]
  apply Classical.byContradiction
  intro n
  exact h fun e he => by
    by_cases z : 0 ≤ det3 e.1 e.2 s
    · exact z
    · exact absurd ⟨e, he, by omega⟩ n
theorem wi_cases {ps : List P3} {s : P3} (h : wi ps s ≠ -1) : (wi ps s = 1 ∧ ∀ e ∈ eds ps, 0 < det3 e.1 e.2 s) ∨ (wi ps s = 0 ∧ ¬ ∀ e ∈ eds ps, 0 ≤ det3 e.1 e.2 s) := by
  by_cases c : ∃ e ∈ eds ps, det3 e.1 e.2 s < 0
  · refine .inr ⟨?_, fun z => ?_⟩
    · unfold wi; rw [if_pos c]
    · obtain ⟨e, he, q⟩ := c
      have := z e he
      omega
  · have z : ∀ e ∈ eds ps, 0 ≤ det3 e.1 e.2 s := fun e he => by
      by_cases z : 0 ≤ det3 e.1 e.2 s
      · exact z
      · exact absurd ⟨e, he, by omega⟩ c
    by_cases d : ∃ e ∈ eds ps, det3 e.1 e.2 s = 0
    · exact absurd (by unfold wi; rw [if_neg c, if_pos d]) h
    · have p : ∀ e ∈ eds ps, 0 < det3 e.1 e.2 s := fun e he => by
        have := z e he
        rcases Int.lt_or_eq_of_le this with a | a
        · exact a
        · exact absurd ⟨e, he, a.symm⟩ d
      exact .inl ⟨wi_one p, p⟩
section
variable {l : P3} {mt : P3 → P3 → P3} {ps : List P3}
/-- no corner at the one hand: nothing of the ring is there -/
theorem wi_none (ht : T0 ps) (hl : 3 ≤ ps.length) (hp : ¬ ∃ p ∈ ps, 0 < ln l p) {s : P3} (hs : 0 < ln l s) : wi ps s = 0 :=
  wi_zero fun z => by
    have := fan (l := ngL l) ht hl z fun x hx => by
      rw [ln_ng]
      by_cases y : 0 < ln l x
      · exact absurd ⟨x, hx, y⟩ hp
      · omega
    rw [ln_ng] at this
    omega
end
end Cut

namespace Cut
open PySem L2 L3
open PySem.Builtin.Int (intBits)
/-! ### areas of a ring's two cuts -/
def sumT (T : P3 → P3 → Rat) (es : List (P3 × P3)) : Rat := (es.map fun e => T e.1 e.2).sum
theorem sumT_nil (T : P3 → P3 → Rat) : sumT T [] = 0 := rfl
theorem sumT_cons (T : P3 → P3 → Rat) (e : P3 × P3) (es : List (P3 × P3)) : sumT T (e :: es) = T e.1 e.2 + sumT T es := by unfold sumT; rw [List.map_cons, List.sum_cons]
theorem sumT_app (T : P3 → P3 → Rat) : ∀ es fs : List (P3 × P3), sumT T (es ++ fs) = sumT T es + sumT T fs
  | [], fs => by rw [List.nil_append, sumT_nil]; grind
  | e :: es, fs => by rw [List.cons_append, sumT_cons, sumT_cons, sumT_app T es fs]; grind
section
variable {f : P3 → Int} {mt : P3 → P3 → P3} {T : P3 → P3 → Rat} {V : P3 → Prop}
theorem sumT_rot (T : P3 → P3 → Rat) (a : P3) (r : List P3) : sumT T (prZ a (r ++ [a])) = sumT T (eds (a :: r)) := by
  have : eds (a :: r) = (lz a r, a) :: prZ a r := rfl
  rw [this, prZ_app, sumT_app, sumT_cons]
  have : prZ (lz a r) [a] = [(lz a r, a)] := rfl
  rw [this, sumT_cons, sumT_nil]
  dsimp only
  grind
end
/-! ### places -/
def rX (p : P3) : Rat := (p.1 : Rat) / (p.2.2 : Rat)
def rY (p : P3) : Rat := (p.2.1 : Rat) / (p.2.2 : Rat)
def crR (p q : P3) : Rat := rX p * rY q - rY p * rX q
theorem pos_ne {x : Int} (h : 0 < x) : (x : Rat) ≠ 0 := fun z => by
  have := Rat.intCast_eq_zero_iff.mp z
  omega
/-- twice a ring's area -/
def areaR (ps : List P3) : Rat := sumT crR (eds ps)
open Classical in
/-- what the program keeps of a ring at the one hand: nothing where no corner is strictly there -/
noncomputable def keepR (f : P3 → Int) (mt : P3 → P3 → P3) (ps : List P3) : List P3 := if ∃ c ∈ ps, 0 < f c then cutR f mt ps else []
end Cut

/-! A scope: what stood ahead is only looked at, each slot pinned; what is made within is new; at the end new lists are emptied and all is as ahead. -/
namespace L3
open PySem L2
def pinS (v : V) : Sl → Sl
  | .val d => .pin v d
  | .own ds => .pin v (.lst ds)
  | .new d => .pin v d
  | s => s
def pinAll (f : Nat → V) : Nat → List Sl → List Sl
  | _, [] => []
  | i, s :: r => pinS (f i) s :: pinAll f (i + 1) r
theorem pinAll_get (f : Nat → V) : ∀ (i n : Nat) (ρ : List Sl), (pinAll f i ρ)[n]? = (ρ[n]?).map (pinS (f (i + n)))
  | _, _, [] => by simp [pinAll]
  | i, 0, s :: r => by simp [pinAll]
  | i, n + 1, s :: r => by
    have := pinAll_get f (i + 1) n r
    rw [show i + 1 + n = i + (n + 1) by omega] at this
    simpa [pinAll] using this
/-- what is kept: a slot that is still pinned as it was -/
inductive Kept (f : Nat → V) : Nat → List Sl → List Sl → List Sl → Prop where
  | nil {i : Nat} : Kept f i [] [] []
  | pin {i : Nat} {s : Sl} {d : D} {r r' q : List Sl} (h : Kept f (i + 1) r r' q) : Kept f i (s :: r) (.pin (f i) d :: r') (s :: q)
  | no {i : Nat} {s x : Sl} {r r' q : List Sl} (h : Kept f (i + 1) r r' q) : Kept f i (s :: r) (x :: r') (.no :: q)
theorem Kept.length {f : Nat → V} : ∀ {i : Nat} {ρ ρ' q : List Sl}, Kept f i ρ ρ' q → q.length = ρ.length ∧ q.length = ρ'.length
  | _, _, _, _, .nil => ⟨rfl, rfl⟩
  | _, _, _, _, .pin h => by obtain ⟨a, b⟩ := h.length; rw [List.length_cons, List.length_cons, List.length_cons]; omega
  | _, _, _, _, .no h => by obtain ⟨a, b⟩ := h.length; rw [List.length_cons, List.length_cons, List.length_cons]; omega
theorem Kept.get {f : Nat → V} : ∀ {i : Nat} {ρ ρ' q : List Sl}, Kept f i ρ ρ' q → ∀ (n : Nat) (k : Sl), q[n]? = some k → k = .no ∨ (ρ[n]? = some k ∧ ∃ d, ρ'[n]? = some (.pin (f (i + n)) d))
  | _, _, _, _, .nil, n, k, h => by simp at h
  | _, _, _, _, .pin (d := d) hk, 0, k, h => by simp at h; subst h; exact .inr ⟨rfl, d, rfl⟩
  | _, _, _, _, .no hk, 0, k, h => by simp at h; exact .inl h.symm
  | i, _, _, _, .pin hk, n + 1, k, h => by
    have := hk.get n k (by simpa using h)
    rw [show i + 1 + n = i + (n + 1) by omega] at this
    simpa using this
  | i, _, _, _, .no hk, n + 1, k, h => by
    have := hk.get n k (by simpa using h)
    rw [show i + 1 + n = i + (n + 1) by omega] at this
    simpa using this
abbrev UZ2 := UEnds → List Sl → (Nat → V) → List Sl → Prop
section
variable {K : PySem.W.Frag} {X : Cx} {e : Expr} {es : List Expr} {u : UE} {w : UL} {pos p : Pos} {rest : List Stmt} {uz : UZ2}
def RefZ2 (K : PySem.W.Frag) (t : TS) (uz : UZ2) : Prop :=
  ∀ (U : UEnds) (ρ : List Sl) (f : Nat → V) (ρz : List Sl), uz U ρ f ρz → ∀ (R : Hp) (W : Addr → Prop) (B H : Hp) (σ : St) (E : Ends), Ev K R W B H σ ρ → Sim K R W B U E → (∀ (i : Nat) (v : V), σ[i]? = some (some v) → f i = v) →
    ∀ (Bz Hz : Hp) (σz : St), Ev K H (frW W σ ρ) Bz Hz σz ρz → (∀ a vs, Bz a = some (.lst vs) → H a = none) → t E σz Hz
def PZ2 (X : Cx) (st : List Stmt) (uz : UZ2) : Prop := ∃ t, PSs X st t ∧ RefZ2 X.K t uz
theorem z2_st {a : Stmt} {s : US} (ha : PS3 X a s) (hr : PZ2 X rest uz) : PZ2 X (a :: rest) (fun U ρ f ρz => s { nx := uz U ρ f, rt := fun _ => False } ρz) := by
  obtain ⟨_, h1, r1⟩ := ha; obtain ⟨_, h2, r2⟩ := hr
  refine ⟨_, pss_cons h1 h2, fun U ρ f ρz h R W B H σ E e sm hf Bz Hz σz ez nl => ?_⟩
  refine r1 _ ρz h H (frW W σ ρ) Bz Hz σz _ ez ⟨fun ρ' σ' B' H' z e' g => ?_, fun _ _ _ _ z => z.elim, fun _ _ _ _ z => z.elim, fun _ _ _ _ z => z.elim⟩
  exact r2 U ρ f ρ' z R W B H σ E e sm hf B' H' σ' e' fun a vs h => (g.n a _ h).elim (nl a vs) id
/-- the scope begins -/
theorem Ev.pinned {R : Hp} {W : Addr → Prop} {B H : Hp} {σ : St} {ρ : List Sl} (e : Ev K R W B H σ ρ) {f : Nat → V} (hf : ∀ (i : Nat) (v : V), σ[i]? = some (some v) → f i = v) :
    ∃ Bz, Ev K H (frW W σ ρ) Bz H σ (pinAll f 0 ρ) ∧ ∀ a vs, Bz a = some (.lst vs) → H a = none := by
  have e1 := e.lookF
  have eW : frW W σ (ρ.map unold) = frW W σ ρ := by funext a; exact propext unold_frW
  rw [eW] at e1
  generalize lookB R W B H σ ρ = LB at e1
  have nb : ∀ a, LB a = none → newL H LB a = none := fun a h => by
    cases q : newL H LB a with
    | none => rfl
    | some o => have := newL_sub a o q; rw [h] at this; cases this
  have wd : Wd H (frW W σ ρ) (newL H LB) H := ⟨fun _ _ h _ => h, newL_sub.trans e1.bh, fun a h => nb a (e1.wb a h), e1.wh, e1.wr⟩
  refine ⟨newL H LB, ⟨wd, ?_, fun i k h => ?_, fun i j a m1 m2 => ?_⟩, fun a vs h => (newL_out h).2⟩
  · have : (pinAll f 0 ρ).length = ρ.length := by
      have : ∀ (n : Nat) (l : List Sl), (pinAll f n l).length = l.length := fun n l => by
        induction l generalizing n with
        | nil => rfl
        | cons s r ih => simp [pinAll, ih]
      exact this 0 ρ
    rw [this]; exact e.len
  · rw [pinAll_get, Nat.zero_add] at h
    cases q : ρ[i]? with
    | none => rw [q] at h; cases h
    | some k0 =>
      rw [q] at h
      have h := Option.some.inj h
      subst h
      have ql : (ρ.map look)[i]? = some (look k0) := by rw [List.getElem?_map, q]; rfl
      have z := e1.ok i _ ql
      have pn : ∀ d, (∃ v, (σ[i]?).join = some v ∧ Rep K LB v d) → SlOk K H (frW W σ ρ) (newL H LB) H (σ[i]?).join (.pin (f i) d) := fun d ⟨v, h1, h2⟩ => by
        rw [hf i v (join_some h1)]
        exact ⟨h1, h2.mono (mixB_all e1.bh e1.wb)⟩
      cases k0 with
      | no => trivial
      | val d => exact pn d z
      | own ds => exact pn (.lst ds) z
      | new d => exact pn d z
      | pin v d =>
        obtain ⟨v', h1, h2⟩ := z
        have h0 := (e.ok i _ q).1
        rw [h1] at h0
        cases h0
        exact ⟨h1, h2.mono (mixB_all e1.bh e1.wb)⟩
      | bag =>
        obtain ⟨b, h1, h2, h3, h4⟩ := z
        exact ⟨b, h1, h2, nb b h3, h4⟩
  · have back : ∀ i, MutAt σ (pinAll f 0 ρ) i a → ρ[i]? = some .bag := fun i m => by
      obtain ⟨_, h2⟩ := m
      rw [pinAll_get, Nat.zero_add] at h2
      cases q : ρ[i]? with
      | none => rw [q] at h2; rcases h2 with h2 | ⟨_, h2⟩ <;> cases h2
      | some k0 =>
        rw [q] at h2
        cases k0 with
        | bag => rfl
        | _ => rcases h2 with h2 | ⟨_, h2⟩ <;> cases h2
    exact e.sep i j a ⟨m1.1, .inl (back i m1)⟩ ⟨m2.1, .inl (back j m2)⟩
theorem ss_scope {st : List Stmt} (h : PZ2 X st uz) : PSs3 X st (fun U ρ => ∀ f : Nat → V, uz U ρ f (pinAll f 0 ρ)) := by
  obtain ⟨_, h1, r1⟩ := h
  refine ⟨_, h1, fun U ρ h R W B H σ E e sm => ?_⟩
  have hf : ∀ (i : Nat) (v : V), σ[i]? = some (some v) → (fun i => match σ[i]? with | some (some v) => v | _ => V.non) i = v := fun i v h => by
    dsimp only; rw [h]
  obtain ⟨Bz, ez, nl⟩ := e.pinned hf
  exact r1 U ρ _ _ (h _) R W B H σ E e sm hf Bz H σ ez nl
theorem Kept.same {R : Hp} {W : Addr → Prop} {B H : Hp} {σ σz : St} {ρ ρz q : List Sl} {f : Nat → V} (kq : Kept f 0 ρ ρz q) (e : Ev K R W B H σ ρ) (hf : ∀ (i : Nat) (v : V), σ[i]? = some (some v) → f i = v) (hz : ∀ (n : Nat) (v : V) (d : D), ρz[n]? = some (.pin v d) → σz[n]? = some (some v)) :
    ∀ (n : Nat) (k : Sl), q[n]? = some k → k = .no ∨ (ρ[n]? = some k ∧ σz[n]? = σ[n]?) := fun n k hk => by
  rcases kq.get n k hk with z | ⟨z1, d, z2⟩
  · exact .inl z
  · rw [Nat.zero_add] at z2
    have y := hz n _ d z2
    have ok := e.ok n k z1
    have go : (∃ v, (σ[n]?).join = some v) → σz[n]? = σ[n]? := fun ⟨v, h⟩ => by
      have h := join_some h
      rw [y, h, hf n v h]
    cases k with
    | no => exact .inl rfl
    | val d => obtain ⟨v, h, _⟩ := ok; exact .inr ⟨z1, go ⟨v, h⟩⟩
    | new d => obtain ⟨v, h, _⟩ := ok; exact .inr ⟨z1, go ⟨v, h⟩⟩
    | pin v d => exact .inr ⟨z1, go ⟨v, ok.1⟩⟩
    | own ds => obtain ⟨a, vs, h, _⟩ := ok; exact .inr ⟨z1, go ⟨_, h⟩⟩
    | bag => obtain ⟨b, h, _⟩ := ok; exact .inr ⟨z1, go ⟨_, h⟩⟩
theorem Ev.pinAt {R : Hp} {W : Addr → Prop} {B H : Hp} {σ : St} {ρ : List Sl} (e : Ev K R W B H σ ρ) : ∀ (n : Nat) (v : V) (d : D), ρ[n]? = some (.pin v d) → σ[n]? = some (some v) := fun n v d h => join_some (e.ok n _ h).1
end
end L3
namespace L3
open PySem L2
section
variable {K : PySem.W.Frag} {X : Cx} {a b e : Expr} {es : List Expr} {ua ub u : UE} {w : UL} {pos p : Pos} {F : FS} {a0 : Expr}
def uNotN (ua ub : UE) : UE := fun ρ k => ua ρ fun x => ub ρ fun y => y = .non ∧ k (.bl (!isNon x))
theorem t_notN (ha : PE3 X a ua) (hb : PE3 X b ub) (hm : behindInMarks .IsNot b = false) : PT3 X (.Compare a [.IsNot] [b] pos) (uB (uNotN ua ub)) := by
  obtain ⟨_, h1, r1⟩ := ha; obtain ⟨_, h2, r2⟩ := hb
  refine ⟨_, pt_cmpR op_notN h1 h2 hm, refB (ref2 (f := fun x y k => y = .non ∧ k (.bl (!isNon x))) r1 r2 fun x y k h R W B H σ ρ v w Q e rx ry q => ?_)⟩
  obtain ⟨rfl, hk⟩ := h
  have e1 : w = .non := by cases ry; rfl
  have e2 : decide (v = V.non) = isNon x := by cases rx <;> simp [isNon]
  refine ⟨e1, ?_⟩
  rw [e2]
  exact q _ _ B H hk e (Grow.refl _ _) (.bl _)
end
end L3
namespace L3
open PySem L2
section
variable {X : Cx} {e : Expr} {u : UE} {pos : Pos}
/-- name += an int -/
def uAug (i : Nat) (u : UE) : US := fun U ρ => ∃ m, ρ[i]? = some (.val (.int m)) ∧ u ρ fun d => ∃ n, d = .int n ∧ U.nx (ρ.set i (.val (.int (m + n))))
theorem s_aug {i : Nat} {x : Str} {pos' : Pos} (hN : X.N.Nodup) (hi : X.N[i]? = some x) (hx : Loc X.env.scope x) (he : PE3 X e u) (hf : X.fn x = true ∨ X.env.scope.names.lookup x = some .local := by first | exact .inl rfl | exact .inr rfl | assumption) :
    PS3 X (.AugAssign (.Name x pos') .Add e pos) (uAug i u) := by
  obtain ⟨_, h1, r1⟩ := he
  refine ⟨_, ps_aug hN hi hx h1 ip_add hf, fun U ρ h R W B H σ D e s => ?_⟩
  obtain ⟨m, hm, h⟩ := h
  obtain ⟨v, hv, rv⟩ := e.val hm
  refine ⟨v, hv, ?_⟩
  refine r1 ρ _ h R W B H σ _ e fun d w B1 H1 z1 e1 g1 s1 => ?_
  obtain ⟨n, rfl, z⟩ := z1
  exact ⟨m, n, rv.intV, s1.intV, s.nx _ _ B1 H1 z (e1.setV i (.int _)) g1⟩
end
end L3

namespace L3
open PySem L2
end L3
namespace Cut
open PySem L2 L3
open PySem.Builtin.Int (intBits)
theorem bits06 {x : Int} (h0 : -63 ≤ x) (h1 : x ≤ 63) : intBits x ≤ 6 := by
  have : ∀ n : Fin 127, intBits ((n.val : Int) - 63) ≤ 6 := by decide +kernel
  have := this ⟨(x + 63).toNat, by omega⟩
  rw [show (((x + 63).toNat : Nat) : Int) - 63 = x by omega] at this
  exact this
/-! ### values of areas -/
def vq (a : Int × Int) : Rat := (a.1 : Rat) / (a.2 : Rat)
theorem vq_stp {a : Int × Int} {p q : P3} (ha : 0 < a.2) (hp : 0 < p.2.2) (hq : 0 < q.2.2) : vq (stp a p q) = vq a + crR p q := by
  unfold vq stp crR rX rY
  dsimp only
  rw [Rat.intCast_add, Rat.intCast_mul, Rat.intCast_mul, Rat.intCast_mul, Rat.intCast_sub, Rat.intCast_mul, Rat.intCast_mul, Rat.intCast_mul, Rat.intCast_mul]
  have a0 := pos_ne ha
  have p0 := pos_ne hp
  have q0 := pos_ne hq
  generalize (a.1 : Rat) = a1 at *
  generalize (a.2 : Rat) = a2 at *
  generalize (p.1 : Rat) = p1 at *
  generalize (p.2.1 : Rat) = p2 at *
  generalize (p.2.2 : Rat) = p3 at *
  generalize (q.1 : Rat) = q1 at *
  generalize (q.2.1 : Rat) = q2 at *
  generalize (q.2.2 : Rat) = q3 at *
  grind
theorem stp_pos {a : Int × Int} {p q : P3} (ha : 0 < a.2) (hp : 0 < p.2.2) (hq : 0 < q.2.2) : 0 < (stp a p q).2 := Int.mul_pos (Int.mul_pos ha hp) hq
theorem vq_fold : ∀ {es : List (P3 × P3)} {a : Int × Int}, 0 < a.2 → (∀ e ∈ es, 0 < e.1.2.2 ∧ 0 < e.2.2.2) → 0 < (es.foldl (fun a e => stp a e.1 e.2) a).2 ∧ vq (es.foldl (fun a e => stp a e.1 e.2) a) = vq a + sumT crR es
  | [], a, ha, _ => ⟨ha, by rw [sumT_nil, List.foldl_nil]; grind⟩
  | e :: es, a, ha, h => by
    obtain ⟨h1, h2⟩ := h e List.mem_cons_self
    obtain ⟨k1, k2⟩ := vq_fold (es := es) (a := stp a e.1 e.2) (stp_pos ha h1 h2) fun x hx => h x (List.mem_cons_of_mem _ hx)
    refine ⟨k1, ?_⟩
    rw [List.foldl_cons, k2, vq_stp ha h1 h2, sumT_cons]
    grind
theorem prZ_get : ∀ (z : P3) (L : List P3) (k : Nat), k < L.length → (prZ z L)[k]? = some (nth (z :: L) k, nth L k)
  | _, [], _, h => absurd h (by simp)
  | z, p :: L, 0, _ => rfl
  | z, p :: L, k + 1, h => by
    have := prZ_get p L k (by simpa using h)
    simpa [prZ, nth_succ] using this
theorem prZ_len : ∀ (z : P3) (L : List P3), (prZ z L).length = L.length
  | _, [] => rfl
  | z, p :: L => by simp [prZ, prZ_len p L]
theorem lz_nth : ∀ (z : P3) (L : List P3), L ≠ [] → lz z L = nth L (L.length - 1)
  | _, [], h => absurd rfl h
  | z, [p], _ => rfl
  | z, p :: q :: L, _ => by
    have := lz_nth p (q :: L) (by simp)
    show lz p (q :: L) = _
    rw [this]
    rfl
theorem eds_range (ps : List P3) : eds ps = (List.range ps.length).map fun k => (nth ps ((k + ps.length - 1) % ps.length), nth ps k) := by
  apply List.ext_getElem?
  intro k
  by_cases h : k < ps.length
  · have hn : ps ≠ [] := by rintro rfl; simp at h
    rw [List.getElem?_map, List.getElem?_range h]
    unfold eds
    rw [prZ_get _ _ _ h]
    simp only [Option.map_some]
    congr 2
    cases k with
    | zero =>
      rw [nth_zero, lz_nth _ _ hn, Nat.zero_add, Nat.mod_eq_of_lt (by omega)]
    | succ k =>
      rw [nth_succ, show k + 1 + ps.length - 1 = k + ps.length by omega, Nat.add_mod_right, Nat.mod_eq_of_lt (by omega)]
  · rw [List.getElem?_eq_none (by unfold eds; rw [prZ_len]; omega), List.getElem?_eq_none (by simp; omega)]
theorem ta_eds (ps : List P3) : ta ps ps.length = (eds ps).foldl (fun a e => stp a e.1 e.2) (0, 1) := by
  unfold ta
  rw [eds_range, List.foldl_map]
/-- a told area: how much -/
def vP (p : P3) : Rat := (p.1 : Rat) / (p.2.2 : Rat)
theorem npt_vP {a n : Int} (hn : 0 < n) : PtP (npt a 0 n) ∧ (npt a 0 n).2.1 = 0 ∧ vP (npt a 0 n) = (a : Rat) / n := by
  obtain ⟨pt, e1, e2, _⟩ := npt_spec (a := a) (b := 0) (Int.ne_of_gt hn)
  refine ⟨pt, ?_, ?_⟩
  · rw [Int.zero_mul] at e2
    rcases Int.mul_eq_zero.mp e2 with z | z
    · exact z
    · omega
  · have n0 := pos_ne hn
    have z0 := pos_ne pt.1
    have e : ((npt a 0 n).1 : Rat) * n = a * (npt a 0 n).2.2 := by rw [← Rat.intCast_mul, e1, Rat.intCast_mul]
    unfold vP
    generalize ((npt a 0 n).1 : Rat) = x at *
    generalize ((npt a 0 n).2.2 : Rat) = y at *
    generalize (a : Rat) = a' at *
    generalize (n : Rat) = n' at *
    grind
theorem vP_inj {p q : P3} (hp : PtP p) (hq : PtP q) (p0 : p.2.1 = 0) (q0 : q.2.1 = 0) (h : vP p = vP q) : p = q := by
  have a0 := pos_ne hp.1
  have b0 := pos_ne hq.1
  have e : (p.1 : Rat) * q.2.2 = q.1 * p.2.2 := by
    unfold vP at h
    generalize (p.1 : Rat) = x at *
    generalize (p.2.2 : Rat) = y at *
    generalize (q.1 : Rat) = z at *
    generalize (q.2.2 : Rat) = w at *
    grind
  rw [← Rat.intCast_mul, ← Rat.intCast_mul] at e
  have e := Rat.intCast_inj.mp e
  have n1 := npt_eq hp (Int.ne_of_gt hq.1) e (show p.2.1 * q.2.2 = q.2.1 * p.2.2 by rw [p0, q0]; grind)
  have n2 := npt_eq hq (Int.ne_of_gt hq.1) (show q.1 * q.2.2 = q.1 * q.2.2 from rfl) (show q.2.1 * q.2.2 = q.2.1 * q.2.2 from rfl)
  exact n1.symm.trans n2
theorem taP_v {ps : List P3} (h : ∀ p ∈ ps, 0 < p.2.2) : PtP (taP ps) ∧ (taP ps).2.1 = 0 ∧ vP (taP ps) = areaR ps := by
  obtain ⟨k1, k2⟩ := vq_fold (es := eds ps) (a := (0, 1)) (by decide) fun e he => ⟨h _ (eds_mem he).1, h _ (eds_mem he).2⟩
  rw [← ta_eds] at k1 k2
  obtain ⟨a, b, c⟩ := npt_vP (a := (ta ps ps.length).1) k1
  refine ⟨a, b, ?_⟩
  show vP (npt (ta ps ps.length).1 0 (ta ps ps.length).2) = _
  rw [c]
  have : vq (ta ps ps.length) = areaR ps := by
    rw [k2]
    unfold areaR vq
    rw [show (((0 : Int), (1 : Int)).1 : Rat) = 0 from rfl]
    grind
  exact this
end Cut

namespace Cut
open PySem L2 L3
theorem flats_ints (h : P3 → Int) : ∀ ps : List P3, flats (ps.map fun c => D.int (h c)) = true
  | [] => rfl
  | p :: r => by
    rw [List.map_cons, flats, flats_ints h r]
    rfl
theorem keep_yes {f : P3 → Int} {mt : P3 → P3 → P3} {ps : List P3} (h : ∃ c ∈ ps, 0 < f c) : keepR f mt ps = cutR f mt ps := by unfold keepR; rw [if_pos h]
theorem keep_no {f : P3 → Int} {mt : P3 → P3 → P3} {ps : List P3} (h : ¬ ∃ c ∈ ps, 0 < f c) : keepR f mt ps = [] := by unfold keepR; rw [if_neg h]
theorem neg_ex {l : P3} {ps : List P3} : (∃ c ∈ ps, 0 < (fun c => -ln l c) c) ↔ ∃ c ∈ ps, ln l c < 0 :=
  ⟨fun ⟨c, h, z⟩ => ⟨c, h, by have z : 0 < -ln l c := z; omega⟩, fun ⟨c, h, z⟩ => ⟨c, h, by show 0 < -ln l c; omega⟩⟩
end Cut
namespace L3
open PySem L2
end L3
namespace Cut
open PySem L2 L3
open PySem.Builtin.Int (intBits)
theorem wi_minus {ps : List P3} {s : P3} (h : ∀ e ∈ eds ps, 0 ≤ det3 e.1 e.2 s) (z : ∃ e ∈ eds ps, det3 e.1 e.2 s = 0) : wi ps s = -1 := by
  unfold wi
  rw [if_neg fun ⟨e, he, q⟩ => by have := h e he; omega, if_pos z]
theorem eds_take {ps : List P3} {i : Nat} (h : i < ps.length) : (eds ps).take (i + 1) = (eds ps).take i ++ [(nth ps ((i + ps.length - 1) % ps.length), nth ps i)] := by
  rw [List.take_succ, eds_range, List.getElem?_map, List.getElem?_range h]
  rfl
theorem eds_all (ps : List P3) : (eds ps).take ps.length = eds ps := List.take_of_length_le (by unfold eds; rw [prZ_len]; exact Nat.le_refl _)
end Cut
namespace Cut
open PySem L2 L3
open PySem.Builtin.Int (intBits)
theorem sg_eq0 (x : Int) : sg x = 0 ↔ x = 0 := by unfold sg; split <;> first | omega | (split <;> omega)
end Cut

namespace Cut
open PySem L2 L3
open PySem.Builtin.Int (intBits)
theorem ln_self (p q : P3) : ln (crs p q) p = 0 := by show det3 p q p = 0; unfold det3 crs; grind
end Cut

namespace Cut
open PySem L2 L3
open PySem.Builtin.Int (intBits)
/-! ### a ring cut along many lines -/
noncomputable def cutE (e : P3 × P3) (ps : List P3) : List P3 := keepR (ln (crs e.1 e.2)) (mtQ (crs e.1 e.2)) ps
/-- what the program tells: nothing as soon as nothing is left -/
noncomputable def comO : List P3 → List (P3 × P3) → Option (List P3)
  | ps, [] => some ps
  | ps, e :: es => if (cutE e ps).isEmpty = true then none else comO (cutE e ps) es
structure Rg (ps : List P3) : Prop where
  t : T0 ps
  l : 3 ≤ ps.length
  p : ∀ x ∈ ps, PtP x
theorem cutE_some {e : P3 × P3} {ps : List P3} (h : (cutE e ps).isEmpty = false) : (∃ c ∈ ps, 0 < ln (crs e.1 e.2) c) ∧ cutE e ps = cutR (ln (crs e.1 e.2)) (mtQ (crs e.1 e.2)) ps := by
  by_cases c : ∃ c ∈ ps, 0 < ln (crs e.1 e.2) c
  · exact ⟨c, keep_yes c⟩
  · unfold cutE at h
    rw [keep_no c] at h
    cases h
theorem Rg.cut {e : P3 × P3} {ps : List P3} (r : Rg ps) (h : (cutE e ps).isEmpty = false) : Rg (cutE e ps) := by
  obtain ⟨c, q⟩ := cutE_some h
  obtain ⟨t, l⟩ := cut_t0 (mtOk_Q _).meets r.t r.l c
  rw [q]
  exact ⟨t, l, fun x hx => (cutR_pts r.p x hx).1⟩
theorem comO_cons {ps : List P3} {e : P3 × P3} {es : List (P3 × P3)} {rs : List P3} (h : comO ps (e :: es) = some rs) : (cutE e ps).isEmpty = false ∧ comO (cutE e ps) es = some rs := by
  unfold comO at h
  split at h
  · cases h
  · rename_i c
    exact ⟨by cases q : (cutE e ps).isEmpty with
      | true => exact absurd q c
      | false => rfl, h⟩
theorem comO_rg : ∀ {es : List (P3 × P3)} {ps rs : List P3}, Rg ps → comO ps es = some rs → Rg rs
  | [], ps, rs, r, h => by
    unfold comO at h
    rw [← Option.some.inj h]; exact r
  | e :: es, ps, rs, r, h => by
    obtain ⟨h1, h2⟩ := comO_cons h
    exact comO_rg (r.cut h1) h2
theorem cutE_ge {e : P3 × P3} {ps : List P3} {g : P3} (h : (cutE e ps).isEmpty = false) (hg : ∀ x ∈ ps, 0 ≤ ln g x) : ∀ x ∈ cutE e ps, 0 ≤ ln g x := by
  rw [(cutE_some h).2]; exact cut_ge (mtOk_Q _) hg
theorem comO_ge {g : P3} : ∀ {es : List (P3 × P3)} {ps rs : List P3}, comO ps es = some rs → (∀ x ∈ ps, 0 ≤ ln g x) → ∀ x ∈ rs, 0 ≤ ln g x
  | [], ps, rs, h, hg => by
    unfold comO at h
    rw [← Option.some.inj h]; exact hg
  | e :: es, ps, rs, h, hg => by
    obtain ⟨h1, h2⟩ := comO_cons h
    exact comO_ge h2 (cutE_ge h1 hg)
theorem comO_on : ∀ {es : List (P3 × P3)} {ps rs : List P3}, comO ps es = some rs → ∀ e ∈ es, ∀ x ∈ rs, 0 ≤ det3 e.1 e.2 x
  | [], _, _, _, e, he => by cases he
  | d :: es, ps, rs, h, e, he => by
    obtain ⟨h1, h2⟩ := comO_cons h
    rcases List.mem_cons.mp he with rfl | he
    · refine comO_ge (g := crs e.1 e.2) h2 fun x hx => ?_
      rw [(cutE_some h1).2] at hx
      exact cut_on (mtOk_Q _) x hx
    · exact comO_on h2 e he
/-- strictly within, and strictly left of all lines: strictly within what is told -/
theorem comO_in {s : P3} : ∀ {es : List (P3 × P3)} {ps : List P3}, Rg ps → (∀ e ∈ eds ps, 0 < det3 e.1 e.2 s) → (∀ e ∈ es, 0 < det3 e.1 e.2 s) → ∃ rs, comO ps es = some rs ∧ ∀ e ∈ eds rs, 0 < det3 e.1 e.2 s
  | [], ps, r, h, _ => ⟨ps, rfl, h⟩
  | e :: es, ps, r, h, he => by
    have hs := he e List.mem_cons_self
    have c : ∃ c ∈ ps, 0 < ln (crs e.1 e.2) c := by
      apply Classical.byContradiction
      intro n
      have := wi_none r.t r.l n hs
      rw [wi_one h] at this
      cases this
    have q : cutE e ps = cutR (ln (crs e.1 e.2)) (mtQ (crs e.1 e.2)) ps := keep_yes c
    have t := cut_t0 (mtOk_Q (crs e.1 e.2)).meets r.t r.l c
    have ne : (cutE e ps).isEmpty = false := by
      rw [q]
      cases z : cutR (ln (crs e.1 e.2)) (mtQ (crs e.1 e.2)) ps with
      | nil => rw [z] at t; simp at t
      | cons a r => rfl
    have k := cut_in (mtOk_Q (crs e.1 e.2)) e.1 (ln_self e.1 e.2) r.t r.l c h hs
    rw [← q] at k
    obtain ⟨rs, e1, e2⟩ := comO_in (es := es) (r.cut ne) k fun d hd => he d (List.mem_cons_of_mem _ hd)
    refine ⟨rs, ?_, e2⟩
    unfold comO
    rw [if_neg (by rw [ne]; decide)]
    exact e1
/-- a ring's corners are right of none of its sides -/
theorem Rg.ge {ps : List P3} (r : Rg ps) {e : P3 × P3} (he : e ∈ eds ps) : ∀ x ∈ ps, 0 ≤ ln (crs e.1 e.2) x := (eds_gt r.t r.l he).1
theorem comO_out {s : P3} {es : List (P3 × P3)} {ps rs : List P3} (r : Rg ps) (h : comO ps es = some rs) (hs : ∀ e ∈ eds rs, 0 ≤ det3 e.1 e.2 s) : (∀ e ∈ eds ps, 0 ≤ det3 e.1 e.2 s) ∧ ∀ e ∈ es, 0 ≤ det3 e.1 e.2 s := by
  have q := comO_rg r h
  exact ⟨fun e he => fan q.t q.l hs (comO_ge h (r.ge he)), fun e he => fan q.t q.l hs (comO_on h e he)⟩
/-- not strictly: within, and not right of the line -/
theorem cut_in_ge {l : P3} {mt : P3 → P3 → P3} {ps : List P3} (hM : MtOk l mt) (o : P3) (ho : ln l o = 0) (ht : T0 ps) (hl : 3 ≤ ps.length) (hp : ∃ p ∈ ps, 0 < ln l p) {s : P3} (h : ∀ e ∈ eds ps, 0 ≤ det3 e.1 e.2 s) (hs : 0 ≤ ln l s) : ∀ e ∈ eds (cutR (ln l) mt ps), 0 ≤ det3 e.1 e.2 s := by
  obtain ⟨t, hl'⟩ := cut_t0 hM.meets ht hl hp
  have key := cut_eds (f := ln l) (mt := mt) (ps := ps) (C := fun u v => ∃ g : P3, ln g u = 0 ∧ ln g v = 0 ∧ (g = l ∨ ∃ e ∈ eds ps, g = crs e.1 e.2)) (fun u v hu hv => ⟨l, hu, hv, .inl rfl⟩) o ho
    (fun e he _ _ => ⟨crs e.1 e.2, ln_self _ _, det3_two _ _, .inr ⟨e, he, rfl⟩⟩)
    (fun e he c => by
      obtain ⟨b, z⟩ := hM _ _ c
      have g1 : ln (crs e.1 e.2) e.1 = 0 := ln_self _ _
      have g2 : ln (crs e.1 e.2) e.2 = 0 := det3_two _ _
      exact ⟨z, fun _ => ⟨crs e.1 e.2, g1, b.ln0 g1 g2, .inr ⟨e, he, rfl⟩⟩, fun _ => ⟨crs e.1 e.2, b.ln0 g1 g2, g2, .inr ⟨e, he, rfl⟩⟩⟩)
  intro e he
  obtain ⟨g, gu, gv, hg⟩ := key e he
  obtain ⟨x, hx, dx⟩ := (eds_gt t hl' he).2
  -- somewhere g is above 0
  have ge : 0 ≤ ln g x ∧ 0 ≤ ln g s ∧ ∃ y, 0 < ln g y := by
    rcases hg with rfl | ⟨d, hd, rfl⟩
    · obtain ⟨y, _, hy⟩ := hp
      exact ⟨cut_on hM x hx, hs, y, hy⟩
    · obtain ⟨h1, y, _, hy⟩ := eds_gt ht hl hd
      exact ⟨cut_ge hM (fun y hy => h1 y hy) x hx, h d hd, y, hy⟩
  obtain ⟨g1, g2, y, g3⟩ := ge
  have f4 := four g e.1 e.2 x s
  rw [gu, gv, Int.mul_zero, Int.mul_zero] at f4
  have e1 : det3 e.1 e.2 s * ln g x = det3 e.1 e.2 x * ln g s := by omega
  have lx : 0 < ln g x := by
    rcases Int.lt_or_eq_of_le g1 with a | a
    · exact a
    · have f5 := four g e.1 e.2 x y
      rw [gu, gv, ← a, Int.mul_zero, Int.mul_zero, Int.mul_zero] at f5
      have := Int.mul_pos dx g3
      omega
  have ps0 := Int.mul_nonneg (Int.le_of_lt dx) g2
  rw [← e1] at ps0
  by_cases z : 0 ≤ det3 e.1 e.2 s
  · exact z
  · have := Int.mul_neg_of_neg_of_pos (show det3 e.1 e.2 s < 0 by omega) lx
    omega
theorem comO_in_ge {s : P3} : ∀ {es : List (P3 × P3)} {ps rs : List P3}, Rg ps → comO ps es = some rs → (∀ e ∈ eds ps, 0 ≤ det3 e.1 e.2 s) → (∀ e ∈ es, 0 ≤ det3 e.1 e.2 s) → ∀ e ∈ eds rs, 0 ≤ det3 e.1 e.2 s
  | [], ps, rs, r, h, hs, _ => by
    unfold comO at h
    rw [← Option.some.inj h]; exact hs
  | e :: es, ps, rs, r, h, hs, he => by
    obtain ⟨h1, h2⟩ := comO_cons h
    obtain ⟨c, q⟩ := cutE_some h1
    refine comO_in_ge (r.cut h1) h2 ?_ fun d hd => he d (List.mem_cons_of_mem _ hd)
    rw [q]
    exact cut_in_ge (mtOk_Q _) e.1 (ln_self _ _) r.t r.l c hs (he e List.mem_cons_self)
/-! ### a point strictly within -/
def mid3 (a b c : P3) : P3 := lc 1 (lc 1 a 1 b) 1 c
theorem ln_mid (g a b c : P3) : ln g (mid3 a b c) = ln g a + ln g b + ln g c := by unfold mid3; rw [ln_lc, ln_lc]; grind
theorem Rg.mid {ps : List P3} (r : Rg ps) : ∃ s : P3, ∀ g : P3, (∀ x ∈ ps, 0 ≤ ln g x) → (∃ y, 0 < ln g y) → 0 < ln g s := by
  match ps, r with
  | [], r => exact absurd r.l (by simp)
  | [_], r => exact absurd r.l (by simp)
  | [_, _], r => exact absurd r.l (by simp)
  | a :: b :: c :: rest, r =>
    refine ⟨mid3 a b c, fun g hg ⟨y, hy⟩ => ?_⟩
    rw [ln_mid]
    have ha := hg a (by simp)
    have hb := hg b (by simp)
    have hc := hg c (by simp)
    have d : 0 < det3 a b c := r.t.1.1 c List.mem_cons_self
    by_cases z : 0 < ln g a + ln g b + ln g c
    · exact z
    · exfalso
      have k := tri_in (a := a) (b := b) (c := c) (s := y) (l := g)
      rw [show ln g a = 0 by omega, show ln g b = 0 by omega, show ln g c = 0 by omega, Int.mul_zero, Int.mul_zero, Int.mul_zero] at k
      have := Int.mul_pos d hy
      omega
/-- both ways round, or neither -/
theorem com_back {ps qs rs : List P3} (hp : Rg ps) (hq : Rg qs) {es fs : List (P3 × P3)} (he : ∀ e, e ∈ es ↔ e ∈ eds qs) (hf : ∀ e, e ∈ fs ↔ e ∈ eds ps) (h : comO ps es = some rs) : ∃ ts, comO qs fs = some ts := by
  have r := comO_rg hp h
  obtain ⟨s, hs⟩ := r.mid
  have a : ∀ e ∈ eds ps, 0 < det3 e.1 e.2 s := fun e h1 => hs (crs e.1 e.2) (comO_ge h (hp.ge h1)) (by obtain ⟨y, _, z⟩ := (eds_gt hp.t hp.l h1).2; exact ⟨y, z⟩)
  have b : ∀ e ∈ eds qs, 0 < det3 e.1 e.2 s := fun e h1 => hs (crs e.1 e.2) (comO_on h e ((he e).mpr h1)) (by obtain ⟨y, _, z⟩ := (eds_gt hq.t hq.l h1).2; exact ⟨y, z⟩)
  obtain ⟨ts, h2, _⟩ := comO_in hq b fun e h1 => a e ((hf e).mp h1)
  exact ⟨ts, h2⟩
/-! ### rings of the same corners -/
theorem T1.nomem {a : P3} : ∀ {L : List P3}, T1 a L → 2 ≤ L.length → a ∉ L
  | [], _, h, _ => by simp at h
  | [_], _, h, _ => by simp at h
  | b :: c :: r, t, _, hm => by
    rcases List.mem_cons.mp hm with e | hm
    · have := t.1 c List.mem_cons_self
      rw [← e, d_same] at this
      omega
    · have := t.1 a hm
      have z : det3 a b a = 0 := by unfold det3 crs; grind
      omega
theorem T1.uniq {a : P3} : ∀ {L M : List P3}, T1 a L → T1 a M → (∀ x, x ∈ L ↔ x ∈ M) → L = M
  | [], [], _, _, _ => rfl
  | [], c :: M, _, _, h => by have := (h c).mpr List.mem_cons_self; cases this
  | b :: L, [], _, _, h => by have := (h b).mp List.mem_cons_self; cases this
  | b :: L, c :: M, tl, tm, h => by
    have ebc : b = c := by
      apply Classical.byContradiction
      intro n
      have hb : b ∈ M := by
        rcases List.mem_cons.mp ((h b).mp List.mem_cons_self) with z | z
        · exact absurd z n
        · exact z
      have hc : c ∈ L := by
        rcases List.mem_cons.mp ((h c).mpr List.mem_cons_self) with z | z
        · exact absurd z.symm n
        · exact z
      have d1 := tl.1 c hc
      have d2 := tm.1 b hb
      have : det3 a c b = -det3 a b c := by unfold det3 crs; grind
      omega
    subst ebc
    have nb : ∀ {K : List P3}, (∀ x ∈ K, 0 < det3 a b x) → b ∉ K := fun k z => by
      have := k b z
      rw [det3_two] at this
      omega
    have e : L = M := T1.uniq tl.2 tm.2 fun x => by
      constructor
      · intro hx
        rcases List.mem_cons.mp ((h x).mp (List.mem_cons_of_mem _ hx)) with z | z
        · rw [z] at hx; exact absurd hx (nb tl.1)
        · exact z
      · intro hx
        rcases List.mem_cons.mp ((h x).mpr (List.mem_cons_of_mem _ hx)) with z | z
        · rw [z] at hx; exact absurd hx (nb tm.1)
        · exact z
    rw [e]
theorem area_rot1 (a : P3) (r : List P3) : areaR (r ++ [a]) = areaR (a :: r) := by
  unfold areaR
  have e : eds (r ++ [a]) = prZ a (r ++ [a]) := by
    unfold eds
    rw [lz_app]
    rfl
  rw [e, sumT_rot]
theorem area_rot : ∀ X Y : List P3, areaR (X ++ Y) = areaR (Y ++ X)
  | [], Y => by rw [List.append_nil]; rfl
  | x :: X, Y => by
    have := area_rot X (Y ++ [x])
    rw [List.cons_append, ← area_rot1, List.append_assoc, this, List.append_assoc]
    rfl
/-- the same corners: the same area -/
theorem area_same {F G : List P3} (f : Rg F) (g : Rg G) (h : ∀ x, x ∈ F ↔ x ∈ G) : areaR F = areaR G := by
  cases F with
  | nil => exact absurd f.l (by simp)
  | cons a F' =>
    obtain ⟨X, Y, e⟩ := List.append_of_mem ((h a).mp List.mem_cons_self)
    have tg : T0 (a :: (Y ++ X)) := by
      have := T0.turn (xs := X) (ys := a :: Y) (by rw [← e]; exact g.t)
      exact this
    have lf : 2 ≤ F'.length := by have := f.l; simp at this; omega
    have lg : 2 ≤ (Y ++ X).length := by have := g.l; rw [e] at this; simp at this ⊢; omega
    have na := T1.nomem f.t.1 lf
    have nb := T1.nomem tg.1 lg
    have mg : ∀ x, x ∈ G ↔ x ∈ a :: (Y ++ X) := fun x => by rw [e]; simp; constructor <;> (intro z; rcases z with z | z | z <;> simp [z])
    have eq : F' = Y ++ X := T1.uniq f.t.1 tg.1 fun x => by
      constructor
      · intro hx
        rcases List.mem_cons.mp ((mg x).mp ((h x).mp (List.mem_cons_of_mem _ hx))) with z | z
        · rw [z] at hx; exact absurd hx na
        · exact z
      · intro hx
        rcases List.mem_cons.mp ((h x).mpr ((mg x).mpr (List.mem_cons_of_mem _ hx))) with z | z
        · rw [z] at hx; exact absurd hx nb
        · exact z
    rw [eq, e, area_rot X (a :: Y)]
    rfl
/-! ### rings within one another have the same corners -/
theorem pt_same {y c : P3} {D k : Int} (hD : 0 < D) (py : PtP y) (pc : PtP c) (e : sc D y = sc k c) : y = c := by
  have k0 : k ≠ 0 := by
    rintro rfl
    have h3 : D * y.2.2 = 0 * c.2.2 := congrArg (fun x : P3 => x.2.2) e
    rw [Int.zero_mul] at h3
    have := Int.mul_pos hD py.1
    omega
  obtain ⟨_, h⟩ := nP_of_sc (show D ≠ 0 by omega) k0 pc e
  rw [← h]
  exact (nP_self py).symm
theorem tri_pt (a b c y : P3) : sc (det3 a b c) y = (det3 b c y * a.1 + det3 c a y * b.1 + det3 a b y * c.1, det3 b c y * a.2.1 + det3 c a y * b.2.1 + det3 a b y * c.2.1, det3 b c y * a.2.2 + det3 c a y * b.2.2 + det3 a b y * c.2.2) := by
  unfold sc det3 crs
  refine p3_ext ?_ ?_ ?_ <;> dsimp only <;> grind
theorem corner_in {F G : List P3} (f : Rg F) (g : Rg G) (hF : ∀ x ∈ F, ∀ e ∈ eds G, 0 ≤ det3 e.1 e.2 x) (hG : ∀ y ∈ G, ∀ e ∈ eds F, 0 ≤ det3 e.1 e.2 y) : ∀ c ∈ F, c ∈ G := by
  intro c hc
  apply Classical.byContradiction
  intro nc
  -- the sides at c
  obtain ⟨X, Y, e⟩ := List.append_of_mem hc
  have t : T0 (c :: (Y ++ X)) := by
    have := T0.turn (xs := X) (ys := c :: Y) (by rw [← e]; exact f.t)
    exact this
  obtain ⟨n, N, eN⟩ : ∃ n N, Y ++ X = n :: N := by
    cases q : Y ++ X with
    | nil =>
      have l := f.l
      rw [e, List.length_append, List.length_cons] at l
      have := congrArg List.length q
      rw [List.length_append, List.length_nil] at this
      omega
    | cons n N => exact ⟨n, N, rfl⟩
  rw [eN] at t
  have Nn : N ≠ [] := by
    rintro rfl
    have l := f.l
    rw [e, List.length_append, List.length_cons] at l
    have := congrArg List.length eN
    rw [List.length_append, List.length_cons, List.length_nil] at this
    omega
  -- sides of the turned ring are sides of the ring
  have ed : ∀ d, d ∈ eds (c :: n :: N) → d ∈ eds F := fun d hd => by
    have r1 : ∀ (A B : List P3), d ∈ eds (B ++ A) → d ∈ eds (A ++ B) := fun A => by
      induction A with
      | nil => intro B h; rw [List.append_nil] at h; exact h
      | cons a A ih =>
        intro B h
        have h1 : d ∈ eds ((B ++ [a]) ++ A) := by rw [List.append_assoc]; exact h
        have h2 := ih (B ++ [a]) h1
        have h3 : eds (A ++ (B ++ [a])) = prZ a ((A ++ B) ++ [a]) := by
          rw [← List.append_assoc]
          unfold eds
          rw [lz_app]
          rfl
        rw [h3] at h2
        exact eds_rot.mp h2
    rw [e]
    refine r1 X (c :: Y) ?_
    have : c :: Y ++ X = c :: n :: N := by rw [List.cons_append, eN]
    rw [this]
    exact hd
  have e1 : (c, n) ∈ eds (c :: n :: N) := List.mem_cons_of_mem _ List.mem_cons_self
  have e2 : (lz n N, c) ∈ eds (c :: n :: N) := List.mem_cons_self
  have zN : lz n N ∈ N := lz_mem Nn
  generalize lz n N = z at *
  have dz : 0 < det3 c n z := t.1.1 z zN
  have one := ed _ e1
  have two := ed _ e2
  -- who is in G is off c
  have off : ∀ y ∈ G, 0 < det3 c n y + det3 z c y := fun y hy => by
    have a : 0 ≤ det3 c n y := hG y hy _ one
    have b : 0 ≤ det3 z c y := hG y hy _ two
    apply Classical.byContradiction
    intro q
    have a0 : det3 c n y = 0 := by omega
    have b0 : det3 z c y = 0 := by omega
    have tp := tri_pt c n z y
    rw [a0, b0] at tp
    have tp : sc (det3 c n z) y = sc (det3 n z y) c := by
      rw [tp]
      unfold sc
      refine p3_ext ?_ ?_ ?_ <;> dsimp only <;> grind
    have := pt_same dz (g.p y hy) (f.p c hc) tp
    exact nc (by rw [← this]; exact hy)
  -- a line that has G at its left and c at its right
  have wt : ∃ W : Int, 0 < W ∧ ∀ y ∈ G, y.2.2 ≤ W := by
    have : ∀ L : List P3, ∃ W : Int, 0 < W ∧ ∀ y ∈ L, y.2.2 ≤ W := fun L => by
      induction L with
      | nil => exact ⟨1, by decide, fun y hy => by cases hy⟩
      | cons a L ih =>
        obtain ⟨W, h1, h2⟩ := ih
        by_cases q : a.2.2 ≤ W
        · exact ⟨W, h1, fun y hy => by rcases List.mem_cons.mp hy with rfl | hy; exact q; exact h2 y hy⟩
        · exact ⟨a.2.2, by omega, fun y hy => by
            rcases List.mem_cons.mp hy with rfl | hy
            · exact Int.le_refl _
            · have := h2 y hy; omega⟩
    exact this G
  obtain ⟨W, w0, hW⟩ := wt
  have lnl : ∀ y : P3, ln (lc W (lc 1 (crs c n) 1 (crs z c)) (-1) (0, 0, 1)) y = W * (det3 c n y + det3 z c y) - y.2.2 := fun y => by
    unfold ln lc det3; dsimp only; grind
  have := fan (l := lc W (lc 1 (crs c n) 1 (crs z c)) (-1) (0, 0, 1)) g.t g.l (hF c hc) fun y hy => by
    rw [lnl]
    have h1 := off y hy
    have h2 := hW y hy
    have h3 : W * 1 ≤ W * (det3 c n y + det3 z c y) := Int.mul_le_mul_of_nonneg_left (by omega) (Int.le_of_lt w0)
    omega
  rw [lnl] at this
  have c1 : det3 c n c = 0 := by unfold det3 crs; grind
  have c2 : det3 z c c = 0 := det3_two _ _
  rw [c1, c2] at this
  have := (f.p c hc).1
  omega
/-- what two rings have in common, told either way round, has the same area -/
theorem com_area {ps qs rs ts : List P3} (hp : Rg ps) (hq : Rg qs) {es fs : List (P3 × P3)} (he : ∀ e, e ∈ es ↔ e ∈ eds qs) (hf : ∀ e, e ∈ fs ↔ e ∈ eds ps) (h : comO ps es = some rs) (k : comO qs fs = some ts) : areaR rs = areaR ts := by
  have r := comO_rg hp h
  have t := comO_rg hq k
  have a : ∀ x ∈ rs, ∀ e ∈ eds ts, 0 ≤ det3 e.1 e.2 x := fun x hx => comO_in_ge hq k (fun e h1 => comO_on h e ((he e).mpr h1) x hx) fun e h1 => comO_ge h (hp.ge ((hf e).mp h1)) x hx
  have b : ∀ x ∈ ts, ∀ e ∈ eds rs, 0 ≤ det3 e.1 e.2 x := fun x hx => comO_in_ge hp h (fun e h1 => comO_on k e ((hf e).mpr h1) x hx) fun e h1 => comO_ge k (hq.ge ((he e).mp h1)) x hx
  have m1 := corner_in r t a b
  have m2 := corner_in t r b a
  exact area_same r t fun x => ⟨m1 x, m2 x⟩
end Cut

namespace Cut
open PySem L2 L3
open PySem.Builtin.Int (intBits)
/-! ### how many corners a cut has -/
section
variable (f : P3 → Int)
def cNg : List P3 → Nat
  | [] => 0
  | p :: r => (if f p < 0 then 1 else 0) + cNg r
def cNn : List P3 → Nat
  | [] => 0
  | p :: r => (if f p < 0 then 0 else 1) + cNn r
end
theorem cN_len (f : P3 → Int) : ∀ L : List P3, cNg f L + cNn f L = L.length
  | [] => rfl
  | p :: r => by
    have := cN_len f r
    unfold cNg cNn
    rw [List.length_cons]
    split <;> omega
theorem mx_lenA (f : P3 → Int) (mt : P3 → P3 → P3) (p q : P3) : (mx f mt p q).length ≤ (if f p < 0 then 1 else 0) + (if f q < 0 then 1 else 0) := by
  unfold mx
  split
  · rename_i c
    rcases opp c with ⟨a, b⟩ | ⟨a, b⟩
    · rw [if_pos b]; simp
    · rw [if_pos a]; simp
  · simp
theorem mx_lenB (f : P3 → Int) (mt : P3 → P3 → P3) (p q : P3) : (mx f mt p q).length ≤ (if f p < 0 then 0 else 1) + (if f q < 0 then 0 else 1) := by
  unfold mx
  split
  · rename_i c
    rcases opp c with ⟨a, b⟩ | ⟨a, b⟩
    · rw [if_neg (show ¬ f p < 0 by omega)]; simp
    · rw [if_neg (show ¬ f q < 0 by omega)]; simp
  · simp
theorem kp_len (f : P3 → Int) (p : P3) : (kp f p).length = if f p < 0 then 0 else 1 := by
  unfold kp
  by_cases c : f p < 0
  · rw [if_neg (by omega), if_pos c]; rfl
  · rw [if_pos (by omega), if_neg c]; rfl
theorem sgs_lenA (f : P3 → Int) (mt : P3 → P3 → P3) : ∀ (r : List P3) (p w : P3), (sgs f mt (p :: r) w).length + cNg f (p :: r) ≤ (p :: r).length + (if f p < 0 then 1 else 0) + 2 * cNg f r + (if f w < 0 then 1 else 0)
  | [], p, w => by
    show (kp f p ++ mx f mt p w ++ []).length + cNg f [p] ≤ _
    have h1 := mx_lenA f mt p w
    have h2 := kp_len f p
    rw [List.length_append, List.length_append, h2]
    unfold cNg cNg
    simp only [List.length_nil, List.length_cons]
    split <;> (simp_all; try omega)
  | q :: r, p, w => by
    show (kp f p ++ mx f mt p q ++ sgs f mt (q :: r) w).length + cNg f (p :: q :: r) ≤ _
    have ih := sgs_lenA f mt r q w
    have h1 := mx_lenA f mt p q
    have h2 := kp_len f p
    rw [List.length_append, List.length_append, h2]
    have e1 : cNg f (p :: q :: r) = (if f p < 0 then 1 else 0) + cNg f (q :: r) := rfl
    have e2 : cNg f (q :: r) = (if f q < 0 then 1 else 0) + cNg f r := rfl
    have e3 : (p :: q :: r).length = (q :: r).length + 1 := rfl
    rw [e1, e3]
    rw [e2] at ih ⊢
    by_cases c : f p < 0
    · rw [if_pos c] at h1 ⊢
      rw [if_pos c]
      omega
    · rw [if_neg c] at h1 ⊢
      rw [if_neg c]
      omega
theorem sgs_lenB (f : P3 → Int) (mt : P3 → P3 → P3) : ∀ (r : List P3) (p w : P3), (sgs f mt (p :: r) w).length ≤ cNn f (p :: r) + (if f p < 0 then 0 else 1) + 2 * cNn f r + (if f w < 0 then 0 else 1)
  | [], p, w => by
    show (kp f p ++ mx f mt p w ++ []).length ≤ _
    have h1 := mx_lenB f mt p w
    have h2 := kp_len f p
    rw [List.length_append, List.length_append, h2]
    unfold cNn cNn
    simp only [List.length_nil]
    omega
  | q :: r, p, w => by
    show (kp f p ++ mx f mt p q ++ sgs f mt (q :: r) w).length ≤ _
    have ih := sgs_lenB f mt r q w
    have h1 := mx_lenB f mt p q
    have h2 := kp_len f p
    rw [List.length_append, List.length_append, h2]
    have e1 : cNn f (p :: q :: r) = (if f p < 0 then 0 else 1) + cNn f (q :: r) := rfl
    have e2 : cNn f (q :: r) = (if f q < 0 then 0 else 1) + cNn f r := rfl
    rw [e1]
    omega
theorem cutR_len (f : P3 → Int) (mt : P3 → P3 → P3) (ps : List P3) : 2 * (cutR f mt ps).length ≤ 3 * ps.length := by
  cases ps with
  | nil => exact Nat.le_refl _
  | cons a r =>
    have h1 := sgs_lenA f mt r a a
    have h2 := sgs_lenB f mt r a a
    have h3 := cN_len f (a :: r)
    have e1 : cNg f (a :: r) = (if f a < 0 then 1 else 0) + cNg f r := rfl
    have e2 : cNn f (a :: r) = (if f a < 0 then 0 else 1) + cNn f r := rfl
    show 2 * (sgs f mt (a :: r) a).length ≤ _
    omega
/-! ### whatever a cut keeps, once more: a corner, or where a side meets the line -/
theorem sgs_memE {f : P3 → Int} {mt : P3 → P3 → P3} {x : P3} : ∀ {ps : List P3} {w : P3}, x ∈ sgs f mt ps w → (x ∈ ps ∧ 0 ≤ f x) ∨ ∃ e ∈ prZ (ps.headD w) (ps.tail ++ [w]), f e.1 * f e.2 < 0 ∧ x = mt e.1 e.2
  | [], _, h => by cases h
  | p :: r, w, h => by
    have h : x ∈ kp f p ++ mx f mt p (r.headD w) ++ sgs f mt r w := h
    rcases List.mem_append.mp h with h | h
    · rcases List.mem_append.mp h with h | h
      · unfold kp at h
        split at h
        · rename_i z
          rw [List.mem_singleton.mp h]
          exact .inl ⟨List.mem_cons_self, z⟩
        · cases h
      · unfold mx at h
        split at h
        · rename_i z
          refine .inr ⟨(p, r.headD w), ?_, z, List.mem_singleton.mp h⟩
          cases r <;> exact List.mem_cons_self
        · cases h
    · rcases sgs_memE h with ⟨h1, h2⟩ | ⟨e, h1, h2⟩
      · exact .inl ⟨List.mem_cons_of_mem _ h1, h2⟩
      · refine .inr ⟨e, ?_, h2⟩
        cases r with
        | nil => cases h
        | cons q r => exact List.mem_cons_of_mem _ h1
theorem cutR_memE {f : P3 → Int} {mt : P3 → P3 → P3} {x : P3} {ps : List P3} (h : x ∈ cutR f mt ps) : (x ∈ ps ∧ 0 ≤ f x) ∨ ∃ e ∈ eds ps, f e.1 * f e.2 < 0 ∧ x = mt e.1 e.2 := by
  cases ps with
  | nil => cases h
  | cons a r =>
    rcases sgs_memE h with h | ⟨e, h1, h2⟩
    · exact .inl h
    · exact .inr ⟨e, eds_rot.mp h1, h2⟩
/-! ### sizes: each corner lies on two of the first lines -/
structure RB (b m : Nat) (ps : List P3) : Prop where
  pts : ∀ x ∈ ps, GP b x
  lin : ∀ e ∈ eds ps, ∃ g : P3, BP m g ∧ (g.1 ≠ 0 ∨ g.2.1 ≠ 0 ∨ g.2.2 ≠ 0) ∧ ln g e.1 = 0 ∧ ln g e.2 = 0
theorem par {g u v : P3} (hg : g.1 ≠ 0 ∨ g.2.1 ≠ 0 ∨ g.2.2 ≠ 0) (hu : ln g u = 0) (hv : ln g v = 0) (n : (crs u v).1 ≠ 0 ∨ (crs u v).2.1 ≠ 0 ∨ (crs u v).2.2 ≠ 0) : ∃ a b : Int, a ≠ 0 ∧ b ≠ 0 ∧ sc a (crs u v) = sc b g := by
  have t : crs g (crs u v) = lc (ln g v) u (-ln g u) v := triple_product g u v
  rw [hu, hv] at t
  generalize crs u v = w at *
  have t1 : g.2.1 * w.2.2 - g.2.2 * w.2.1 = 0 := by
    have := congrArg (fun x : P3 => x.1) t
    unfold crs lc at this; dsimp only at this; grind
  have t2 : g.2.2 * w.1 - g.1 * w.2.2 = 0 := by
    have := congrArg (fun x : P3 => x.2.1) t
    unfold crs lc at this; dsimp only at this; grind
  have t3 : g.1 * w.2.1 - g.2.1 * w.1 = 0 := by
    have := congrArg (fun x : P3 => x.2.2) t
    unfold crs lc at this; dsimp only at this; grind
  have nz : ∀ {x y : Int}, x ≠ 0 → x * y = 0 → y = 0 := fun h e => (Int.mul_eq_zero.mp e).resolve_left h
  rcases hg with h | h | h
  · refine ⟨g.1, w.1, h, fun z => ?_, ?_⟩
    · rw [z] at t2 t3
      have a := nz h (show g.1 * w.2.2 = 0 by grind)
      have b := nz h (show g.1 * w.2.1 = 0 by grind)
      rcases n with n | n | n <;> contradiction
    · unfold sc; refine p3_ext ?_ ?_ ?_ <;> dsimp only <;> grind
  · refine ⟨g.2.1, w.2.1, h, fun z => ?_, ?_⟩
    · rw [z] at t1 t3
      have a := nz h (show g.2.1 * w.2.2 = 0 by grind)
      have b := nz h (show g.2.1 * w.1 = 0 by grind)
      rcases n with n | n | n <;> contradiction
    · unfold sc; refine p3_ext ?_ ?_ ?_ <;> dsimp only <;> grind
  · refine ⟨g.2.2, w.2.2, h, fun z => ?_, ?_⟩
    · rw [z] at t1 t2
      have a := nz h (show g.2.2 * w.2.1 = 0 by grind)
      have b := nz h (show g.2.2 * w.1 = 0 by grind)
      rcases n with n | n | n <;> contradiction
    · unfold sc; refine p3_ext ?_ ?_ ?_ <;> dsimp only <;> grind
theorem crs_sc2 (c : Int) (p q : P3) : crs p (sc c q) = sc c (crs p q) := by
  refine p3_ext ?_ ?_ ?_ <;> simp only [crs, sc] <;> grind
/-- where two lines meet, told by another measure of the one -/
theorem nP_par {l w g : P3} {a b : Int} (ha : a ≠ 0) (hb : b ≠ 0) (e : sc a w = sc b g) (n : (crs l w).2.2 ≠ 0) : (crs l g).2.2 ≠ 0 ∧ nP (crs l w) = nP (crs l g) := by
  have e1 : sc a (crs l w) = sc b (crs l g) := by rw [← crs_sc2, e, crs_sc2]
  have h3 : a * (crs l w).2.2 = b * (crs l g).2.2 := congrArg (fun x : P3 => x.2.2) e1
  have n2 : (crs l g).2.2 ≠ 0 := fun z => by
    rw [z, Int.mul_zero] at h3
    rcases Int.mul_eq_zero.mp h3 with y | y <;> contradiction
  refine ⟨n2, ?_⟩
  obtain ⟨c, c0, hc⟩ := nP_sc n2
  have e2 : sc a (crs l w) = sc (b * c) (nP (crs l g)) := by rw [e1, ← sc_sc, ← hc]
  exact (nP_of_sc ha (fun z => by rcases Int.mul_eq_zero.mp z with y | y <;> contradiction) (nP_pt n2) e2).2
theorem RB.cut {b m : Nat} {l : P3} {ps : List P3} (h : RB b m ps) (bl : BP m l) (hl : l.1 ≠ 0 ∨ l.2.1 ≠ 0 ∨ l.2.2 ≠ 0) (o : P3) (ho : ln l o = 0) (hm : m + m + 1 ≤ b) : RB b m (cutR (ln l) (mtQ l) ps) := by
  refine ⟨fun x hx => ?_, cut_eds (f := ln l) (mt := mtQ l) (ps := ps) (C := fun u v => ∃ g : P3, BP m g ∧ (g.1 ≠ 0 ∨ g.2.1 ≠ 0 ∨ g.2.2 ≠ 0) ∧ ln g u = 0 ∧ ln g v = 0) (fun u v hu hv => ⟨l, bl, hl, hu, hv⟩) o ho (fun e he _ _ => h.lin e he) fun e he c => ?_⟩
  · rcases cutR_memE hx with ⟨h1, _⟩ | ⟨e, he, c, rfl⟩
    · exact h.pts x h1
    · obtain ⟨m1, m2⟩ := eds_mem he
      have gp := (h.pts _ m1).pt
      have gq := (h.pts _ m2).pt
      have n0 := meet_ne gp gq c
      obtain ⟨g, bg, g0, gu, gv⟩ := h.lin e he
      have wn : (crs e.1 e.2).1 ≠ 0 ∨ (crs e.1 e.2).2.1 ≠ 0 ∨ (crs e.1 e.2).2.2 ≠ 0 := by
        apply Classical.byContradiction
        intro z
        refine n0 ?_
        have z1 : (crs e.1 e.2).1 = 0 := Classical.byContradiction fun y => z (.inl y)
        have z2 : (crs e.1 e.2).2.1 = 0 := Classical.byContradiction fun y => z (.inr (.inl y))
        show l.1 * (crs e.1 e.2).2.1 - l.2.1 * (crs e.1 e.2).1 = 0
        rw [z1, z2]; grind
      obtain ⟨a, b', ha, hb, ee⟩ := par g0 gu gv wn
      obtain ⟨n2, e2⟩ := nP_par (l := l) ha hb ee n0
      rw [← mtQ_pt gp gq, e2]
      exact ⟨nP_pt n2, (BP.nP (bl.crs bg) n2).mono hm⟩
  · obtain ⟨g, bg, g0, gu, gv⟩ := h.lin e he
    obtain ⟨bt, z⟩ := mtOk_Q l _ _ c
    exact ⟨z, fun _ => ⟨g, bg, g0, gu, bt.ln0 gu gv⟩, fun _ => ⟨g, bg, g0, bt.ln0 gu gv, gv⟩⟩
def growB : Nat → Nat → Nat
  | 0, n => n
  | k + 1, n => growB k (3 * n / 2)
theorem growB_mono : ∀ (k : Nat) {n m : Nat}, n ≤ m → growB k n ≤ growB k m
  | 0, _, _, h => h
  | k + 1, _, _, h => growB_mono k (by omega)
theorem comO_rb {b m : Nat} (hm : m + m + 1 ≤ b) : ∀ {es : List (P3 × P3)} {ps rs : List P3}, RB b m ps → (∀ e ∈ es, BP m (crs e.1 e.2) ∧ ((crs e.1 e.2).1 ≠ 0 ∨ (crs e.1 e.2).2.1 ≠ 0 ∨ (crs e.1 e.2).2.2 ≠ 0)) → comO ps es = some rs → RB b m rs ∧ rs.length ≤ growB es.length ps.length
  | [], ps, rs, r, _, h => by
    unfold comO at h
    rw [← Option.some.inj h]; exact ⟨r, Nat.le_refl _⟩
  | e :: es, ps, rs, r, he, h => by
    obtain ⟨h1, h2⟩ := comO_cons h
    obtain ⟨c, q⟩ := cutE_some h1
    obtain ⟨b1, b2⟩ := he e List.mem_cons_self
    have r' : RB b m (cutE e ps) := by rw [q]; exact r.cut b1 b2 e.1 (ln_self _ _) hm
    obtain ⟨k1, k2⟩ := comO_rb hm r' (fun d hd => he d (List.mem_cons_of_mem _ hd)) h2
    refine ⟨k1, Nat.le_trans k2 ?_⟩
    have := cutR_len (ln (crs e.1 e.2)) (mtQ (crs e.1 e.2)) ps
    rw [← q] at this
    exact growB_mono _ (by omega)
/-- sides are told by corners that are not one point -/
theorem Rg.line {ps : List P3} (r : Rg ps) {e : P3 × P3} (he : e ∈ eds ps) : (crs e.1 e.2).1 ≠ 0 ∨ (crs e.1 e.2).2.1 ≠ 0 ∨ (crs e.1 e.2).2.2 ≠ 0 := by
  obtain ⟨x, _, h⟩ := (eds_gt r.t r.l he).2
  apply Classical.byContradiction
  intro z
  have z1 : (crs e.1 e.2).1 = 0 := Classical.byContradiction fun y => z (.inl y)
  have z2 : (crs e.1 e.2).2.1 = 0 := Classical.byContradiction fun y => z (.inr (.inl y))
  have z3 : (crs e.1 e.2).2.2 = 0 := Classical.byContradiction fun y => z (.inr (.inr y))
  have h : 0 < (crs e.1 e.2).1 * x.1 + (crs e.1 e.2).2.1 * x.2.1 + (crs e.1 e.2).2.2 * x.2.2 := h
  rw [z1, z2, z3] at h
  omega
theorem Rg.rb {ps : List P3} {a b m : Nat} (r : Rg ps) (h : ∀ x ∈ ps, GP a x) (hm : a + a + 1 ≤ m) (hb : a ≤ b) : RB b m ps := ⟨fun x hx => (h x hx).mono hb, fun e he => by
  obtain ⟨h1, h2⟩ := eds_mem he
  exact ⟨crs e.1 e.2, ((h _ h1).bp.crs (h _ h2).bp).mono hm, r.line he, ln_self _ _, det3_two _ _⟩⟩
/-- the sides as the program tells them -/
theorem zip_prZ : ∀ (r : List P3) (a w : P3), (a :: r).zip (r ++ [w]) = prZ a (r ++ [w])
  | [], a, w => rfl
  | b :: r, a, w => by
    show (a, b) :: (b :: r).zip (r ++ [w]) = (a, b) :: prZ b (r ++ [w])
    rw [zip_prZ r b w]
def fwd (qs : List P3) : List (P3 × P3) := qs.zip (qs.drop 1 ++ qs.take 1)
theorem fwd_mem (qs : List P3) : ∀ e, e ∈ fwd qs ↔ e ∈ eds qs := fun e => by
  cases qs with
  | nil => exact ⟨fun h => (by cases h), fun h => (by cases h)⟩
  | cons a r =>
    show e ∈ (a :: r).zip (r ++ [a]) ↔ _
    rw [zip_prZ]
    exact eds_rot
theorem fwd_len (qs : List P3) : (fwd qs).length = qs.length := by
  unfold fwd
  rw [List.length_zip, List.length_append, List.length_drop, List.length_take]
  omega
theorem Cvx.rg {ps : List P3} (h : Cvx ps) (p : ∀ x ∈ ps, PtP x) : Rg ps := ⟨(t0_iff ps).mpr h.tri, h.1, p⟩
theorem Rg.cvx {ps : List P3} (r : Rg ps) : Cvx ps := Tri.cvx r.l ((t0_iff _).mp r.t)
def cmD : Option (List P3) → D
  | none => .non
  | some rs => .lst (rs.map dP)
end Cut

/-! What is looked at, given another name; an item of a new tree; a scope that ends with one list emptied. -/
namespace L3
open PySem L2
section
variable {K : PySem.W.Frag} {X : Cx} {a b e : Expr} {es : List Expr} {ua ub u : UE} {w : UL} {pos p : Pos} {rest : List Stmt}
def uSetOld (i n : Nat) : US := fun U ρ => ∃ d, ρ[n]? = some (.new d) ∧ U.nx (ρ.set i (.new d))
theorem s_setOld (n : Nat) {i : Nat} {x y : Str} {px py : Pos} (hN : X.N.Nodup) (hi : X.N[i]? = some x) (hx : Loc X.env.scope x) (hn : X.N[n]? = some y := by rfl) (hv : Vis X.env.scope y := by first | exact Or.inl rfl | exact Or.inr (Or.inl rfl) | exact Or.inr (Or.inr rfl)) (hd : (y == ("__debug__" : Str)) = false := by decide)
    (hcd : (y == ("__classdict__" : Str)) = false := by decide) (hs : swapsWith (.Name y py) (some (.Name x px)) pos.line X.env = pure false := by rfl) (hf : X.fn x = true ∨ X.env.scope.names.lookup x = some .local := by first | exact .inl rfl | exact .inr rfl | assumption) :
    PS3 X (.Assign [.Name x px] (.Name y py) pos) (uSetOld i n) := by
  refine ⟨_, ps_set hN hi hx (pe_var hn hv hd hcd) hs hf, fun U ρ h R W B H σ D e s => ?_⟩
  obtain ⟨d, ho, h⟩ := h
  obtain ⟨v, hσ, rv⟩ := e.oldAt ho
  exact ⟨v, hσ, s.nx _ _ B H h (e.set i ⟨v, rfl, rv⟩ fun _ _ z => by rcases z with z | ⟨_, z⟩ <;> cases z) (Grow.refl _ _)⟩
theorem d_ix (ha : PD3 X a ua) (hb : PE3 X b ub) (hs : PlainIx b) : PD3 X (.Subscript a b pos) (uIx ua ub) := by
  obtain ⟨_, h1, r1⟩ := ha; obtain ⟨_, h2, r2⟩ := hb
  refine ⟨_, pe_ix ix_any h1 h2 hs, fun ρ k z R W B H σ Q e q => ?_⟩
  refine r1 ρ _ z R W B H σ _ e fun x v B1 H1 z1 e1 g1 s1 => ?_
  refine r2 ρ _ z1 R W B1 H1 σ _ e1 fun y w B2 H2 z2 e2 g2 s2 => ?_
  obtain ⟨ds, i, d, hx, rfl, hat, hk⟩ := z2
  have s1 := s1.mono (newL_mono g2.s)
  rcases hx with rfl | rfl
  · obtain ⟨p, vs, rfl, hp, rp⟩ := s1.tupV
    obtain ⟨z, hz, rz⟩ := atI_reps rp hat
    exact ⟨p, vs, i, z, rfl, s2.intV, .inl (e2.bh _ _ (newL_sub _ _ hp)), hz, q d z B2 H2 hk e2 (g1.trans g2) rz⟩
  · obtain ⟨p, vs, rfl, hp, rp⟩ := s1.lstV
    obtain ⟨z, hz, rz⟩ := atI_reps rp hat
    exact ⟨p, vs, i, z, rfl, s2.intV, .inr (e2.bh _ _ (newL_sub _ _ hp)), hz, q d z B2 H2 hk e2 (g1.trans g2) rz⟩
theorem e_notN (ha : PE3 X a ua) (hb : PE3 X b ub) (hm : behindInMarks .IsNot b = false) : PE3 X (.Compare a [.IsNot] [b] pos) (uNotN ua ub) := by
  obtain ⟨_, h1, r1⟩ := ha; obtain ⟨_, h2, r2⟩ := hb
  refine ⟨_, pe_cmpR op_notN h1 h2 hm, ref2 (f := fun x y k => y = .non ∧ k (.bl (!isNon x))) r1 r2 fun x y k h R W B H σ ρ v w Q e rx ry q => ?_⟩
  obtain ⟨rfl, hk⟩ := h
  have e1 : w = .non := by cases ry; rfl
  have e2 : decide (v = V.non) = isNon x := by cases rx <;> simp [isNon]
  refine ⟨e1, ?_⟩
  rw [e2]
  exact q _ _ B H hk e (Grow.refl _ _) (.bl _)
/-- the scope ends: if c: x.clear() -/
def zClr (i : Nat) (uc : UT) (ur : US) : UZ2 := fun U ρ f ρz => uc ρz fun c => (c = true → ∃ ds, ρz[i]? = some (.val (.lst ds))) ∧ ∃ q, Kept f 0 ρ ρz q ∧ ur U q
theorem z2_clr {i : Nat} {x : Str} {c : Expr} {uc : UT} {px apos cpos pe : Pos} {ur : US} (hi : X.N[i]? = some x) (hx : Vis X.env.scope x) (hc : PT3 X c uc) (hr : PSs3 X rest ur)
    (hdx : (x == ("__debug__" : Str)) = false := by decide) (hcx : (x == ("__classdict__" : Str)) = false := by decide)
    (hb : attributeBase (.Name x px) "clear" X.env (eval (.Name x px) X.env) = eval (.Name x px) X.env := by rfl) (hl : (apos.endLine == cpos.line) = true := by rfl)
    (hsw : swapsWith (.Call (.Attribute (.Name x px) "clear" apos) [] [] cpos) none pe.line X.env = pure false := by rfl) :
    PZ2 X (.If c [.Expr (.Call (.Attribute (.Name x px) "clear" apos) [] [] cpos) pe] [] pos :: rest) (zClr i uc ur) := by
  obtain ⟨_, h0, r0⟩ := hc; obtain ⟨_, h3, r3⟩ := hr
  refine ⟨_, pss_cons (ps_if h0 (pss_one (ps_expr (pe_bm0 PySem.F.plainAttrs_list PySem.F.slot_list_clear PySem.F.type_list_clear mt_clear (pe_var hi hx hdx hcx) hb hl) hsw)) pss_nil) h3, fun U ρ f ρz h R W B H σ E e sm hf B0 H0 σz e0 nl0 => ?_⟩
  refine r0 ρz _ h _ _ B0 H0 σz _ e0 fun b Bz Hz z1 ez g1 => ?_
  have nl : ∀ a vs, Bz a = some (.lst vs) → H a = none := fun a vs h => (g1.n a _ h).elim (nl0 a vs) id
  obtain ⟨hb', q, kq, h⟩ := z1
  obtain ⟨l1, l2⟩ := kq.length
  cases b with
  | false =>
    rw [if_neg Bool.false_ne_true]
    refine r3 U _ h R W B _ σz E ((e.unframe ez.fr ez.wh).forget ?_ (kq.same e hf ez.pinAt)) sm
    rw [ez.len, l2]
  | true =>
    rw [if_pos rfl]
    obtain ⟨ds, hti⟩ := hb' rfl
    obtain ⟨v, hv, rv⟩ := ez.val hti
    obtain ⟨a, vs, rfl, ha, rs⟩ := rv.lst_of
    have eN : newL H Bz = Bz := by
      funext b
      cases q : Bz b with
      | none =>
        cases q2 : newL H Bz b with
        | none => rfl
        | some o => have := newL_sub b o q2; rw [q] at this; cases this
      | some o =>
        by_cases y : ∃ vs, o = .lst vs
        · obtain ⟨vs, rfl⟩ := y; exact newL_at q (nl b vs q)
        · exact newL_non q fun vs z => y ⟨vs, z⟩
    obtain ⟨m0, hbn⟩ := Emp.start e ez
    rw [eN] at m0
    refine ⟨_, hv, .inl ⟨rfl, vs, SqL.of (ez.bh _ _ ha)⟩, a, vs, rfl, rfl, ez.bh _ _ ha, ?_⟩
    have hm := m0.clear hbn ha (nl a _ ha)
    refine r3 U _ h R W B _ σz E ((e.unframe hm.fr hm.wh).forget ?_ (kq.same e hf ez.pinAt)) sm
    rw [ez.len, l2]
end
end L3
namespace L3
open PySem L2
section
variable {X : Cx} {rest : List Stmt} {uz : UZ2}
/-- a list of one's own goes over to what stays, within a scope -/
theorem z2_fz (i : Nat) (hr : PZ2 X rest uz) : PZ2 X rest (fun U ρ f ρz => ∃ ds, ρz[i]? = some (.own ds) ∧ uz U ρ f (ρz.set i (.val (.lst ds)))) := by
  obtain ⟨_, h1, r1⟩ := hr
  refine ⟨_, h1, fun U ρ f ρz h R W B H σ E e sm hf Bz Hz σz ez nl => ?_⟩
  obtain ⟨ds, ho, h⟩ := h
  obtain ⟨B', e', g⟩ := ez.fz ho
  exact r1 U ρ f _ h R W B H σ E e sm hf B' Hz σz e' fun a vs h => (g.n a _ h).elim (nl a vs) id
end
end L3
namespace L3
open PySem L2
section
variable {X : Cx} {F : FS} {a0 : Expr} {pos p : Pos}
/-- f(bag(..), c) -/
def uCallB2c (F : FS) (c1 : Int) (u : List Sl → Prop → Prop) : UE := fun ρ k => u ρ (F [.bag, .val (.int c1)] fun r => fzR r k)
theorem e_callB2c {x : Str} {ps : List Str} {j lv : Nat} {un : List Sl → Prop → Prop} {c1 : Int} {k1 p1} (c : Cal X.prog X.w X.K X.mg X.base x ps j (Con X.K 2 F)) (hr : Room lv X.A) (hg : Gl X x) (ha : PN3 X a0 un) (hjk : j ≤ lv := by decide)
    (hdb : (x == ("__debug__" : Str)) = false := by decide) (he : starEach [a0, .Constant (.int c1) k1 p1] X.env = (false, eval a0 X.env) :: starEach [.Constant (.int c1) k1 p1] X.env := by rfl)
    (he2 : starEach [.Constant (.int c1) k1 p1] X.env = (false, eval (.Constant (.int c1) k1 p1) X.env) :: starEach [] X.env := by rfl)
    (hpl : (backTo pos (starEach [.Constant (.int c1) k1 p1] X.env)).any (·.1) = false := by rfl) :
    PE3 X (.Call (.Name x p) [a0, .Constant (.int c1) k1 p1] [] pos) (uCallB2c F c1 un) := by
  obtain ⟨_, h1, r1⟩ := ha
  refine ⟨_, pe_cal c hr hg (pa_cons h1 (pa_cons pe_int pa_nil he2) he) hjk hdb he hpl, fun ρ k h R W B H σ Q e q => ?_⟩
  refine r1 ρ _ h R W B H σ _ e fun a B1 H1 z1 e1 g1 f1 f2 f3 f4 => ?_
  show Con X.K 2 F ([.ref a, .int c1] ++ []) H1 Q E0
  rw [List.append_nil]
  refine ⟨fun b => b = a, B1, [.bag, .val (.int c1)], _, z1, rfl, rfl, e1.bh, fun b hb => by subst hb; exact ⟨f2, f3⟩, .bag rfl (.val (.int _) .nil), fun r v B2 H2 hk ex => ?_⟩
  obtain ⟨e2, g2⟩ := e1.after2 (fun b hb => by subst hb; exact ⟨f1, f4⟩) ex.wd ex.g
  have res := ex.res
  cases r with
  | no => exact hk.elim
  | bag => exact hk.elim
  | pin v d => exact hk.elim
  | val d => exact q d v B2 H2 hk e2 (g1.trans g2) res
  | new d => exact q d v B2 H2 hk e2 (g1.trans g2) (Rep.mono newL_sub res)
  | own ds =>
    obtain ⟨c, us, rfl, k1, k2, k3, k4⟩ := res
    obtain ⟨e3, g3⟩ := e2.freeze k3 (e1.toWd.fresh k1).1 k2 fun i m => absurd k1 (e1.mutOk (show MutAt σ ρ i c from m)).2
    exact q _ _ _ _ hk e3 ((g1.trans g2).trans g3) (.lst upd_same (k4.mono g3.s))
end
end L3

namespace L3
open PySem L2
def dPr (e : Cut.P3 × Cut.P3) : D := .tup [Cut.dP e.1, Cut.dP e.2]
theorem forR_pr {s : US} {U : UEnds} {i j : Nat} (I : List (Cut.P3 × Cut.P3) → List Sl → Prop) : ∀ {rs done : List (Cut.P3 × Cut.P3)} {ρ : List Sl}, I done ρ →
    (∀ pre e rest ρ, done ++ rs = pre ++ e :: rest → I pre ρ → ∀ N : List Sl → Prop, (∀ r', I (pre ++ [e]) r' → N r') → s { U with nx := N, ct := N, bk := U.nx } ((ρ.set i (.val (Cut.dP e.1))).set j (.val (Cut.dP e.2)))) → (∀ ρ, I (done ++ rs) ρ → U.nx ρ) →
    forR (ugTup 2 (ugCons (ugName i) (ugCons (ugName j) ugNil))) s U (rs.map dPr) ρ
  | [], done, ρ, h0, _, h2 => h2 ρ (by rw [List.append_nil]; exact h0)
  | e :: rs, done, ρ, h0, h1, h2 => by
    refine ⟨_, rfl, rfl, _, _, rfl, _, _, rfl, rfl, h1 done e rs ρ rfl h0 _ fun r' hr => ?_⟩
    have eq : done ++ e :: rs = (done ++ [e]) ++ rs := by simp
    rw [eq] at h1 h2
    exact forR_pr I hr h1 h2
theorem flats_pr : ∀ rs : List (Cut.P3 × Cut.P3), flats (rs.map dPr) = true
  | [] => rfl
  | e :: rs => by
    rw [List.map_cons, flats, flats_pr rs]
    rfl
end L3
namespace Cut
open PySem L2 L3
open PySem.Builtin.Int (intBits)
theorem comO_stop {ps : List P3} {e : P3 × P3} {es : List (P3 × P3)} (h : (cutE e ps).isEmpty = true) : comO ps (e :: es) = none := by
  unfold comO; rw [if_pos h]
theorem comO_go {ps : List P3} {e : P3 × P3} {es : List (P3 × P3)} (h : (cutE e ps).isEmpty = false) : comO ps (e :: es) = comO (cutE e ps) es := by
  conv => lhs; unfold comO
  rw [if_neg (by rw [h]; decide)]
theorem cutE_len {e : P3 × P3} {ps : List P3} (h : (cutE e ps).isEmpty = false) : (cutE e ps).length ≤ 2 * ps.length := by
  rw [(cutE_some h).2]; exact sgs_len
theorem growB5 : ∀ k, k ≤ 5 → growB k 5 ≤ 33 := fun k h => by
  obtain rfl | rfl | rfl | rfl | rfl | rfl : k = 0 ∨ k = 1 ∨ k = 2 ∨ k = 3 ∨ k = 4 ∨ k = 5 := by omega
  all_goals decide
/-- slid rings -/
theorem Cvx.sl {g : P3} {ps : List P3} (hg : PtP g) (hp : ∀ p ∈ ps, PtP p) (h : Cvx ps) : Cvx (ps.map fun p => nP (sld g p)) := h.map fun p q r a b c => (lin_sld hg.1).side (hp p a).1 (hp q b).1 (hp r c).1
/-- spots: in what is told just where in both -/
theorem wi_both {ps qs : List P3} (hp : Rg ps) (hq : Rg qs) {s : P3} (w1 : wi ps s ≠ -1) (w2 : wi qs s ≠ -1) :
    match comO ps (fwd qs) with
    | none => ¬ (wi ps s = 1 ∧ wi qs s = 1)
    | some rs => (wi rs s = 1 ↔ (wi ps s = 1 ∧ wi qs s = 1)) := by
  have both : (wi ps s = 1 ∧ wi qs s = 1) → ∃ rs, comO ps (fwd qs) = some rs ∧ wi rs s = 1 := fun ⟨a, b⟩ => by
    rcases wi_cases w1 with ⟨_, h1⟩ | ⟨z, _⟩
    · rcases wi_cases w2 with ⟨_, h2⟩ | ⟨z, _⟩
      · obtain ⟨rs, e1, e2⟩ := comO_in hp h1 fun e he => h2 e ((fwd_mem qs e).mp he)
        exact ⟨rs, e1, wi_one e2⟩
      · rw [b] at z; cases z
    · rw [a] at z; cases z
  cases h : comO ps (fwd qs) with
  | none =>
    intro z
    obtain ⟨rs, e, _⟩ := both z
    rw [h] at e; cases e
  | some rs =>
    dsimp only
    constructor
    · intro z
      have ge : ∀ e ∈ eds rs, 0 ≤ det3 e.1 e.2 s := fun e he => by
        apply Classical.byContradiction
        intro n
        have : wi rs s = 0 := wi_zero fun q => n (q e he)
        rw [z] at this; cases this
      obtain ⟨a, b⟩ := comO_out hp h ge
      constructor
      · rcases wi_cases w1 with ⟨q, _⟩ | ⟨_, q⟩
        · exact q
        · exact absurd a q
      · rcases wi_cases w2 with ⟨q, _⟩ | ⟨_, q⟩
        · exact q
        · exact absurd (fun e he => b e ((fwd_mem qs e).mpr he)) q
    · intro z
      obtain ⟨ts, e1, e2⟩ := both z
      rw [h] at e1; cases e1
      exact e2
theorem wi_not0 {ps : List P3} {s : P3} (h : ∀ e ∈ eds ps, 0 ≤ det3 e.1 e.2 s) : wi ps s ≠ 0 := fun z => by
  by_cases c : ∃ e ∈ eds ps, det3 e.1 e.2 s = 0
  · rw [wi_minus h c] at z; cases z
  · have : wi ps s = 1 := wi_one fun e he => by
      rcases Int.lt_or_eq_of_le (h e he) with a | a
      · exact a
      · exact absurd ⟨e, he, a.symm⟩ c
    rw [this] at z; cases z
end Cut
namespace Cut
open PySem L2 L3
abbrev shR2 : Sh := .L (.L (.T [.I, .I, .I]))
theorem has_2 (ps qs : List P3) : has shR2 (.lst [.lst (ps.map dP), .lst (qs.map dP)]) = true := by
  have h1 := has_Ps ps
  have h2 := has_Ps qs
  simp only [has, List.all_cons, List.all_nil, Bool.and_true] at h1 h2 ⊢
  rw [h1, h2]; rfl
theorem eq11 {a b : Int} : eqD (.lst [.int a, .int b]) (.lst [.int 1, .int 1]) = true ↔ a = 1 ∧ b = 1 := by
  rw [eqD_iff]
  constructor
  · intro h
    have h := D.lst.inj h
    simp only [List.cons.injEq, D.int.injEq, and_true] at h
    exact h
  · rintro ⟨rfl, rfl⟩; rfl
theorem bool_eq {a b : Bool} (h : a = true ↔ b = true) : a = b := by cases a <;> cases b <;> simp_all
end Cut
namespace L3
theorem nx2 {s : US} {N : List Sl → Prop} {ρ : List Sl} (I : List Sl → Prop) (h1 : ∀ ρ', I ρ' → N ρ') (h2 : ∀ N' : List Sl → Prop, (∀ ρ', I ρ' → N' ρ') → s { nx := N', rt := fun _ => False } ρ) : s { nx := N, rt := fun _ => False } ρ := h2 N h1
end L3
namespace Cut
open PySem L2 L3
theorem com_told {ps qs rs : List P3} (rp : Rg ps) (rq : Rg qs) (rb : RB 90 43 ps) (gq : ∀ x ∈ qs, GP 20 x) (lp : ps.length ≤ 5) (lq : qs.length ≤ 5) (h : comO ps (fwd qs) = some rs) : Rg rs ∧ RB 90 43 rs ∧ rs.length ≤ 33 := by
  obtain ⟨a, b⟩ := comO_rb (b := 90) (m := 43) (by decide) rb (fun e he => by
    have he := (fwd_mem qs e).mp he
    obtain ⟨m1, m2⟩ := eds_mem he
    exact ⟨((gq _ m1).bp.crs (gq _ m2).bp).mono (by decide), rq.line he⟩) h
  refine ⟨comO_rg rp h, a, Nat.le_trans b (Nat.le_trans (growB_mono _ lp) (growB5 _ ?_))⟩
  rw [fwd_len]; exact lq
end Cut

namespace Cut
open PySem L2 L3
open PySem.Builtin.Int (intBits)

def top (i : Nat) : Stmt := PySem.Challenge.pw_slidecut_k48_what_two_rings_have_in_comm.main.body.getD i (.Pass ⟨0, 0, 0, 0⟩)
abbrev s_greatest_divisor : Stmt := top 4
abbrev s_point : Stmt := top 6
abbrev s_crossed : Stmt := top 7
abbrev s_hand_of : Stmt := top 8
abbrev s_meet : Stmt := top 9
abbrev s_sides_of : Stmt := top 11
abbrev s_cut_ring : Stmt := top 13
abbrev s_common : Stmt := top 15
abbrev s_law_cell : Stmt := top 17
abbrev s_law_bag : Stmt := top 18
abbrev s_law_digit : Stmt := top 19
abbrev s_law_point : Stmt := top 20
abbrev s_law_slid : Stmt := top 21
abbrev s_law_turned : Stmt := top 22
abbrev s_law_side : Stmt := top 23
abbrev s_law_is_point : Stmt := top 24
abbrev s_law_is_convex : Stmt := top 25
abbrev s_law_within : Stmt := top 26
abbrev s_law_twice_area : Stmt := top 27
abbrev s_law_place : Stmt := top 29
abbrev s_law_step : Stmt := top 30
abbrev s_law_three : Stmt := top 31
abbrev s_law_bulging : Stmt := top 32
abbrev s_law_spot : Stmt := top 33
abbrev s_law_mixed : Stmt := top 34
abbrev s_law_second : Stmt := top 35
abbrev s_law : Stmt := top 36
structure Blts (mg : Str → Option Value) : Prop where
  len_ : mg "len" = none
  abs_ : mg "abs" = none
  int_ : mg "int" = none
  bool_ : mg "bool" = none
  tuple_ : mg "tuple" = none
  isinstance_ : mg "isinstance" = none
  range_ : mg "range" = none
  all_ : mg "all" = none
  sum_ : mg "sum" = none
  list_ : mg "list" = none
  ValueError_ : mg "ValueError" = none
  zip_ : mg "zip" = none
  str_ : mg "str" = none
  enumerate_ : mg "enumerate" = none
local macro_rules | `(tactic| walk_at "bu") => `(tactic| first | assumption | exact intBits_sub_le (by walk_at "bu") (by walk_at "bu") | exact intBits_add_le (by walk_at "bu") (by walk_at "bu") | exact intBits_mul_le (by walk_at "bu") (by walk_at "bu") | exact intBits_neg_le (by walk_at "bu") | exact intBits_fdiv_le (by walk_at "bu") | exact bits_om (by omega) (by omega) | fail)
local macro_rules | `(tactic| walk_at "bits") => `(tactic| ((with_reducible show intBits _ ≤ _); first | assumption | exact Nat.le_trans (bits_om (by omega) (by omega)) (by decide) | decide +kernel | exact Nat.le_trans (by walk_at "bu") (by first | omega | decide) | fail))
local macro_rules | `(tactic| walk_at "sd") => `(tactic| first | ((with_reducible show intBits _ ≤ _); walk_at "bits") | ((with_reducible show CMulB _ _); exact ⟨by walk_at "bits", by walk_at "bits"⟩) | ((with_reducible show CDivB _ _); exact ⟨by omega, by walk_at "bits"⟩) | ((with_reducible show (_ : Int) < _); first | omega | decide +kernel) | ((with_reducible show (_ : Int) ≤ _); first | omega | decide +kernel) | ((with_reducible show CPow _ _); exact ⟨by decide, by decide, by decide⟩) | ((with_reducible show List.length _ ≤ sizeLine); first | (show 2 ≤ sizeLine; decide) | (show 3 ≤ sizeLine; decide) | (show 1 ≤ sizeLine; decide) | (show 0 ≤ sizeLine; decide) | (show 4 ≤ sizeLine; decide)) | fail)
local macro_rules | `(tactic| walk_at "w1") => `(tactic| first | refine ⟨_, rfl, ?_⟩ | refine ⟨_, _, rfl, rfl, ?_⟩ | refine ⟨_, _, rfl, rfl, by walk_at "sd", ?_⟩ | refine ⟨_, _, _, .inl rfl, rfl, rfl, ?_⟩ | refine ⟨_, _, _, .inr rfl, rfl, rfl, ?_⟩ | refine ⟨_, _, rfl, fun _ => rfl, ?_⟩ | refine ⟨by walk_at "sd", ?_⟩ | refine ⟨rfl, ?_⟩)
local macro_rules | `(tactic| walk_at "w") => `(tactic| repeat walk_at "w1")
local macro_rules | `(tactic| walk_at "wd") => `(tactic| (walk_at "w"; try dsimp only [fzR]))
local macro_rules | `(tactic| walk_at "it") => `(tactic| first | exact .inl (by assumption) | exact .inr (by assumption))
local macro_rules | `(tactic| walk_at "r0") => `(tactic| repeat (first | refine ⟨_, rfl, ?_⟩ | refine ⟨_, _, rfl, rfl, ?_⟩ | refine ⟨_, _, _, _, rfl, rfl, by walk_at "it", rfl, ?_⟩ | refine ⟨by walk_at "sd", ?_⟩))
local macro_rules | `(tactic| walk_at "rd") => `(tactic| (walk_at "r0"; try dsimp only))
local macro_rules | `(tactic| walk_at "fall") => `(tactic| first | exact List.forall_mem_cons.mpr ⟨rfl, by walk_at "fall"⟩ | exact List.forall_mem_nil _)
local macro_rules | `(tactic| walk_at "fal2") => `(tactic| first | exact List.forall_mem_nil _ | exact List.forall_mem_cons.mpr ⟨fun h => absurd h (by decide), by walk_at "fal2"⟩ | exact List.forall_mem_cons.mpr ⟨fun _ => ⟨_, rfl⟩, by walk_at "fal2"⟩)
local macro_rules | `(tactic| walk_at "fsub") => `(tactic| exact fsub_of (by walk_at "fall"))
local macro_rules | `(tactic| walk_at "fhas") => `(tactic| exact fhas_of (by walk_at "fal2"))
local macro_rules | `(tactic| walk_at "ffr") => `(tactic| (intro i y e; rcases i with _ | _ | _ | _ | _ | i <;> first | (cases e; done) | (cases e; exact ⟨_, rfl, rfl, rfl, Or.inl rfl, _, rfl⟩)))

theorem sc_law_cell : FnScope ["_law_script", "_law_k"] ["_law_script", "_law_k"] (defScope s_law_cell) := ⟨rfl, rfl, rfl, by decide +kernel, rfl, by decide +kernel, by decide +kernel⟩
theorem ok_law_cell {P : Program} {w : World} {K : PySem.W.Frag} {mg : Str → Option Value} {base : Heap} (B : Blts mg) (F : Fnd K mg "_law_cell" s_law_cell ["_law_script", "_law_k"]) :
    Cal P w K mg base "_law_cell" ["_law_script", "_law_k"] 1 (Con K 2 F_cell) := by
  refine Cal.imp (sp := spCell K) ?_ (fun vs H Q E h => cell_con h)
  refine F.ok (k := 0) sc_law_cell (fun vs H Q E h => ?_) (fun f cdv A outer s H vs Q E hr h => ?_)
  · obtain ⟨a, k, ns, rfl, hS, h0, q⟩ := h
    rfl
  obtain ⟨a, k, ns, rfl, hS, h0, q⟩ := h
  refine ⟨_, (pss_cons (ps_if (pt_cmpR op_lt (pv 1) (pe_callB call_len_seq (by rfl) B.len_ (by decide +kernel) (pa_cons (pv 0) pa_nil)) (nomark _)) (pss_one (ps_ret (pe_ix ix_list (pv 0) (pv 1) (fun _ _ => rfl)))) pss_nil) (pss_one (ps_ret pe_int))), ?_⟩
  refine ⟨_, rfl, _, rfl, a, _, rfl, .inl hS, _, _, rfl, rfl, _, rfl, ?_⟩
  refine iteD (fun c => ?_) (fun c => ?_)
  · rw [List.length_map] at c
    have hk : k.toNat < ns.length := by omega
    have ek : k = ((k.toNat : Nat) : Int) := by omega
    have z : atI (ns.map V.int) ((k.toNat : Nat) : Int) = some (.int ns[k.toNat]) := atI_nat (by rw [List.getElem?_map, List.getElem?_eq_getElem hk] <;> rfl)
    rw [← ek] at z
    exact ⟨_, rfl, _, rfl, a, _, _, _, rfl, rfl, hS, z, q _⟩
  · exact q _

theorem sc_law_bag : FnScope ["_law_cell_here"] ["_law_cell_here"] (defScope s_law_bag) := ⟨rfl, rfl, rfl, by decide +kernel, rfl, by decide +kernel, by decide +kernel⟩
theorem ok_bagC {P : Program} {w : World} {K : PySem.W.Frag} {mg : Str → Option Value} {base : Heap} (B : Blts mg) (F : Fnd K mg "_law_bag" s_law_bag ["_law_cell_here"]) :
    Cal P w K mg base "_law_bag" ["_law_cell_here"] 1 (Con K 1 F_bag) := by
  refine Cal.imp (sp := spBag) ?_ (fun vs H Q E h => bag_con h)
  refine F.ok (k := 0) sc_law_bag (fun vs H Q E h => ?_) (fun f cdv A outer s H vs Q E hr h => ?_)
  · obtain ⟨c, rfl, q⟩ := h
    rfl
  obtain ⟨c, rfl, q⟩ := h
  refine ⟨_, (pss_one (ps_ret (pe_lst (pa_cons (pe_op op_mul (pv 0) (pe_callTy call_int1 (by rfl) B.int_ (by decide +kernel) (pa_cons (pe_cmpR op_ge (pv 0) (pe_op op_pow pe_int pe_int) (nomark _)) pa_nil))) (pa_cons (pe_op op_mod (pv 0) pe_int) pa_nil))))), ?_⟩
  have e18 : (10 : Int) ^ ((18 : Int).toNat) = 1000000000000000000 := rfl
  walk_at "rd"
  have m0 := Int.emod_nonneg c (show (2147483647 : Int) ≠ 0 by decide)
  have m1 := Int.emod_lt_of_pos c (show (0 : Int) < 2147483647 by decide)
  rw [e18]
  refine .inr ⟨_, rfl, _, _, rfl, rfl, .inr ?_, ?_⟩
  · split <;> constructor <;> decide
  walk_at "rd"
  refine fun p hp => q p _ _ hp ?_ m0 m1
  split
  · rename_i h
    have h : 1000000000000000000 ≤ c := by simpa using h
    omega
  · omega

theorem sc_law_digit : FnScope ["_law_bag_here", "_law_many", "_law_found"] ["_law_bag_here", "_law_many"] (defScope s_law_digit) := ⟨rfl, rfl, rfl, by decide +kernel, rfl, by decide +kernel, by decide +kernel⟩
theorem ok_digitC {P : Program} {w : World} {K : PySem.W.Frag} {mg : Str → Option Value} {base : Heap} (B : Blts mg) (F : Fnd K mg "_law_digit" s_law_digit ["_law_bag_here", "_law_many"]) :
    Cal P w K mg base "_law_digit" ["_law_bag_here", "_law_many"] 1 (Con K 2 (F_draw 400)) := by
  refine Cal.imp (sp := spDraw 400) ?_ (fun vs H Q E h => draw_con h)
  refine F.ok (k := 0) sc_law_digit (fun vs H Q E h => ?_) (fun f cdv A outer s H vs Q E hr h => ?_)
  · obtain ⟨b, m, rfl, ⟨x, y, hb, x0, y0, y1⟩, m0, m1, q⟩ := h
    rfl
  obtain ⟨b, m, rfl, ⟨x, y, hb, x0, y0, y1⟩, m0, m1, q⟩ := h
  refine ⟨_, (pss_cons (ps_if (pt_cmpR op_gt (pe_ix ix_any (pv 0) pe_int (fun _ _ => rfl)) pe_int (nomark _)) (pss_cons (ps_set (i := 2) sc_law_digit.nd rfl (Or.inl rfl) (pe_op op_mod (pe_ix ix_any (pv 0) pe_int (fun _ _ => rfl)) (pv 1))) (pss_cons (ps_asg (pe_op op_fdivB (pe_ix ix_any (pv 0) pe_int (fun _ _ => rfl)) (pv 1)) (pg_sub (pv 0) pe_int set_list)) (pss_one (ps_ret (pv 2))))) pss_nil) (pss_cons (ps_asg (pe_op op_mod (pe_op op_add (pe_op op_mulB (pe_ix ix_any (pv 0) pe_int (fun _ _ => rfl)) pe_int) pe_int) pe_int) (pg_sub (pv 0) pe_int set_list)) (pss_one (ps_ret (pe_op op_mod (pe_op op_fdivB (pe_op op_mod (pe_op op_mulB (pe_ix ix_any (pv 0) pe_int (fun _ _ => rfl)) pe_int) pe_int) pe_int) (pv 1)))))), ?_⟩
  walk_at "rd"
  refine iteD (fun g => ?_) (fun g => ?_)
  · walk_at "rd"
    refine ⟨b, _, _, _, rfl, rfl, hb, rfl, ?_⟩
    refine ⟨_, rfl, ?_⟩
    refine q _ _ (Ext.upd b H _) ⟨_, _, upd_same, ?_, y0, y1⟩ (Int.emod_nonneg _ (by omega)) (Int.emod_lt_of_pos _ m0)
    exact Int.fdiv_nonneg x0 (Int.le_of_lt m0)
  · have m2 := Int.emod_nonneg (y * 48271 + 11) (show (2147483647 : Int) ≠ 0 by decide)
    have m3 := Int.emod_lt_of_pos (y * 48271 + 11) (show (0 : Int) < 2147483647 by decide)
    walk_at "rd"
    refine ⟨b, _, _, _, rfl, rfl, hb, rfl, ?_⟩
    generalize (y * 48271 + 11) % 2147483647 = z at m2 m3 ⊢
    have hb2 : (upd H b (.lst ([V.int x, V.int y].set 1 (V.int z)))) b = some (.lst [.int x, .int z]) := upd_same
    walk_at "rd"
    refine q _ _ (Ext.upd b H _) ⟨_, _, hb2, x0, m2, m3⟩ (Int.emod_nonneg _ (by omega)) (Int.emod_lt_of_pos _ m0)

theorem sc_law_point : FnScope ["_law_a", "_law_b", "_law_n", "_law_one", "_law_other", "_law_rest"] ["_law_a", "_law_b", "_law_n"] (defScope s_law_point) := ⟨rfl, rfl, rfl, by decide +kernel, rfl, by decide +kernel, by decide +kernel⟩

def F_ptC : FS := fun as k => ∃ (a b n : Int), as = [.val (.int a), .val (.int b), .val (.int n)] ∧ (0 < n) ∧ (intBits n ≤ 9000) ∧ k (.val (dP (npt a b n)))
theorem ok_ptC {P : Program} {w : World} {K : PySem.W.Frag} {mg : Str → Option Value} {base : Heap} (B : Blts mg)   (F : Fnd K mg "_law_point" s_law_point ["_law_a", "_law_b", "_law_n"])  :
    Cal P w K mg base "_law_point" ["_law_a", "_law_b", "_law_n"] 2 (Con K 3 F_ptC) := by
  refine def3 (lv := 1) F sc_law_point rfl (fun f cdv A outer s H E hr => ⟨_, (s_cons (s_set (i := 3) sc_law_point.nd rfl (Or.inl rfl) (e_abs (v3 0) (by rfl) B.abs_)) (s_cons (s_for PassesOwn.never rfl (i_list (o_e (o_lst (l_cons (e_abs (v3 1) (by rfl) B.abs_) (l_cons (v3 2) l_nil))))) (g_name (i := 4) sc_law_point.nd rfl (Or.inl rfl)) (s_one (s_while PassesOwn.never (t_cmp (f := fun i j => decide (j < i)) op_gt (v3 4) e_int (nomark _)) (s_cons (s_set (i := 5) sc_law_point.nd rfl (Or.inl rfl) (e_mod (v3 3) (v3 4))) (s_cons (s_set (i := 3) sc_law_point.nd rfl (Or.inl rfl) (v3 4)) (s_one (s_set (i := 4) sc_law_point.nd rfl (Or.inl rfl) (v3 5)))))))) (s_one (s_ret (e_tup (l_cons (e_fdiv (v3 0) (v3 3)) (l_cons (e_fdiv (v3 1) (v3 3)) (l_cons (e_fdiv (v3 2) (v3 3)) l_nil)))))))), ?_⟩)
  rintro as k hl ⟨a, b, n, rfl, hn, bn, hk⟩
  refine at3 (r := [.val (.int a), .val (.int b), .val (.int n), .no, .no, .no]) rfl ?_
  have gp := g3_pos (a := a) (b := b) (Int.ne_of_gt hn)
  have gb := g3_bits (a := a) (b := b) (Int.ne_of_gt hn) bn
  have e : gsp a b n = g3 a b n := by unfold gsp; rw [if_neg (by omega)]
  have eg : ((Int.gcd ((Int.gcd a b : Nat) : Int) n : Nat) : Int) = g3 a b n := g3_xy a b n
  have hk : k (.val (.tup [.int (a.fdiv (g3 a b n)), .int (b.fdiv (g3 a b n)), .int (n.fdiv (g3 a b n))])) := by
    have h := hk
    unfold dP npt at h
    rw [e] at h
    exact h
  walk_at "w"
  dsimp only [forR, ugName]
  have fin : ∀ v4 v5 : Sl, uRet (uTup (uCons (uI CDivB (fun i j => D.int (i.fdiv j)) (uVar 0) (uVar 3)) (uCons (uI CDivB (fun i j => D.int (i.fdiv j)) (uVar 1) (uVar 3)) (uCons (uI CDivB (fun i j => D.int (i.fdiv j)) (uVar 2) (uVar 3)) uNil)))) { nx := fun x => k (Sl.val D.non), rt := k } [.val (.int a), .val (.int b), .val (.int n), .val (.int (g3 a b n)), v4, v5] := fun v4 v5 => by
    generalize g3 a b n = g at *
    walk_at "w"
    exact hk
  refine ⟨fun m ρ => ∃ (x y : Int) (v : Sl), ρ = [.val (.int a), .val (.int b), .val (.int n), .val (.int x), .val (.int y), v] ∧ 0 ≤ x ∧ 0 ≤ y ∧ Int.gcd x y = Int.gcd a b ∧ m = y.toNat, ⟨_, _, _, _, rfl, ?_, ?_, gcd_abs a b, rfl⟩, ?_⟩
  · split <;> omega
  · split <;> omega
  rintro m ρ ⟨x, y, v, rfl, x0, y0, hg, rfl⟩
  walk_at "wd"
  refine iteD (fun g => ?_) (fun g => ?_)
  · walk_at "wd"
    have m0 := Int.emod_nonneg x (show y ≠ 0 by omega)
    have m1 := Int.emod_lt_of_pos x g
    exact ⟨_, by omega, _, _, _, rfl, y0, m0, by rw [gcd_step x0 g]; exact hg, rfl⟩
  · have e : y = 0 := by omega
    subst e
    have ex := gcd_zero_left x0
    rw [hg] at ex
    subst ex
    try dsimp only [forR, ugName]
    refine ⟨fun m ρ => ∃ (x y : Int) (v : Sl), ρ = [.val (.int a), .val (.int b), .val (.int n), .val (.int x), .val (.int y), v] ∧ 0 ≤ x ∧ 0 ≤ y ∧ Int.gcd x y = Int.gcd ((Int.gcd a b : Nat) : Int) n ∧ m = y.toNat, ⟨_, _, _, _, rfl, ?_, ?_, rfl, rfl⟩, ?_⟩
    · exact Int.natCast_nonneg _
    · omega
    rintro m ρ ⟨x, y, v, rfl, x0, y0, hg, rfl⟩
    walk_at "wd"
    refine iteD (fun g => ?_) (fun g => ?_)
    · walk_at "wd"
      have m0 := Int.emod_nonneg x (show y ≠ 0 by omega)
      have m1 := Int.emod_lt_of_pos x g
      exact ⟨_, by omega, _, _, _, rfl, y0, m0, by rw [gcd_step x0 g]; exact hg, rfl⟩
    · have e : y = 0 := by omega
      subst e
      have ex := gcd_zero_left x0
      rw [hg] at ex
      subst ex
      rw [eg]
      exact fin _ _

theorem sc_law_slid : FnScope ["_law_p", "_law_v"] ["_law_p", "_law_v"] (defScope s_law_slid) := ⟨rfl, rfl, rfl, by decide +kernel, rfl, by decide +kernel, by decide +kernel⟩

def F_slidM : FS := fun as k => ∃ (p g : P3), as = [.val (dP p), .val (dP g)] ∧ (GP 4000 p) ∧ (GP 4000 g) ∧ k (.val (dP (nP (sld g p))))
theorem ok_slidM {P : Program} {w : World} {K : PySem.W.Frag} {mg : Str → Option Value} {base : Heap} (B : Blts mg)   (F : Fnd K mg "_law_slid" s_law_slid ["_law_p", "_law_v"]) (c_law_point : Cal P w K mg base "_law_point" ["_law_a", "_law_b", "_law_n"] 2 (Con K 3 F_ptC)) :
    Cal P w K mg base "_law_slid" ["_law_p", "_law_v"] 3 (Con K 2 F_slidM) := by
  refine def3 (lv := 2) F sc_law_slid rfl (fun f cdv A outer s H E hr => ⟨_, (s_one (s_ret (e_call c_law_point hr (by rfl) (a_val (e_add (e_mul (e_ix (v3 0) e_int (fun _ _ => rfl)) (e_ix (v3 1) e_int (fun _ _ => rfl))) (e_mul (e_ix (v3 1) e_int (fun _ _ => rfl)) (e_ix (v3 0) e_int (fun _ _ => rfl)))) (a_val (e_add (e_mul (e_ix (v3 0) e_int (fun _ _ => rfl)) (e_ix (v3 1) e_int (fun _ _ => rfl))) (e_mul (e_ix (v3 1) e_int (fun _ _ => rfl)) (e_ix (v3 0) e_int (fun _ _ => rfl)))) (a_val (e_mul (e_ix (v3 0) e_int (fun _ _ => rfl)) (e_ix (v3 1) e_int (fun _ _ => rfl))) a_nil)))))), ?_⟩)
  rintro as k hl ⟨p, g, rfl, hp, hg, hk⟩
  refine at3 (r := [.val (dP p), .val (dP g)]) rfl ?_
  have h1 := hp.bp.a
  have h2 := hp.bp.b
  have h3 := hp.bp.c
  have h4 := hg.bp.a
  have h5 := hg.bp.b
  have h6 := hg.bp.c
  walk_at "w"
  exact ⟨_, _, _, rfl, Int.mul_pos hp.pt.1 hg.pt.1, by walk_at "bits", hk⟩

theorem sc_law_turned : FnScope ["_law_p"] ["_law_p"] (defScope s_law_turned) := ⟨rfl, rfl, rfl, by decide +kernel, rfl, by decide +kernel, by decide +kernel⟩

def F_turnC : FS := fun as k => ∃ (p : P3), as = [.val (dP p)] ∧ k (.val (dP (trn p)))
theorem ok_turnC {P : Program} {w : World} {K : PySem.W.Frag} {mg : Str → Option Value} {base : Heap} (B : Blts mg)   (F : Fnd K mg "_law_turned" s_law_turned ["_law_p"])  :
    Cal P w K mg base "_law_turned" ["_law_p"] 2 (Con K 1 F_turnC) := by
  refine def3 (lv := 1) F sc_law_turned rfl (fun f cdv A outer s H E hr => ⟨_, (s_one (s_ret (e_tup (l_cons (e_neg (e_ix (v3 0) e_int (fun _ _ => rfl))) (l_cons (e_neg (e_ix (v3 0) e_int (fun _ _ => rfl))) (l_cons (e_ix (v3 0) e_int (fun _ _ => rfl)) l_nil)))))), ?_⟩)
  rintro as k hl ⟨p, rfl, hk⟩
  refine at3 (r := [.val (dP p)]) rfl ?_
  walk_at "w"
  exact hk

theorem sc_law_side : FnScope ["_law_p", "_law_q", "_law_r", "_law_found"] ["_law_p", "_law_q", "_law_r"] (defScope s_law_side) := ⟨rfl, rfl, rfl, by decide +kernel, rfl, by decide +kernel, by decide +kernel⟩

def F_sideM : FS := fun as k => ∃ (p q r : P3), as = [.val (dP p), .val (dP q), .val (dP r)] ∧ (BP 4000 p) ∧ (BP 4000 q) ∧ (BP 4000 r) ∧ k (.val (.int (sg (det3 p q r))))
theorem ok_sideM {P : Program} {w : World} {K : PySem.W.Frag} {mg : Str → Option Value} {base : Heap} (B : Blts mg)   (F : Fnd K mg "_law_side" s_law_side ["_law_p", "_law_q", "_law_r"])  :
    Cal P w K mg base "_law_side" ["_law_p", "_law_q", "_law_r"] 2 (Con K 3 F_sideM) := by
  refine def3 (lv := 1) F sc_law_side rfl (fun f cdv A outer s H E hr => ⟨_, (s_cons (s_set (i := 3) sc_law_side.nd rfl (Or.inl rfl) (e_mul (e_ix (v3 0) e_int (fun _ _ => rfl)) (e_sub (e_mul (e_ix (v3 1) e_int (fun _ _ => rfl)) (e_ix (v3 2) e_int (fun _ _ => rfl))) (e_mul (e_ix (v3 1) e_int (fun _ _ => rfl)) (e_ix (v3 2) e_int (fun _ _ => rfl)))))) (s_cons (s_set (i := 3) sc_law_side.nd rfl (Or.inl rfl) (e_sub (v3 3) (e_mul (e_ix (v3 0) e_int (fun _ _ => rfl)) (e_sub (e_mul (e_ix (v3 1) e_int (fun _ _ => rfl)) (e_ix (v3 2) e_int (fun _ _ => rfl))) (e_mul (e_ix (v3 1) e_int (fun _ _ => rfl)) (e_ix (v3 2) e_int (fun _ _ => rfl))))))) (s_cons (s_set (i := 3) sc_law_side.nd rfl (Or.inl rfl) (e_add (v3 3) (e_mul (e_ix (v3 0) e_int (fun _ _ => rfl)) (e_sub (e_mul (e_ix (v3 1) e_int (fun _ _ => rfl)) (e_ix (v3 2) e_int (fun _ _ => rfl))) (e_mul (e_ix (v3 1) e_int (fun _ _ => rfl)) (e_ix (v3 2) e_int (fun _ _ => rfl))))))) (s_one (s_ret (e_sub (e_toInt (e_cmp (f := fun i j => decide (j < i)) op_gt (v3 3) e_int (nomark _)) (by rfl) B.int_) (e_toInt (e_cmp (f := fun i j => decide (i < j)) op_lt (v3 3) e_int (nomark _)) (by rfl) B.int_))))))), ?_⟩)
  rintro as k hl ⟨p, q, r, rfl, bp, bq, br, hk⟩
  refine at3 (r := [.val (dP p), .val (dP q), .val (dP r), .no]) rfl ?_
  have h1 := bp.a
  have h2 := bp.b
  have h3 := bp.c
  have h4 := bq.a
  have h5 := bq.b
  have h6 := bq.c
  have h7 := br.a
  have h8 := br.b
  have h9 := br.c
  rw [← side_det, ← sg_int] at hk
  walk_at "w"
  refine .inr ⟨_, rfl, ?_⟩
  walk_at "w"
  refine .inr ⟨_, rfl, ?_⟩
  walk_at "w"
  simp only [decide_eq_true_eq]
  exact hk

theorem sc_law_is_point : FnScope ["_law_p", "_law_number"] ["_law_p"] (defScope s_law_is_point) := ⟨rfl, rfl, rfl, by decide +kernel, rfl, by decide +kernel, by decide +kernel⟩

def F_isptC : FS := fun as k => ∃ (p : P3), as = [.val (dP p)] ∧ (PtP p) ∧ (BP 1000 p) ∧ k (.val (.bl true))
theorem ok_isptC {P : Program} {w : World} {K : PySem.W.Frag} {mg : Str → Option Value} {base : Heap} (B : Blts mg)   (F : Fnd K mg "_law_is_point" s_law_is_point ["_law_p"]) (c_law_point : Cal P w K mg base "_law_point" ["_law_a", "_law_b", "_law_n"] 2 (Con K 3 F_ptC)) :
    Cal P w K mg base "_law_is_point" ["_law_p"] 3 (Con K 1 F_isptC) := by
  refine def3 (lv := 2) F sc_law_is_point rfl (fun f cdv A outer s H E hr => ⟨_, (s_cons (s_if (w_t (w_or (t_not (t_val (e_isi (T := "tuple") (v3 0) (by rfl) B.isinstance_ (pe_bltn (v := .ty "tuple") (u := .type "tuple") (by rfl) B.tuple_ (by decide +kernel) rfl) rfl rfl rfl))) (w_or1 (t_cmp (f := fun i j => !decide (i = j)) op_neI (e_len (v3 0) (by rfl) B.len_) e_int (nomark _))))) (s_one (s_ret e_bl)) s_nil) (s_cons (s_for PassesOwn.never rfl (i_tup (v3 0)) (g_name (i := 1) sc_law_is_point.nd rfl (Or.inl rfl)) (s_one (s_if (w_t (w_or (t_not (t_val (e_isi (T := "int") (v3 1) (by rfl) B.isinstance_ (pe_bltn (v := .ty "int") (u := .type "int") (by rfl) B.int_ (by decide +kernel) rfl) rfl rfl rfl))) (w_or1 (t_val (e_isi (T := "bool") (v3 1) (by rfl) B.isinstance_ (pe_bltn (v := .ty "bool") (u := .type "bool") (by rfl) B.bool_ (by decide +kernel) rfl) rfl rfl rfl))))) (s_one (s_ret e_bl)) s_nil))) (s_one (s_ret (e_and (e_cmp (f := fun i j => decide (j < i)) op_gt (e_ix (v3 0) e_int (fun _ _ => rfl)) e_int (nomark _)) (e_one (e_eq (hr.units) (e_call c_law_point hr (by rfl) (a_val (e_ix (v3 0) e_int (fun _ _ => rfl)) (a_val (e_ix (v3 0) e_int (fun _ _ => rfl)) (a_val (e_ix (v3 0) e_int (fun _ _ => rfl)) a_nil)))) (v3 0) (nomark _)))))))), ?_⟩)
  rintro as k hl ⟨p, rfl, hp, bp, hk⟩
  refine at3 (r := [.val (dP p), .no]) rfl ?_
  have b3 := bp.c
  refine pass4 (fun N kk => ?_) ?_
  · refine ⟨_, rfl, _, _, rfl, fun _ => rfl, _, rfl, iteF ?_⟩
    exact ⟨_, rfl, _, rfl, _, _, rfl, rfl, _, rfl, iteF kk⟩
  refine mid4 (fun ρ => ∃ v1, ρ = [.val (dP p), v1]) ?_ (fun N kk => ?_)
  rotate_left
  · refine ⟨_, rfl, _, rfl, ?_⟩
    refine forR_map (f := D.int) (rs := [p.1, p.2.1, p.2.2]) (done := []) (fun _ ρ => ∃ v1, ρ = [.val (dP p), v1]) ⟨_, rfl⟩ ?_ ?_
    · rintro pre r rest ρ _ ⟨v1, rfl⟩ N kk
      refine ⟨_, rfl, _, _, rfl, fun _ => rfl, _, rfl, iteF ?_⟩
      exact ⟨_, rfl, _, _, rfl, fun _ => rfl, _, rfl, iteF (kk _ ⟨_, rfl⟩)⟩
    · rintro ρ ⟨v1, rfl⟩
      exact kk _ ⟨_, rfl⟩
  rintro ρ ⟨v1, rfl⟩
  refine ⟨_, rfl, _, _, _, .inl rfl, rfl, rfl, _, _, rfl, rfl, _, rfl, ?_⟩
  rw [decide_eq_true (show (0 : Int) < p.2.2 from hp.1)]
  refine iteT ?_
  refine ⟨_, rfl, _, _, _, .inl rfl, rfl, rfl, _, rfl, _, _, _, .inl rfl, rfl, rfl, _, rfl, _, _, _, .inl rfl, rfl, rfl, rfl, p.1, p.2.1, p.2.2, rfl, hp.1, Nat.le_trans b3 (by decide), ?_⟩
  dsimp only [fzR]
  have e : npt p.1 p.2.1 p.2.2 = p := nP_self hp
  rw [e]
  refine ⟨_, rfl, .T [.I, .I, .I], rfl, rfl, by decide, ?_⟩
  rw [eqD_self]
  exact hk

theorem sc_law_is_convex : FnScope ["_law_ring", "_law_k", "_law_j"] ["_law_ring"] (defScope s_law_is_convex) := ⟨rfl, rfl, rfl, by decide +kernel, rfl, by decide +kernel, by decide +kernel⟩

def F_cvxM : FS := fun as k => ∃ (ps : List P3), as = [.val (.lst (ps.map dP))] ∧ (ps.length ≤ 1000) ∧ (∀ p ∈ ps, GP 700 p) ∧ ∀ b : Bool, (b = true ↔ Cvx ps) → k (.val (.bl b))
theorem ok_cvxM {P : Program} {w : World} {K : PySem.W.Frag} {mg : Str → Option Value} {base : Heap} (B : Blts mg)   (F : Fnd K mg "_law_is_convex" s_law_is_convex ["_law_ring"]) (c_law_is_point : Cal P w K mg base "_law_is_point" ["_law_p"] 3 (Con K 1 F_isptC)) (c_law_side : Cal P w K mg base "_law_side" ["_law_p", "_law_q", "_law_r"] 2 (Con K 3 F_sideM)) :
    Cal P w K mg base "_law_is_convex" ["_law_ring"] 4 (Con K 1 F_cvxM) := by
  refine def3 (lv := 3) F sc_law_is_convex rfl (fun f cdv A outer s H E hr => ⟨_, (s_cons (s_if (w_t (w_or (t_not (t_val (e_isi (T := "list") (v3 0) (by rfl) B.isinstance_ (pe_bltn (v := .ty "list") (u := .type "list") (by rfl) B.list_ (by decide +kernel) rfl) rfl rfl rfl))) (w_or1 (t_cmp (f := fun i j => decide (i < j)) op_lt (e_len (v3 0) (by rfl) B.len_) e_int (nomark _))))) (s_one (s_ret e_bl)) s_nil) (s_cons (s_if (t_cmp (f := fun i j => decide (j < i)) op_gt (e_len (o_e (o_compG (ts := ["_law_p"]) (fr := []) (js := []) (i_list (v3 0)) (fun _ _ _ _ => (g_name (i := 0) (show List.Nodup (["_law_p"] : List Str) by decide +kernel) rfl (Or.inl rfl))) (fun _ _ _ _ => (ifs_one (t_not (t_val (e_call c_law_is_point hr (by rfl) (a_val (v3 0) a_nil)))))) (fun _ _ _ _ => (v3 0)) ⟨rfl, by decide +kernel, rfl, by decide +kernel, fsub_of (List.forall_mem_nil _), fhas_b rfl, by walk_at "ffr", rfl⟩)) (by rfl) B.len_) e_int (nomark _)) (s_one (s_ret e_bl)) s_nil) (s_cons (s_for PassesOwn.never rfl (i_rng (e_len (v3 0) (by rfl) B.len_) (by rfl) B.range_) (g_name (i := 1) sc_law_is_convex.nd rfl (Or.inl rfl)) (s_one (s_for PassesOwn.never rfl (i_rng (e_len (v3 0) (by rfl) B.len_) (by rfl) B.range_) (g_name (i := 2) sc_law_is_convex.nd rfl (Or.inl rfl)) (s_one (s_if (w_t (w_and (t_cmp (f := fun i j => !decide (i = j)) op_neI (v3 2) (v3 1) (nomark _)) (w_and1 (t_cmp (f := fun i j => !decide (i = j)) op_neI (v3 2) (e_mod (e_add (v3 1) e_int) (e_len (v3 0) (by rfl) B.len_)) (nomark _))))) (s_one (s_if (t_cmp (f := fun i j => !decide (i = j)) op_neI (e_call c_law_side hr (by rfl) (a_val (e_ix (v3 0) (v3 1) (fun _ _ => rfl)) (a_val (e_ix (v3 0) (e_mod (e_add (v3 1) e_int) (e_len (v3 0) (by rfl) B.len_)) (fun _ _ => rfl)) (a_val (e_ix (v3 0) (v3 2) (fun _ _ => rfl)) a_nil)))) e_int (nomark _)) (s_one (s_ret e_bl)) s_nil)) s_nil))))) (s_one (s_ret e_bl))))), ?_⟩)
  rintro as k hl ⟨ps, rfl, hl, hp, hk⟩
  refine at3 (r := [.val (.lst (ps.map dP)), .no, .no]) rfl ?_
  have fls : ¬ Cvx ps → k (.val (.bl false)) := fun h => hk false ⟨fun z => (by cases z), fun z => absurd z h⟩
  have tru : Cvx ps → k (.val (.bl true)) := fun h => hk true ⟨fun _ => h, fun _ => rfl⟩
  have big : 1000 < sizeLine := by decide
  have cmp : ∀ {k : List D → Prop} {v0 : Sl} {ut : UT} {u : UE}, (∀ p ∈ ps, ∀ k : Bool → Prop, k false → ut [.val (dP p)] k) → k [] → compG (ugName 0) ut u (ps.map dP) [v0] k := fun h1 h2 => compG_none h1 h2
  have hat : ∀ n, n < ps.length → atI (ps.map dP) (n : Int) = some (dP (nth ps n)) := fun n h => atI_nth h
  have hLl : (ps.map dP).length = ps.length := List.length_map ..
  generalize ps.map dP = L at *
  by_cases l3 : ps.length < 3
  · refine ⟨_, rfl, _, _, rfl, fun _ => rfl, _, rfl, iteF ?_⟩
    walk_at "wd"
    exact iteD (fun _ => fls fun z => by have := z.1; omega) (fun g => absurd g (by omega))
  refine pass4 (fun N kk => ?_) ?_
  · refine ⟨_, rfl, _, _, rfl, fun _ => rfl, _, rfl, iteF ?_⟩
    walk_at "wd"
    exact iteD (fun g => absurd g (by omega)) (fun _ => kk)
  refine pass4 (fun N kk => ?_) ?_
  · refine ⟨_, rfl, _, rfl, by omega, ?_⟩
    refine cmp (fun p hpm k2 hk2 => ?_) ?_
    · refine ⟨_, rfl, rfl, p, rfl, (hp p hpm).pt, (hp p hpm).bp.mono (by decide), _, rfl, ?_⟩
      exact hk2
    · walk_at "wd"
      exact iteD (fun g => absurd g (by decide)) (fun _ => kk)
  have n0 : 0 < ps.length := by omega
  refine mid4 (fun ρ => (∃ v1 v2, ρ = [.val (.lst L), v1, v2]) ∧ Cvx ps) ?_ (fun N kk => ?_)
  · rintro ρ ⟨⟨v1, v2, rfl⟩, hc⟩
    exact tru hc
  refine ⟨_, rfl, _, rfl, _, rfl, by omega, by omega, ?_⟩
  rw [show ((L.length : Nat) : Int).toNat = ps.length by omega]
  refine forR_rng (fun i ρ => (∃ v1 v2, ρ = [.val (.lst L), v1, v2]) ∧ ∀ k j, k < i → j < ps.length → j ≠ k → j ≠ (k + 1) % ps.length → sg (det3 (nth ps k) (nth ps ((k + 1) % ps.length)) (nth ps j)) = 1) ⟨⟨_, _, rfl⟩, fun k j h => absurd h (by omega)⟩ ?_ ?_
  · rintro i ρ hi ⟨⟨v1, v2, rfl⟩, hI⟩ N kk
    have hi2 : (i + 1) % ps.length < ps.length := Nat.mod_lt _ n0
    refine ⟨_, rfl, _, rfl, _, rfl, by omega, by omega, ?_⟩
    rw [show ((L.length : Nat) : Int).toNat = ps.length by omega]
    refine forR_rng (fun j' ρ => (∃ v2, ρ = [.val (.lst L), .val (.int i), v2]) ∧ ∀ j, j < j' → j ≠ i → j ≠ (i + 1) % ps.length → sg (det3 (nth ps i) (nth ps ((i + 1) % ps.length)) (nth ps j)) = 1) ⟨⟨_, rfl⟩, fun j h => absurd h (by omega)⟩ ?_ ?_
    · rintro j ρ hj ⟨⟨v2, rfl⟩, hJ⟩ N kk
      have go : ∀ N : List Sl → Prop, (∀ r, (∃ v2, r = [.val (.lst L), .val (.int i), v2]) ∧ (∀ j', j' < j + 1 → j' ≠ i → j' ≠ (i + 1) % ps.length → sg (det3 (nth ps i) (nth ps ((i + 1) % ps.length)) (nth ps j')) = 1) → N r) → (j ≠ i → j ≠ (i + 1) % ps.length → sg (det3 (nth ps i) (nth ps ((i + 1) % ps.length)) (nth ps j)) = 1) → N [.val (.lst L), .val (.int i), .val (.int j)] := fun N kk h => kk _ ⟨⟨_, rfl⟩, fun j' h1 h2 h3 => by
        by_cases e : j' = j
        · subst e; exact h h2 h3
        · exact hJ j' (by omega) h2 h3⟩
      walk_at "wd"
      refine iteDn (fun g1 => ?_) (fun g1 => ?_)
      · refine ⟨_, rfl, _, rfl, _, _, rfl, rfl, ?_⟩
        refine ⟨_, rfl, _, rfl, _, _, rfl, rfl, by show (0 : Int) < (L.length : Nat); omega, _, _, rfl, rfl, _, rfl, ?_⟩
        dsimp only
        rw [hLl, emod_cast]
        refine iteDn (fun g2 => ?_) (fun g2 => ?_)
        · refine ⟨_, rfl, _, rfl, _, _, _, .inr rfl, rfl, hat i hi, ?_⟩
          refine ⟨_, rfl, _, rfl, _, _, rfl, rfl, _, rfl, _, rfl, _, _, rfl, rfl, by show (0 : Int) < (L.length : Nat); omega, _, _, _, .inr rfl, rfl, (by rw [hLl, emod_cast]; exact hat _ hi2), ?_⟩
          refine ⟨_, rfl, _, rfl, _, _, _, .inr rfl, rfl, hat j hj, ?_⟩
          refine ⟨rfl, nth ps i, nth ps ((i + 1) % ps.length), nth ps j, rfl, (hp _ (nth_mem hi)).bp.mono (by decide), (hp _ (nth_mem hi2)).bp.mono (by decide), (hp _ (nth_mem hj)).bp.mono (by decide), ?_⟩
          walk_at "wd"
          refine iteDn (fun g3 => ?_) (fun g3 => ?_)
          · exact fls fun z => g3 (z.2 i j hi hj (by omega) (by omega))
          · exact go _ kk fun _ _ => g3
        · exact go _ kk fun _ h => absurd (by omega) h
      · refine iteF3 rfl ?_
        exact go _ kk fun h => absurd (by omega) h
    · rintro ρ ⟨⟨v2, rfl⟩, hJ⟩
      exact kk _ ⟨⟨_, _, rfl⟩, fun k j h1 h2 h3 h4 => by
        by_cases e : k = i
        · subst e; exact hJ j h2 h3 h4
        · exact hI k j (by omega) h2 h3 h4⟩
  · rintro ρ ⟨⟨v1, v2, rfl⟩, hI⟩
    exact kk _ ⟨⟨_, _, rfl⟩, by omega, fun k j h1 h2 h3 h4 => hI k j h1 h2 h3 h4⟩

theorem sc_law_within : FnScope ["_law_ring", "_law_p", "_law_found", "_law_k", "_law_hand"] ["_law_ring", "_law_p"] (defScope s_law_within) := ⟨rfl, rfl, rfl, by decide +kernel, rfl, by decide +kernel, by decide +kernel⟩

def F_wiM : FS := fun as k => ∃ (ps : List P3) (s : P3), as = [.val (.lst (ps.map dP)), .val (dP s)] ∧ (ps.length ≤ 1000) ∧ (∀ p ∈ ps, GP 700 p) ∧ (BP 4000 s) ∧ k (.val (.int (wi ps s)))
theorem ok_wiM {P : Program} {w : World} {K : PySem.W.Frag} {mg : Str → Option Value} {base : Heap} (B : Blts mg)   (F : Fnd K mg "_law_within" s_law_within ["_law_ring", "_law_p"]) (c_law_side : Cal P w K mg base "_law_side" ["_law_p", "_law_q", "_law_r"] 2 (Con K 3 F_sideM)) :
    Cal P w K mg base "_law_within" ["_law_ring", "_law_p"] 3 (Con K 2 F_wiM) := by
  refine def3 (lv := 2) F sc_law_within rfl (fun f cdv A outer s H E hr => ⟨_, (s_cons (s_set (i := 2) sc_law_within.nd rfl (Or.inl rfl) e_int) (s_cons (s_for PassesOwn.never rfl (i_rng (e_len (v3 0) (by rfl) B.len_) (by rfl) B.range_) (g_name (i := 3) sc_law_within.nd rfl (Or.inl rfl)) (s_cons (s_set (i := 4) sc_law_within.nd rfl (Or.inl rfl) (e_call c_law_side hr (by rfl) (a_val (e_ix (v3 0) (e_sub (v3 3) e_int) (fun _ _ => rfl)) (a_val (e_ix (v3 0) (v3 3) (fun _ _ => rfl)) (a_val (v3 1) a_nil))))) (s_cons (s_if (t_cmp (f := fun i j => decide (i < j)) op_lt (v3 4) e_int (nomark _)) (s_one (s_ret e_int)) s_nil) (s_one (s_if (t_cmp (f := fun i j => decide (i = j)) op_eqI (v3 4) e_int (nomark _)) (s_one (s_set (i := 2) sc_law_within.nd rfl (Or.inl rfl) (e_neg e_int))) s_nil))))) (s_one (s_ret (v3 2))))), ?_⟩)
  rintro as k hl ⟨ps, s, rfl, hl, hps, bs, hk⟩
  refine at3 (r := [.val (.lst (ps.map dP)), .val (dP s), .no, .no, .no]) rfl ?_
  refine mid4 (fun ρ => ρ = [.val (.lst (ps.map dP)), .val (dP s), .val (.int 1), .no, .no]) ?_ (fun N kk => kk _ rfl)
  rintro ρ rfl
  refine mid4 (fun ρ => ∃ v3 v4 : Sl, ρ = [.val (.lst (ps.map dP)), .val (dP s), .val (.int (wi ps s)), v3, v4]) ?_ (fun N kk => ?_)
  · rintro ρ ⟨v3, v4, rfl⟩
    exact ⟨_, rfl, hk⟩
  refine ⟨_, rfl, _, rfl, _, rfl, by omega, by rw [List.length_map]; omega, ?_⟩
  rw [List.length_map, show ((ps.length : Nat) : Int).toNat = ps.length by omega]
  refine forR_rng (fun i ρ => ∃ (v3 v4 : Sl) (x : Int), ρ = [.val (.lst (ps.map dP)), .val (dP s), .val (.int x), v3, v4] ∧ ((x = 1 ∧ ∀ e ∈ (eds ps).take i, 0 < det3 e.1 e.2 s) ∨ (x = -1 ∧ (∀ e ∈ (eds ps).take i, 0 ≤ det3 e.1 e.2 s) ∧ ∃ e ∈ (eds ps).take i, det3 e.1 e.2 s = 0))) ⟨_, _, 1, rfl, .inl ⟨rfl, by simp⟩⟩ ?_ ?_
  rotate_left
  · rintro ρ ⟨v3, v4, x, rfl, h⟩
    rw [eds_all] at h
    rcases h with ⟨rfl, h⟩ | ⟨rfl, h, z⟩
    · exact kk _ ⟨_, _, by rw [wi_one h]⟩
    · exact kk _ ⟨_, _, by rw [wi_minus h z]⟩
  rintro i ρ hi ⟨v3, v4, x, rfl, hI⟩ N kk
  have et := eds_take hi
  have hp := (hps _ (nth_mem (ps := ps) (Nat.mod_lt (i + ps.length - 1) (show 0 < ps.length by omega)))).bp.mono (show 700 ≤ 4000 by decide)
  have hq := (hps _ (nth_mem hi)).bp.mono (show 700 ≤ 4000 by decide)
  refine ⟨_, rfl, _, rfl, _, _, rfl, rfl, _, _, _, .inr rfl, rfl, atI_back1 hi, ?_⟩
  refine ⟨_, rfl, _, rfl, _, _, _, .inr rfl, rfl, atI_nth hi, ?_⟩
  have mem : (nth ps ((i + ps.length - 1) % ps.length), nth ps i) ∈ eds ps := List.mem_of_mem_take (i := i + 1) (by rw [et]; simp)
  generalize nth ps ((i + ps.length - 1) % ps.length) = p at *
  generalize nth ps i = q at *
  refine ⟨_, rfl, rfl, p, q, s, rfl, hp, hq, bs, ?_⟩
  dsimp only [fzR]
  by_cases neg : det3 p q s < 0
  · have lt : sg (det3 p q s) < 0 := by unfold sg; rw [if_neg (by omega), if_pos neg]; decide
    refine ⟨_, rfl, _, _, rfl, rfl, _, rfl, iteD (fun _ => ?_) (fun g => absurd lt g)⟩
    rw [wi_zero fun z => by have this : 0 ≤ det3 p q s := z _ mem; omega] at hk
    exact hk
  refine pass4 (fun N kk => ?_) ?_
  · have ge := sg_ge.mpr (show 0 ≤ det3 p q s by omega)
    exact ⟨_, rfl, _, _, rfl, rfl, _, rfl, iteD (fun g => absurd g (by omega)) (fun _ => kk)⟩
  refine ⟨_, rfl, _, _, rfl, rfl, _, rfl, iteD (fun g => ?_) (fun g => ?_)⟩
  · have d0 := (sg_eq0 _).mp g
    refine ⟨_, rfl, kk _ ⟨.val (.int i), .val (.int (sg (det3 p q s))), -1, rfl, .inr ⟨rfl, fun e he => ?_, (p, q), by rw [et]; simp, d0⟩⟩⟩
    rw [et] at he
    rcases List.mem_append.mp he with he | he
    · rcases hI with ⟨_, h⟩ | ⟨_, h, _⟩
      · exact Int.le_of_lt (h e he)
      · exact h e he
    · rw [List.mem_singleton.mp he]; show 0 ≤ det3 p q s; omega
  · have dp : 0 < det3 p q s := by
      have : det3 p q s ≠ 0 := fun z => g ((sg_eq0 _).mpr z)
      omega
    refine kk _ ⟨.val (.int i), .val (.int (sg (det3 p q s))), x, rfl, ?_⟩
    rcases hI with ⟨rfl, h⟩ | ⟨rfl, h, z⟩
    · refine .inl ⟨rfl, fun e he => ?_⟩
      rw [et] at he
      rcases List.mem_append.mp he with he | he
      · exact h e he
      · rw [List.mem_singleton.mp he]; exact dp
    · refine .inr ⟨rfl, fun e he => ?_, ?_⟩
      · rw [et] at he
        rcases List.mem_append.mp he with he | he
        · exact h e he
        · rw [List.mem_singleton.mp he]; exact Int.le_of_lt dp
      · obtain ⟨e, he, q0⟩ := z
        exact ⟨e, by rw [et]; exact List.mem_append_left _ he, q0⟩

theorem sc_law_twice_area : FnScope ["_law_ring", "_law_top", "_law_bottom", "_law_k", "_law_p", "_law_q"] ["_law_ring"] (defScope s_law_twice_area) := ⟨rfl, rfl, rfl, by decide +kernel, rfl, by decide +kernel, by decide +kernel⟩

def F_areaF : FS := fun as k => ∃ (ps : List P3), as = [.val (.lst (ps.map dP))] ∧ (ps.length ≤ 40) ∧ (1 ≤ ps.length) ∧ (∀ p ∈ ps, GP 90 p) ∧ k (.val (dP (taP ps)))
theorem ok_areaF {P : Program} {w : World} {K : PySem.W.Frag} {mg : Str → Option Value} {base : Heap} (B : Blts mg)   (F : Fnd K mg "_law_twice_area" s_law_twice_area ["_law_ring"]) (c_law_point : Cal P w K mg base "_law_point" ["_law_a", "_law_b", "_law_n"] 2 (Con K 3 F_ptC)) :
    Cal P w K mg base "_law_twice_area" ["_law_ring"] 3 (Con K 1 F_areaF) := by
  refine def3 (lv := 2) F sc_law_twice_area rfl (fun f cdv A outer s H E hr => ⟨_, (s_cons (s_set (i := 1) sc_law_twice_area.nd rfl (Or.inl rfl) e_int) (s_cons (s_set (i := 2) sc_law_twice_area.nd rfl (Or.inl rfl) e_int) (s_cons (s_for PassesOwn.never rfl (i_rng (e_len (v3 0) (by rfl) B.len_) (by rfl) B.range_) (g_name (i := 3) sc_law_twice_area.nd rfl (Or.inl rfl)) (s_cons (s_set (i := 4) sc_law_twice_area.nd rfl (Or.inl rfl) (e_ix (v3 0) (e_sub (v3 3) e_int) (fun _ _ => rfl))) (s_cons (s_set (i := 5) sc_law_twice_area.nd rfl (Or.inl rfl) (e_ix (v3 0) (v3 3) (fun _ _ => rfl))) (s_cons (s_set (i := 1) sc_law_twice_area.nd rfl (Or.inl rfl) (e_add (e_mul (e_mul (v3 1) (e_ix (v3 4) e_int (fun _ _ => rfl))) (e_ix (v3 5) e_int (fun _ _ => rfl))) (e_mul (e_sub (e_mul (e_ix (v3 4) e_int (fun _ _ => rfl)) (e_ix (v3 5) e_int (fun _ _ => rfl))) (e_mul (e_ix (v3 4) e_int (fun _ _ => rfl)) (e_ix (v3 5) e_int (fun _ _ => rfl)))) (v3 2)))) (s_one (s_set (i := 2) sc_law_twice_area.nd rfl (Or.inl rfl) (e_mul (e_mul (v3 2) (e_ix (v3 4) e_int (fun _ _ => rfl))) (e_ix (v3 5) e_int (fun _ _ => rfl))))))))) (s_one (s_ret (e_call c_law_point hr (by rfl) (a_val (v3 1) (a_val e_int (a_val (v3 2) a_nil))))))))), ?_⟩)
  rintro as k hl ⟨ps, rfl, hl, l1, hps, hk⟩
  refine at3 (r := [.val (.lst (ps.map dP)), .no, .no, .no, .no, .no]) rfl ?_
  have tok : ∀ j, j ≤ ps.length → 0 < (ta ps j).2 ∧ intBits (ta ps j).1 ≤ 7300 ∧ intBits (ta ps j).2 ≤ 7300 := fun j hj => by
    obtain ⟨q0, q1, q2⟩ := ta_ok hps j hj
    have : (2 * 90 + 2) * j + 1 ≤ 7300 := by omega
    exact ⟨q0, Nat.le_trans q1 this, Nat.le_trans q2 this⟩
  refine mid4 (fun ρ => ρ = [.val (.lst (ps.map dP)), .val (.int 0), .no, .no, .no, .no]) ?_ (fun N kk => kk _ rfl)
  rintro ρ rfl
  refine mid4 (fun ρ => ρ = [.val (.lst (ps.map dP)), .val (.int 0), .val (.int 1), .no, .no, .no]) ?_ (fun N kk => kk _ rfl)
  rintro ρ rfl
  refine mid4 (fun ρ => ∃ v3 v4 v5 : Sl, ρ = [.val (.lst (ps.map dP)), .val (.int (ta ps ps.length).1), .val (.int (ta ps ps.length).2), v3, v4, v5]) ?_ (fun N kk => ?_)
  · rintro ρ ⟨v3, v4, v5, rfl⟩
    obtain ⟨q0, q1, q2⟩ := tok ps.length (Nat.le_refl _)
    exact ⟨_, rfl, _, rfl, rfl, _, 0, _, rfl, q0, Nat.le_trans q2 (by decide), hk⟩
  refine ⟨_, rfl, _, rfl, _, rfl, by omega, by rw [List.length_map]; omega, ?_⟩
  rw [List.length_map, show ((ps.length : Nat) : Int).toNat = ps.length by omega]
  refine forR_rng (fun i ρ => ∃ v3 v4 v5 : Sl, ρ = [.val (.lst (ps.map dP)), .val (.int (ta ps i).1), .val (.int (ta ps i).2), v3, v4, v5]) ⟨_, _, _, rfl⟩ ?_ (fun ρ ⟨v3, v4, v5, e⟩ => kk _ ⟨_, _, _, e⟩)
  rintro i ρ hi ⟨v3, v4, v5, rfl⟩ N kk
  obtain ⟨q0, q1, q2⟩ := tok i (by omega)
  have hp := hps _ (nth_mem (ps := ps) (Nat.mod_lt (i + ps.length - 1) (show 0 < ps.length by omega)))
  have hq := hps _ (nth_mem hi)
  have es := ta_succ ps i
  refine ⟨_, rfl, _, rfl, _, _, rfl, rfl, _, _, _, .inr rfl, rfl, atI_back1 hi, ?_⟩
  refine ⟨_, rfl, _, rfl, _, _, _, .inr rfl, rfl, atI_nth hi, ?_⟩
  generalize nth ps ((i + ps.length - 1) % ps.length) = p at *
  generalize nth ps i = q at *
  have h1 := hp.bp.a
  have h2 := hp.bp.b
  have h3 := hp.bp.c
  have h4 := hq.bp.a
  have h5 := hq.bp.b
  have h6 := hq.bp.c
  walk_at "w"
  exact kk _ ⟨.val (.int i), .val (dP p), .val (dP q), by rw [es]; rfl⟩

theorem sc_law_place : FnScope ["_law_bag_here", "_law_most", "_law_n"] ["_law_bag_here", "_law_most"] (defScope s_law_place) := ⟨rfl, rfl, rfl, by decide +kernel, rfl, by decide +kernel, by decide +kernel⟩

def F_placeS : FS := fun as k =>  as = [.bag, .val (.int 6)] ∧ ∀ p : P3, GP 6 p → k (.val (dP p))
theorem ok_placeS {P : Program} {w : World} {K : PySem.W.Frag} {mg : Str → Option Value} {base : Heap} (B : Blts mg)   (F : Fnd K mg "_law_place" s_law_place ["_law_bag_here", "_law_most"]) (c_law_digit : Cal P w K mg base "_law_digit" ["_law_bag_here", "_law_many"] 1 (Con K 2 (F_draw 400))) (c_law_point : Cal P w K mg base "_law_point" ["_law_a", "_law_b", "_law_n"] 2 (Con K 3 F_ptC)) :
    Cal P w K mg base "_law_place" ["_law_bag_here", "_law_most"] 3 (Con K 2 F_placeS) := by
  refine def3 (lv := 2) F sc_law_place rfl (fun f cdv A outer s H E hr => ⟨_, (s_cons (s_set (i := 2) sc_law_place.nd rfl (Or.inl rfl) (e_ix (o_e (o_lst (l_cons e_int (l_cons e_int (l_cons e_int (l_cons e_int (l_cons e_int l_nil))))))) (e_call c_law_digit hr (by rfl) (a_bag 0 (a_val e_int a_nil))) (fun _ _ => rfl))) (s_one (s_ret (e_call c_law_point hr (by rfl) (a_val (e_call c_law_digit hr (by rfl) (a_bag 0 (a_val (e_add (e_mul (v3 1) (v3 2)) e_int) a_nil))) (a_val (e_call c_law_digit hr (by rfl) (a_bag 0 (a_val (e_add (e_mul (v3 1) (v3 2)) e_int) a_nil))) (a_val (v3 2) a_nil))))))), ?_⟩)
  rintro as k hl ⟨rfl, hk⟩
  refine at3 (r := [.bag, .val (.int 6), .no]) rfl ?_
  refine ⟨by show 5 ≤ sizeLine; decide, ?_⟩
  walk_at "w"
  intro r r0 r1
  obtain ⟨n, en, n0, n1⟩ : ∃ n : Int, atI [D.int 1, D.int 1, D.int 1, D.int 2, D.int 3] r = some (.int n) ∧ 1 ≤ n ∧ n ≤ 3 := by
    obtain rfl | rfl | rfl | rfl | rfl : r = 0 ∨ r = 1 ∨ r = 2 ∨ r = 3 ∨ r = 4 := by omega
    · exact ⟨1, rfl, by decide, by decide⟩
    · exact ⟨1, rfl, by decide, by decide⟩
    · exact ⟨1, rfl, by decide, by decide⟩
    · exact ⟨2, rfl, by decide, by decide⟩
    · exact ⟨3, rfl, by decide, by decide⟩
  refine ⟨_, _, _, .inr rfl, rfl, en, ?_⟩
  clear en r0 r1 r
  walk_at "w"
  intro x x0 x1
  walk_at "w"
  intro y y0 y1
  walk_at "w"
  refine ⟨_, _, _, rfl, by omega, by walk_at "bits", ?_⟩
  exact hk (nP (x, y, n)) ⟨nP_pt (p := (x, y, n)) (by show n ≠ 0; omega), BP.nP (p := (x, y, n)) ⟨bits06 (x := x) (by omega) (by omega), bits06 (x := y) (by omega) (by omega), bits06 (x := n) (by omega) (by omega)⟩ (by show n ≠ 0; omega)⟩

theorem sc_law_step : FnScope ["_law_bag_here", "_law_most", "_law_n"] ["_law_bag_here", "_law_most"] (defScope s_law_step) := ⟨rfl, rfl, rfl, by decide +kernel, rfl, by decide +kernel, by decide +kernel⟩

def F_stepS : FS := fun as k => ∃ (m : Int), as = [.bag, .val (.int m)] ∧ (m = 6 ∨ m = 9) ∧ ∀ p : P3, GP 6 p → k (.val (dP p))
theorem ok_stepS {P : Program} {w : World} {K : PySem.W.Frag} {mg : Str → Option Value} {base : Heap} (B : Blts mg)   (F : Fnd K mg "_law_step" s_law_step ["_law_bag_here", "_law_most"]) (c_law_digit : Cal P w K mg base "_law_digit" ["_law_bag_here", "_law_many"] 1 (Con K 2 (F_draw 400))) (c_law_point : Cal P w K mg base "_law_point" ["_law_a", "_law_b", "_law_n"] 2 (Con K 3 F_ptC)) :
    Cal P w K mg base "_law_step" ["_law_bag_here", "_law_most"] 3 (Con K 2 F_stepS) := by
  refine def3 (lv := 2) F sc_law_step rfl (fun f cdv A outer s H E hr => ⟨_, (s_cons (s_set (i := 2) sc_law_step.nd rfl (Or.inl rfl) (e_ix (o_e (o_lst (l_cons e_int (l_cons e_int (l_cons e_int (l_cons e_int l_nil)))))) (e_call c_law_digit hr (by rfl) (a_bag 0 (a_val e_int a_nil))) (fun _ _ => rfl))) (s_one (s_ret (e_call c_law_point hr (by rfl) (a_val (e_sub (e_call c_law_digit hr (by rfl) (a_bag 0 (a_val (e_add (e_mul e_int (v3 1)) e_int) a_nil))) (v3 1)) (a_val (e_sub (e_call c_law_digit hr (by rfl) (a_bag 0 (a_val (e_add (e_mul e_int (v3 1)) e_int) a_nil))) (v3 1)) (a_val (v3 2) a_nil))))))), ?_⟩)
  rintro as k hl ⟨m, rfl, hm, hk⟩
  refine at3 (r := [.bag, .val (.int m), .no]) rfl ?_
  walk_at "w"
  intro r r0 r1
  obtain ⟨n, en, n0, n1⟩ : ∃ n : Int, atI [D.int 1, D.int 1, D.int 2, D.int 5] r = some (.int n) ∧ 1 ≤ n ∧ n ≤ 5 := by
    obtain rfl | rfl | rfl | rfl : r = 0 ∨ r = 1 ∨ r = 2 ∨ r = 3 := by omega
    · exact ⟨1, rfl, by decide, by decide⟩
    · exact ⟨1, rfl, by decide, by decide⟩
    · exact ⟨2, rfl, by decide, by decide⟩
    · exact ⟨5, rfl, by decide, by decide⟩
  refine ⟨_, _, _, .inr rfl, rfl, en, ?_⟩
  clear en r0 r1 r
  walk_at "w"
  intro x x0 x1
  walk_at "w"
  intro y y0 y1
  walk_at "w"
  refine ⟨_, _, _, rfl, by omega, by walk_at "bits", ?_⟩
  exact hk (nP (x - m, y - m, n)) ⟨nP_pt (p := (x - m, y - m, n)) (by show n ≠ 0; omega), BP.nP (p := (x - m, y - m, n)) ⟨bits06 (x := x - m) (by omega) (by omega), bits06 (x := y - m) (by omega) (by omega), bits06 (x := n) (by omega) (by omega)⟩ (by show n ≠ 0; omega)⟩

theorem sc_law_three : FnScope ["_law_bag_here", "_law_most", "_law_ring", "_law_hand"] ["_law_bag_here", "_law_most"] (defScope s_law_three) := ⟨rfl, rfl, rfl, by decide +kernel, rfl, by decide +kernel, by decide +kernel⟩

def F_threeM : FS := fun as k =>  as = [.bag, .val (.int 6)] ∧ ∀ ps : List P3, ps.length = 3 → Cvx ps → (∀ p ∈ ps, GP 6 p) → k (.own (ps.map dP))
theorem ok_threeM {P : Program} {w : World} {K : PySem.W.Frag} {mg : Str → Option Value} {base : Heap} (B : Blts mg)   (F : Fnd K mg "_law_three" s_law_three ["_law_bag_here", "_law_most"]) (c_law_place : Cal P w K mg base "_law_place" ["_law_bag_here", "_law_most"] 3 (Con K 2 F_placeS)) (c_law_side : Cal P w K mg base "_law_side" ["_law_p", "_law_q", "_law_r"] 2 (Con K 3 F_sideM)) :
    Cal P w K mg base "_law_three" ["_law_bag_here", "_law_most"] 4 (Con K 2 F_threeM) := by
  refine def3 (lv := 3) F sc_law_three rfl (fun f cdv A outer s H E hr => ⟨_, (s_cons (s_thenFz 2 (s_compA (i := 2) sc_law_three.nd rfl rfl (ts := ["_law_k"]) (fr := ["_law_bag_here", "_law_most"]) (js := [0, 1]) (i_rng e_int (by rfl) B.range_) (fun _ _ _ _ => (g_name (i := 0) (show List.Nodup (["_law_k", "_law_bag_here", "_law_most"] : List Str) by decide +kernel) rfl (Or.inl rfl))) (fun _ _ _ _ => ifs_nil) (fun _ _ _ _ => (e_call c_law_place hr (by rfl) (a_bag 1 (a_val (v3 2) a_nil)))) ⟨rfl, by decide +kernel, rfl, by decide +kernel, fsub_of (List.forall_mem_cons.mpr ⟨rfl, (List.forall_mem_cons.mpr ⟨rfl, (List.forall_mem_nil _)⟩)⟩), fhas_b rfl, by walk_at "ffr", rfl⟩)) (s_cons (s_set (i := 3) sc_law_three.nd rfl (Or.inl rfl) (e_call c_law_side hr (by rfl) (a_val (e_ix (v3 2) e_int (fun _ _ => rfl)) (a_val (e_ix (v3 2) e_int (fun _ _ => rfl)) (a_val (e_ix (v3 2) e_int (fun _ _ => rfl)) a_nil))))) (s_cons (s_if (t_cmp (f := fun i j => decide (i = j)) op_eqI (v3 3) e_int (nomark _)) (s_one (s_retO (o_lst (l_cons (e_tup (l_cons e_int (l_cons e_int (l_cons e_int l_nil)))) (l_cons (e_tup (l_cons (v3 1) (l_cons e_int (l_cons e_int l_nil)))) (l_cons (e_tup (l_cons e_int (l_cons (v3 1) (l_cons e_int l_nil)))) l_nil)))))) s_nil) (s_one (s_retO (o_hand (v3 2) (v3 3))))))), ?_⟩)
  rintro as k hl ⟨rfl, hk⟩
  refine at3 (r := [.bag, .val (.int 6), .no, .no]) rfl ?_
  refine ⟨_, rfl, by decide, by decide, by show 3 ≤ sizeLine; decide, ?_⟩
  refine compG_gen (Pp := GP 6) (fs := [.bag, .val (.int 6)]) (fun d hd k2 hk2 => ?_) (fun ps hl3 hps => ?_)
  · exact ⟨rfl, _, rfl, rfl, rfl, hk2⟩
  obtain ⟨p, q, r, rfl⟩ : ∃ p q r, ps = [p, q, r] := by
    match ps, hl3 with
    | [p, q, r], _ => exact ⟨p, q, r, rfl⟩
  have M : ∀ x ∈ [p, q, r], BP 4000 x := fun x hx => (hps x hx).bp.mono (by decide)
  refine ⟨_, rfl, ?_⟩
  refine ⟨_, rfl, _, _, _, .inr rfl, rfl, rfl, ?_⟩
  refine ⟨_, rfl, _, _, _, .inr rfl, rfl, rfl, ?_⟩
  refine ⟨_, rfl, _, _, _, .inr rfl, rfl, rfl, ?_⟩
  refine ⟨rfl, p, q, r, rfl, M p (by simp), M q (by simp), M r (by simp), ?_⟩
  dsimp only [fzR]
  walk_at "wd"
  refine iteD (fun g => ?_) (fun g => ?_)
  · refine ⟨by show 3 ≤ sizeLine; decide, ?_⟩
    refine ⟨_, rfl, by show 3 ≤ sizeLine; decide, ?_⟩
    refine ⟨_, rfl, by show 3 ≤ sizeLine; decide, by show 3 ≤ sizeLine; decide, ?_⟩
    refine hk [(0, 0, 1), (6, 1, 1), (1, 6, 1)] rfl (cvx3 (by decide)) fun x hx => ?_
    have s : ∀ a b n : Int, 0 < n → Int.gcd (Int.gcd a b : Nat) n = 1 → intBits a ≤ 6 → intBits b ≤ 6 → intBits n ≤ 6 → GP 6 (a, b, n) := fun a b n h1 h2 h3 h4 h5 => ⟨⟨h1, h2⟩, h3, h4, h5⟩
    rcases List.mem_cons.mp hx with rfl | hx
    · exact s _ _ _ (by decide) (by decide) (by decide) (by decide) (by decide)
    rcases List.mem_cons.mp hx with rfl | hx
    · exact s _ _ _ (by decide) (by decide) (by decide) (by decide) (by decide)
    rcases List.mem_cons.mp hx with rfl | hx
    · exact s _ _ _ (by decide) (by decide) (by decide) (by decide) (by decide)
    · simp at hx
  · refine ⟨_, rfl, _, rfl, _, rfl, ?_, _, rfl, ?_⟩
    · rcases sg_cases (det3 p q r) with z | z | z
      · exact .inl z
      · exact .inr z
      · exact absurd z g
    rcases sg_cases (det3 p q r) with z | z | z
    · rw [z]
      exact hk [p, q, r] rfl (cvx3 z) hps
    · rw [z]
      refine hk [r, q, p] rfl (cvx3 (by rw [det3_rev, sg_neg, z]; rfl)) fun x hx => hps x ?_
      simp at hx ⊢
      rcases hx with rfl | rfl | rfl <;> simp
    · exact absurd z g

theorem sc_law_bulging : FnScope ["_law_bag_here", "_law_most", "_law_ring", "_law_k", "_law_p", "_law_at_end", "_law_more"] ["_law_bag_here", "_law_most"] (defScope s_law_bulging) := ⟨rfl, rfl, rfl, by decide +kernel, rfl, by decide +kernel, by decide +kernel⟩

def F_bulgS : FS := fun as k =>  as = [.bag, .val (.int 6)] ∧ ∀ ps : List P3, ps.length ≤ 5 → Cvx ps → (∀ p ∈ ps, GP 6 p) → k (.val (.lst (ps.map dP)))
theorem ok_bulgS {P : Program} {w : World} {K : PySem.W.Frag} {mg : Str → Option Value} {base : Heap} (B : Blts mg)   (F : Fnd K mg "_law_bulging" s_law_bulging ["_law_bag_here", "_law_most"]) (c_law_three : Cal P w K mg base "_law_three" ["_law_bag_here", "_law_most"] 4 (Con K 2 F_threeM)) (c_law_digit : Cal P w K mg base "_law_digit" ["_law_bag_here", "_law_many"] 1 (Con K 2 (F_draw 400))) (c_law_place : Cal P w K mg base "_law_place" ["_law_bag_here", "_law_most"] 3 (Con K 2 F_placeS)) (c_law_is_convex : Cal P w K mg base "_law_is_convex" ["_law_ring"] 4 (Con K 1 F_cvxM)) :
    Cal P w K mg base "_law_bulging" ["_law_bag_here", "_law_most"] 5 (Con K 2 F_bulgS) := by
  refine def3 (lv := 4) F sc_law_bulging rfl (fun f cdv A outer s H E hr => ⟨_, (s_cons (s_set (i := 2) sc_law_bulging.nd rfl (Or.inl rfl) (e_call c_law_three hr (by rfl) (a_bag 0 (a_val (v3 1) a_nil)))) (s_cons (s_for PassesOwn.never rfl (i_rng (e_call c_law_digit hr (by rfl) (a_bag 0 (a_val e_int a_nil))) (by rfl) B.range_) (g_name (i := 3) sc_law_bulging.nd rfl (Or.inl rfl)) (s_cons (s_set (i := 4) sc_law_bulging.nd rfl (Or.inl rfl) (e_call c_law_place hr (by rfl) (a_bag 0 (a_val (v3 1) a_nil)))) (s_one (s_for PassesOwn.never rfl (i_rng (e_len (v3 2) (by rfl) B.len_) (by rfl) B.range_) (g_name (i := 5) sc_law_bulging.nd rfl (Or.inl rfl)) (s_cons (s_set (i := 6) sc_law_bulging.nd rfl (Or.inl rfl) (o_e (o_cat (o_e (o_cat (o_e (o_slice (v3 2) p_none (p_some (v3 5)))) (o_e (o_lst (l_cons (v3 4) l_nil))))) (o_e (o_slice (v3 2) (p_some (v3 5)) p_none))))) (s_one (s_if (t_val (e_call c_law_is_convex hr (by rfl) (a_val (v3 6) a_nil))) (s_cons (s_set (i := 2) sc_law_bulging.nd rfl (Or.inl rfl) (v3 6)) (s_one s_break)) s_nil))))))) (s_one (s_ret (v3 2))))), ?_⟩)
  rintro as k hl ⟨rfl, hk⟩
  refine at3 (r := [.bag, .val (.int 6), .no, .no, .no, .no, .no]) rfl ?_
  refine ⟨rfl, _, rfl, rfl, rfl, fun ps hl hc hps => ?_⟩
  dsimp only [fzR]
  refine mid4 (fun ρ => ∃ (ps : List P3) (v3 v4 v5 v6 : Sl), ρ = [.bag, .val (.int 6), .val (.lst (ps.map dP)), v3, v4, v5, v6] ∧ ps.length ≤ 5 ∧ Cvx ps ∧ ∀ p ∈ ps, GP 6 p) ?_ (fun N kk => ?_)
  · rintro ρ ⟨ps, v3, v4, v5, v6, rfl, hl, hc, hps⟩
    exact ⟨_, rfl, hk ps hl hc hps⟩
  refine ⟨rfl, rfl, 3, rfl, by decide, by decide +kernel, fun r r0 r1 => ?_⟩
  refine ⟨_, rfl, by omega, by omega, ?_⟩
  refine forR_rng (fun i ρ => ∃ (ps : List P3) (v3 v4 v5 v6 : Sl), ρ = [.bag, .val (.int 6), .val (.lst (ps.map dP)), v3, v4, v5, v6] ∧ ps.length ≤ 3 + i ∧ Cvx ps ∧ ∀ p ∈ ps, GP 6 p) ⟨ps, _, _, _, _, rfl, by omega, hc, hps⟩ ?_ ?_
  · clear hl hc hps ps
    rintro i ρ hi ⟨ps, v3, v4, v5, v6, rfl, hl, hc, hps⟩ N kk
    refine ⟨rfl, _, rfl, rfl, rfl, fun p hp => ?_⟩
    dsimp only [fzR]
    refine ⟨_, rfl, _, rfl, _, rfl, by omega, by rw [List.length_map]; omega, ?_⟩
    rw [List.length_map, show ((ps.length : Nat) : Int).toNat = ps.length by omega]
    refine forR_rng (fun j ρ => ∃ v5 v6, ρ = [.bag, .val (.int 6), .val (.lst (ps.map dP)), .val (.int i), .val (dP p), v5, v6]) ⟨_, _, rfl⟩ ?_ ?_
    · rintro j ρ hj ⟨v5, v6, rfl⟩ N2 kk2
      have big : 1000 ≤ sizeLine := by decide
      have e1 : cutL (ps.map dP) none (some (j : Int)) = (ps.take j).map dP := by rw [cutL_take (by omega) (by rw [List.length_map]; omega), ← List.map_take]; rfl
      have e2 : cutL (ps.map dP) (some (j : Int)) none = (ps.drop j).map dP := by rw [cutL_drop (by omega) (by rw [List.length_map]; omega), ← List.map_drop]; rfl
      have em : (ps.take j).map dP ++ [dP p] ++ (ps.drop j).map dP = (ps.take j ++ p :: ps.drop j).map dP := by simp
      walk_at "w"
      rw [e1]
      refine ⟨by simp only [List.length_map, List.length_take, List.length_cons, List.length_nil]; omega, ?_⟩
      refine ⟨_, rfl, _, rfl, _, rfl, _, rfl, _, _, rfl, rfl, by rw [e2]; simp only [List.length_append, List.length_map, List.length_take, List.length_drop, List.length_cons, List.length_nil]; omega, ?_⟩
      dsimp only
      rw [e2, em]
      have inm : ∀ x ∈ ps.take j ++ p :: ps.drop j, GP 6 x := fun x hx => by
        rcases List.mem_append.mp hx with h | h
        · exact hps x (List.mem_of_mem_take h)
        · rcases List.mem_cons.mp h with rfl | h
          · exact hp
          · exact hps x (List.mem_of_mem_drop h)
      have lm : (ps.take j ++ p :: ps.drop j).length = ps.length + 1 := by simp only [List.length_append, List.length_take, List.length_drop, List.length_cons]; omega
      generalize ps.take j ++ p :: ps.drop j = qs at *
      refine ⟨_, rfl, rfl, qs, rfl, by omega, fun x hx => (inm x hx).mono (by decide), fun b hb => ⟨_, rfl, ?_⟩⟩
      cases b with
      | true => exact ⟨_, rfl, kk _ ⟨qs, _, _, _, _, rfl, by omega, hb.mp rfl, inm⟩⟩
      | false => exact kk2 _ ⟨_, _, rfl⟩
    · rintro ρ ⟨v5, v6, rfl⟩
      exact kk _ ⟨ps, _, _, _, _, rfl, by omega, hc, hps⟩
  · rintro ρ ⟨ps, v3, v4, v5, v6, rfl, hl, hc, hps⟩
    exact kk _ ⟨ps, _, _, _, _, rfl, by omega, hc, hps⟩

theorem sc_law_spot : FnScope ["_law_bag_here", "_law_most", "_law_n"] ["_law_bag_here", "_law_most"] (defScope s_law_spot) := ⟨rfl, rfl, rfl, by decide +kernel, rfl, by decide +kernel, by decide +kernel⟩

def F_spotS : FS := fun as k =>  as = [.bag, .val (.int 6)] ∧ ∀ p : P3, GP 64 p → k (.val (dP p))
theorem ok_spotS {P : Program} {w : World} {K : PySem.W.Frag} {mg : Str → Option Value} {base : Heap} (B : Blts mg)   (F : Fnd K mg "_law_spot" s_law_spot ["_law_bag_here", "_law_most"]) (c_law_digit : Cal P w K mg base "_law_digit" ["_law_bag_here", "_law_many"] 1 (Con K 2 (F_draw 400))) (c_law_point : Cal P w K mg base "_law_point" ["_law_a", "_law_b", "_law_n"] 2 (Con K 3 F_ptC)) :
    Cal P w K mg base "_law_spot" ["_law_bag_here", "_law_most"] 3 (Con K 2 F_spotS) := by
  refine def3 (lv := 2) F sc_law_spot rfl (fun f cdv A outer s H E hr => ⟨_, (s_cons (s_set (i := 2) sc_law_spot.nd rfl (Or.inl rfl) (e_add e_int (e_call c_law_digit hr (by rfl) (a_bag 0 (a_val e_int a_nil))))) (s_one (s_ret (e_call c_law_point hr (by rfl) (a_val (e_sub (e_call c_law_digit hr (by rfl) (a_bag 0 (a_val (e_add (e_mul (e_add (v3 1) e_int) (v3 2)) e_int) a_nil))) (v3 2)) (a_val (e_sub (e_call c_law_digit hr (by rfl) (a_bag 0 (a_val (e_add (e_mul (e_add (v3 1) e_int) (v3 2)) e_int) a_nil))) (v3 2)) (a_val (v3 2) a_nil))))))), ?_⟩)
  rintro as k hl ⟨rfl, hk⟩
  refine at3 (r := [.bag, .val (.int 6), .no]) rfl ?_
  walk_at "w"
  intro r r0 r1
  walk_at "w"
  intro x x0 x1
  walk_at "w"
  intro y y0 y1
  walk_at "w"
  refine ⟨_, _, _, rfl, by omega, by walk_at "bits", ?_⟩
  exact hk (nP (x - (1 + r), y - (1 + r), 1 + r)) ⟨nP_pt (p := (x - (1 + r), y - (1 + r), 1 + r)) (by show 1 + r ≠ 0; omega), BP.nP (p := (x - (1 + r), y - (1 + r), 1 + r)) ⟨bits_om (x := x - (1 + r)) (by omega) (by omega), bits_om (x := y - (1 + r)) (by omega) (by omega), bits_om (x := 1 + r) (by omega) (by omega)⟩ (by show 1 + r ≠ 0; omega)⟩

theorem sc_law_mixed : FnScope ["_law_ring", "_law_bag_here", "_law_found", "_law_weights", "_law_p", "_law_weight"] ["_law_ring", "_law_bag_here"] (defScope s_law_mixed) := ⟨rfl, rfl, rfl, by decide +kernel, rfl, by decide +kernel, by decide +kernel⟩

def F_mixS : FS := fun as k => ∃ (ps : List P3), as = [.val (.lst (ps.map dP)), .bag] ∧ (1 ≤ ps.length) ∧ (ps.length ≤ 33) ∧ (∀ p ∈ ps, GP 90 p) ∧ ∀ p : P3, GP 4000 p → k (.val (dP p))
theorem ok_mixS {P : Program} {w : World} {K : PySem.W.Frag} {mg : Str → Option Value} {base : Heap} (B : Blts mg)   (F : Fnd K mg "_law_mixed" s_law_mixed ["_law_ring", "_law_bag_here"]) (c_law_digit : Cal P w K mg base "_law_digit" ["_law_bag_here", "_law_many"] 1 (Con K 2 (F_draw 400))) (c_law_slid : Cal P w K mg base "_law_slid" ["_law_p", "_law_v"] 3 (Con K 2 F_slidM)) (c_law_point : Cal P w K mg base "_law_point" ["_law_a", "_law_b", "_law_n"] 2 (Con K 3 F_ptC)) :
    Cal P w K mg base "_law_mixed" ["_law_ring", "_law_bag_here"] 4 (Con K 2 F_mixS) := by
  refine def3 (lv := 3) F sc_law_mixed rfl (fun f cdv A outer s H E hr => ⟨_, (s_cons (s_set (i := 2) sc_law_mixed.nd rfl (Or.inl rfl) (e_tup (l_cons e_int (l_cons e_int (l_cons e_int l_nil))))) (s_cons (s_set (i := 3) sc_law_mixed.nd rfl (Or.inl rfl) e_int) (s_cons (s_for PassesOwn.never rfl (i_list (v3 0)) (g_name (i := 4) sc_law_mixed.nd rfl (Or.inl rfl)) (s_cons (s_set (i := 5) sc_law_mixed.nd rfl (Or.inl rfl) (e_add e_int (e_call c_law_digit hr (by rfl) (a_bag 1 (a_val e_int a_nil))))) (s_cons (s_set (i := 2) sc_law_mixed.nd rfl (Or.inl rfl) (e_call c_law_slid hr (by rfl) (a_val (v3 2) (a_val (e_call c_law_point hr (by rfl) (a_val (e_mul (e_ix (v3 4) e_int (fun _ _ => rfl)) (v3 5)) (a_val (e_mul (e_ix (v3 4) e_int (fun _ _ => rfl)) (v3 5)) (a_val (e_ix (v3 4) e_int (fun _ _ => rfl)) a_nil)))) a_nil)))) (s_one (s_aug (i := 3) sc_law_mixed.nd rfl (Or.inl rfl) (v3 5)))))) (s_one (s_ret (e_call c_law_point hr (by rfl) (a_val (e_ix (v3 2) e_int (fun _ _ => rfl)) (a_val (e_ix (v3 2) e_int (fun _ _ => rfl)) (a_val (e_mul (e_ix (v3 2) e_int (fun _ _ => rfl)) (v3 3)) a_nil))))))))), ?_⟩)
  rintro as k hl ⟨ps, rfl, l1, hl, hps, hk⟩
  refine at3 (r := [.val (.lst (ps.map dP)), .bag, .no, .no, .no, .no]) rfl ?_
  walk_at "wd"
  refine forR_map (f := dP) (done := []) (fun pre ρ => ∃ (v4 v5 : Sl) (P : P3) (w : Int), ρ = [.val (.lst (ps.map dP)), .bag, .val (dP P), .val (.int w), v4, v5] ∧ GP (100 * pre.length + 1) P ∧ (pre.length : Int) ≤ w ∧ w ≤ 61 * pre.length) ⟨_, _, (0, 0, 1), 0, rfl, ⟨⟨(show (0 : Int) < 1 by decide), by decide⟩, (show intBits 0 ≤ _ by decide), (show intBits 0 ≤ _ by decide), (show intBits 1 ≤ _ by decide)⟩, by simp, by simp⟩ ?_ ?_
  · rintro pre x rest ρ hpre ⟨v4, v5, P, w, rfl, hP, w0, w1⟩ N kk
    have hpre : ps = pre ++ x :: rest := by simpa using hpre
    have hx : x ∈ ps := by rw [hpre]; simp
    have hpl : pre.length < 33 := by have := congrArg List.length hpre; simp at this; omega
    have gx := hps x hx
    refine ⟨rfl, rfl, 61, rfl, by decide, by decide +kernel, fun d d0 d1 => ?_⟩
    refine ⟨_, _, rfl, rfl, ?_⟩
    have h1 := gx.bp.a
    have h2 := gx.bp.b
    have h3 := gx.bp.c
    have h4 : intBits (1 + d) ≤ 6 := bits06 (by omega) (by omega)
    walk_at "w"
    refine ⟨_, _, _, rfl, gx.pt.1, by walk_at "bits", ?_⟩
    dsimp only [fzR]
    have gg : GP 96 (npt (x.1 * (1 + d)) (x.2.1 * (1 + d)) x.2.2) := ⟨nP_pt (p := (x.1 * (1 + d), x.2.1 * (1 + d), x.2.2)) (Int.ne_of_gt gx.pt.1), BP.nP (p := (x.1 * (1 + d), x.2.1 * (1 + d), x.2.2)) ⟨intBits_mul_le h1 h4, intBits_mul_le h2 h4, Nat.le_trans h3 (by decide)⟩ (Int.ne_of_gt gx.pt.1)⟩
    refine ⟨rfl, P, _, rfl, hP.mono (by omega), gg.mono (by decide), ?_⟩
    dsimp only [fzR]
    refine ⟨_, rfl, _, rfl, _, rfl, kk _ ⟨.val (dP x), .val (.int (1 + d)), _, _, rfl, (gg.sl hP).mono (by rw [List.length_append, List.length_singleton]; omega), ?_, ?_⟩⟩
    · rw [List.length_append, List.length_singleton]; push_cast; omega
    · rw [List.length_append, List.length_singleton]; push_cast; omega
  rintro ρ ⟨v4, v5, P, w, rfl, hP, w0, w1⟩
  have w0 : (ps.length : Int) ≤ w := w0
  have w1 : w ≤ 61 * ps.length := w1
  have hP : GP 3301 P := hP.mono (by rw [List.nil_append]; omega)
  have h1 := hP.bp.a
  have h2 := hP.bp.b
  have h3 := hP.bp.c
  have h4 : intBits w ≤ 64 := bits_om (x := w) (by omega) (by omega)
  have pw := Int.mul_pos hP.pt.1 (show 0 < w by omega)
  walk_at "w"
  refine ⟨_, _, _, rfl, pw, by walk_at "bits", ?_⟩
  exact hk _ ⟨nP_pt (p := (P.1, P.2.1, P.2.2 * w)) (Int.ne_of_gt pw), BP.nP (p := (P.1, P.2.1, P.2.2 * w)) ⟨Nat.le_trans h1 (by decide), Nat.le_trans h2 (by decide), Nat.le_trans (intBits_mul_le h3 h4) (by decide)⟩ (Int.ne_of_gt pw)⟩

theorem sc_law_second : FnScope ["_law_ring", "_law_bag_here", "_law_way", "_law_step_here", "_law_p", "_law_q"] ["_law_ring", "_law_bag_here"] (defScope s_law_second) := ⟨rfl, rfl, rfl, by decide +kernel, rfl, by decide +kernel, by decide +kernel⟩

def F_secS : FS := fun as k => ∃ (ps : List P3), as = [.val (.lst (ps.map dP)), .bag] ∧ (ps.length ≤ 5) ∧ (Cvx ps) ∧ (∀ p ∈ ps, GP 6 p) ∧ ∀ qs : List P3, qs.length ≤ 5 → Cvx qs → (∀ p ∈ qs, GP 20 p) → k (.val (.lst (qs.map dP)))
theorem ok_secS {P : Program} {w : World} {K : PySem.W.Frag} {mg : Str → Option Value} {base : Heap} (B : Blts mg)   (F : Fnd K mg "_law_second" s_law_second ["_law_ring", "_law_bag_here"]) (c_law_digit : Cal P w K mg base "_law_digit" ["_law_bag_here", "_law_many"] 1 (Con K 2 (F_draw 400))) (c_law_step : Cal P w K mg base "_law_step" ["_law_bag_here", "_law_most"] 3 (Con K 2 F_stepS)) (c_law_slid : Cal P w K mg base "_law_slid" ["_law_p", "_law_v"] 3 (Con K 2 F_slidM)) (c_law_turned : Cal P w K mg base "_law_turned" ["_law_p"] 2 (Con K 1 F_turnC)) (c_law_bulging : Cal P w K mg base "_law_bulging" ["_law_bag_here", "_law_most"] 5 (Con K 2 F_bulgS)) :
    Cal P w K mg base "_law_second" ["_law_ring", "_law_bag_here"] 6 (Con K 2 F_secS) := by
  refine def3 (lv := 5) F sc_law_second rfl (fun f cdv A outer s H E hr => ⟨_, (s_cons (s_set (i := 2) sc_law_second.nd rfl (Or.inl rfl) (e_call c_law_digit hr (by rfl) (a_bag 1 (a_val e_int a_nil)))) (s_cons (s_if (t_cmp (f := fun i j => decide (i = j)) op_eqI (v3 2) e_int (nomark _)) (s_one (s_ret (o_e (o_copy (v3 0) (by rfl) B.list_)))) s_nil) (s_cons (s_if (t_cmp (f := fun i j => decide (i = j)) op_eqI (v3 2) e_int (nomark _)) (s_cons (s_set (i := 3) sc_law_second.nd rfl (Or.inr rfl) (e_call c_law_step hr (by rfl) (a_bag 1 (a_val e_int a_nil)))) (s_one (s_ret (o_e (o_compG (ts := ["_law_p"]) (fr := ["_law_step_here"]) (js := [3]) (i_list (v3 0)) (fun _ _ _ _ => (g_name (i := 0) (show List.Nodup (["_law_p", "_law_step_here"] : List Str) by decide +kernel) rfl (Or.inl rfl))) (fun _ _ _ _ => ifs_nil) (fun _ _ _ _ => (e_call c_law_slid hr (by rfl) (a_val (v3 0) (a_val (v3 1) a_nil)))) ⟨rfl, by decide +kernel, rfl, by decide +kernel, fsub_of (List.forall_mem_cons.mpr ⟨rfl, (List.forall_mem_nil _)⟩), fhas_b rfl, by walk_at "ffr", rfl⟩))))) s_nil) (s_cons (s_if (t_cmp (f := fun i j => decide (i = j)) op_eqI (v3 2) e_int (nomark _)) (s_cons (s_set (i := 4) sc_law_second.nd rfl (Or.inl rfl) (e_ix (v3 0) (e_call c_law_digit hr (by rfl) (a_bag 1 (a_val (e_len (v3 0) (by rfl) B.len_) a_nil))) (fun _ _ => rfl))) (s_cons (s_set (i := 5) sc_law_second.nd rfl (Or.inl rfl) (e_ix (v3 0) (e_call c_law_digit hr (by rfl) (a_bag 1 (a_val (e_len (v3 0) (by rfl) B.len_) a_nil))) (fun _ _ => rfl))) (s_cons (s_set (i := 3) sc_law_second.nd rfl (Or.inr rfl) (e_call c_law_slid hr (by rfl) (a_val (v3 4) (a_val (e_call c_law_turned hr (by rfl) (a_val (v3 5) a_nil)) a_nil)))) (s_one (s_ret (o_e (o_compG (ts := ["_law_r"]) (fr := ["_law_step_here"]) (js := [3]) (i_list (v3 0)) (fun _ _ _ _ => (g_name (i := 0) (show List.Nodup (["_law_r", "_law_step_here"] : List Str) by decide +kernel) rfl (Or.inl rfl))) (fun _ _ _ _ => ifs_nil) (fun _ _ _ _ => (e_call c_law_slid hr (by rfl) (a_val (v3 0) (a_val (v3 1) a_nil)))) ⟨rfl, by decide +kernel, rfl, by decide +kernel, fsub_of (List.forall_mem_cons.mpr ⟨rfl, (List.forall_mem_nil _)⟩), fhas_b rfl, by walk_at "ffr", rfl⟩))))))) s_nil) (s_one (s_ret (e_call c_law_bulging hr (by rfl) (a_bag 1 (a_val e_int a_nil))))))))), ?_⟩)
  rintro as k hl ⟨ps, rfl, hl, hc, hps, hk⟩
  refine at3 (r := [.val (.lst (ps.map dP)), .bag, .no, .no, .no, .no]) rfl ?_
  have big : 1000 ≤ sizeLine := by decide
  have hpt : ∀ p ∈ ps, PtP p := fun p hp => (hps p hp).pt
  have l3 := hc.1
  have slide : ∀ g : P3, GP 13 g → ∀ {k : D → Prop}, (k (.lst ((ps.map fun p => nP (sld g p)).map dP))) → (k (.lst (ps.map fun p => dP (nP (sld g p))))) := fun g hg k h => by rw [map_dP (fun p => nP (sld g p))]; exact h
  have fin : ∀ g : P3, GP 13 g → k (.val (.lst ((ps.map fun p => nP (sld g p)).map dP))) := fun g hg => hk _ (by rw [List.length_map]; exact hl) (hc.sl hg.pt hpt) fun p hp => by
    obtain ⟨q, hq, rfl⟩ := List.mem_map.mp hp
    exact (hg.sl (hps q hq)).mono (by decide)
  have dig : ∀ {k : Sl → Prop}, (∀ j : Int, 0 ≤ j → j < ps.length → k (.val (.int j))) → F_draw 400 [.bag, .val (.int ((ps.map dP).length : Nat))] k := fun h => by
    refine ⟨_, rfl, by rw [List.length_map]; omega, Nat.le_trans (bits_om (x := ((ps.map dP).length : Int)) (by rw [List.length_map]; omega) (by rw [List.length_map]; omega)) (by decide), fun j j0 j1 => h j j0 (by rw [List.length_map] at j1; exact j1)⟩
  have an : ∀ j : Int, 0 ≤ j → j < ps.length → atI (ps.map dP) j = some (dP (nth ps j.toNat)) ∧ nth ps j.toNat ∈ ps := fun j j0 j1 => by
    have ej : ((j.toNat : Nat) : Int) = j := by omega
    have ln2 : j.toNat < ps.length := by omega
    have := atI_nth ln2
    rw [ej] at this
    exact ⟨this, nth_mem ln2⟩
  walk_at "wd"
  intro r r0 r1
  by_cases g0 : r = 0
  · refine ⟨_, rfl, _, _, rfl, rfl, _, rfl, iteD (fun _ => ?_) (fun g => absurd g0 g)⟩
    exact ⟨_, rfl, _, .inl rfl, hk ps hl hc fun p hp => (hps p hp).mono (by decide)⟩
  refine pass4 (fun N kk => ⟨_, rfl, _, _, rfl, rfl, _, rfl, iteD (fun g => absurd g g0) (fun _ => kk)⟩) ?_
  by_cases g1 : r = 1
  · refine ⟨_, rfl, _, _, rfl, rfl, _, rfl, iteD (fun _ => ?_) (fun g => absurd g1 g)⟩
    refine ⟨rfl, rfl, 6, rfl, .inl rfl, fun g hg => ?_⟩
    dsimp only [fzR]
    have hg : GP 13 g := hg.mono (by decide)
    refine ⟨_, rfl, _, rfl, by rw [List.length_map]; omega, ?_⟩
    refine compG_map (f := dP) (h := fun p => dP (nP (sld g p))) (fs := [.val (dP g)]) (fun r hr k3 hk3 => ⟨_, rfl, _, rfl, rfl, r, g, rfl, (hps r hr).mono (by decide), hg.mono (by decide), hk3⟩) ?_
    rw [map_dP (fun p => nP (sld g p))]
    exact fin g hg
  refine pass4 (fun N kk => ⟨_, rfl, _, _, rfl, rfl, _, rfl, iteD (fun g => absurd g g1) (fun _ => kk)⟩) ?_
  by_cases g2 : r = 2
  · refine ⟨_, rfl, _, _, rfl, rfl, _, rfl, iteD (fun _ => ?_) (fun g => absurd g2 g)⟩
    refine ⟨_, rfl, rfl, _, rfl, _, rfl, rfl, dig fun j j0 j1 => ?_⟩
    obtain ⟨a1, a2⟩ := an j j0 j1
    refine ⟨_, _, _, .inr rfl, rfl, a1, ?_⟩
    refine ⟨_, rfl, rfl, _, rfl, _, rfl, rfl, dig fun i i0 i1 => ?_⟩
    obtain ⟨b1, b2⟩ := an i i0 i1
    refine ⟨_, _, _, .inr rfl, rfl, b1, ?_⟩
    generalize nth ps j.toNat = p at *
    generalize nth ps i.toNat = q at *
    refine ⟨_, rfl, _, rfl, rfl, q, rfl, ?_⟩
    dsimp only [fzR]
    have hg : GP 13 (nP (sld (trn q) p)) := ((hps q b2).trn.sl (hps p a2)).mono (by decide)
    refine ⟨rfl, p, trn q, rfl, (hps p a2).mono (by decide), (hps q b2).trn.mono (by decide), ?_⟩
    dsimp only [fzR]
    generalize nP (sld (trn q) p) = g at *
    refine ⟨_, rfl, _, rfl, by rw [List.length_map]; omega, ?_⟩
    refine compG_map (f := dP) (h := fun p => dP (nP (sld g p))) (fs := [.val (dP g)]) (fun r hr k3 hk3 => ⟨_, rfl, _, rfl, rfl, r, g, rfl, (hps r hr).mono (by decide), hg.mono (by decide), hk3⟩) ?_
    rw [map_dP (fun p => nP (sld g p))]
    exact fin g hg
  refine pass4 (fun N kk => ⟨_, rfl, _, _, rfl, rfl, _, rfl, iteD (fun g => absurd g g2) (fun _ => kk)⟩) ?_
  exact ⟨rfl, rfl, rfl, fun qs ql qc qps => hk qs ql qc fun p hp => (qps p hp).mono (by decide)⟩

theorem sc_greatest_divisor : FnScope ["one", "other"] ["one", "other"] (defScope s_greatest_divisor) := ⟨rfl, rfl, rfl, by decide +kernel, rfl, by decide +kernel, by decide +kernel⟩

def F_greatest_divisor : FS := fun as k => ∃ (a b : Int), as = [.val (.int a), .val (.int b)] ∧ k (.val (.int (Int.gcd a b : Nat)))
theorem ok_greatest_divisor {P : Program} {w : World} {K : PySem.W.Frag} {mg : Str → Option Value} {base : Heap} (B : Blts mg)   (F : Fnd K mg "greatest_divisor" s_greatest_divisor ["one", "other"])  :
    Cal P w K mg base "greatest_divisor" ["one", "other"] 2 (Con K 2 F_greatest_divisor) := by
  refine def3 (lv := 1) F sc_greatest_divisor rfl (fun f cdv A outer s H E hr => ⟨_, (s_cons (s_set (i := 0) sc_greatest_divisor.nd rfl (Or.inl rfl) (e_abs (v3 0) (by rfl) B.abs_)) (s_cons (s_set (i := 1) sc_greatest_divisor.nd rfl (Or.inl rfl) (e_abs (v3 1) (by rfl) B.abs_)) (s_cons (s_while PassesOwn.never (t_cmp (f := fun i j => !decide (i = j)) op_neI (v3 1) e_int (nomark _)) (s_one (s_par (i := 0) (j := 1) rfl sc_greatest_divisor.nd rfl rfl (by decide) rfl rfl (l_cons (v3 1) (l_cons (e_mod (v3 0) (v3 1)) l_nil)) rfl))) (s_one (s_ret (v3 0)))))), ?_⟩)
  rintro as k hl ⟨a, b, rfl, hk⟩
  refine at3 (r := [.val (.int a), .val (.int b)]) rfl ?_
  walk_at "wd"
  refine ⟨fun m ρ => ∃ (x y : Int), ρ = [.val (.int x), .val (.int y)] ∧ 0 ≤ x ∧ 0 ≤ y ∧ Int.gcd x y = Int.gcd a b ∧ m = y.toNat, ⟨_, _, _, rfl, ?_, ?_, gcd_abs a b, rfl⟩, ?_⟩
  · split <;> omega
  · split <;> omega
  rintro m ρ ⟨x, y, rfl, x0, y0, hg, rfl⟩
  walk_at "wd"
  refine iteDn (fun g => ?_) (fun g => ?_)
  · have g : 0 < y := by omega
    walk_at "wd"
    have m0 := Int.emod_nonneg x (show y ≠ 0 by omega)
    have m1 := Int.emod_lt_of_pos x g
    exact ⟨_, _, rfl, _, by omega, _, _, rfl, y0, m0, by rw [gcd_step x0 g]; exact hg, rfl⟩
  · subst g
    refine ⟨_, rfl, ?_⟩
    rw [← gcd_zero_left x0, hg]
    exact hk

theorem sc_point : FnScope ["a", "b", "n", "divisor"] ["a", "b", "n"] (defScope s_point) := ⟨rfl, rfl, rfl, by decide +kernel, rfl, by decide +kernel, by decide +kernel⟩

def F_point : FS := fun as k => ∃ (a b n : Int), as = [.val (.int a), .val (.int b), .val (.int n)] ∧ (n ≠ 0) ∧ (intBits n ≤ 9000) ∧ k (.val (dP (npt a b n)))
theorem ok_point {P : Program} {w : World} {K : PySem.W.Frag} {mg : Str → Option Value} {base : Heap} (B : Blts mg)   (F : Fnd K mg "point" s_point ["a", "b", "n"]) (c_greatest_divisor : Cal P w K mg base "greatest_divisor" ["one", "other"] 2 (Con K 2 F_greatest_divisor)) :
    Cal P w K mg base "point" ["a", "b", "n"] 3 (Con K 3 F_point) := by
  refine def3 (lv := 2) F sc_point rfl (fun f cdv A outer s H E hr => ⟨_, (s_cons (s_if (t_cmp (f := fun i j => decide (i = j)) op_eqI (v3 2) e_int (nomark _)) (s_one s_never) s_nil) (s_cons (s_set (i := 3) sc_point.nd rfl (Or.inl rfl) (e_call c_greatest_divisor hr (by rfl) (a_val (e_call c_greatest_divisor hr (by rfl) (a_val (v3 2) (a_val (v3 0) a_nil))) (a_val (v3 1) a_nil)))) (s_cons (s_if (t_cmp (f := fun i j => decide (i < j)) op_lt (v3 2) e_int (nomark _)) (s_one (s_set (i := 3) sc_point.nd rfl (Or.inl rfl) (e_neg (v3 3)))) s_nil) (s_one (s_ret (e_tup (l_cons (e_fdiv (v3 0) (v3 3)) (l_cons (e_fdiv (v3 1) (v3 3)) (l_cons (e_fdiv (v3 2) (v3 3)) l_nil))))))))), ?_⟩)
  rintro as k hl ⟨a, b, n, rfl, hn, bn, hk⟩
  refine at3 (r := [.val (.int a), .val (.int b), .val (.int n), .no]) rfl ?_
  walk_at "wd"
  refine iteD (fun g => absurd g hn) (fun _ => ?_)
  walk_at "w"
  refine ⟨_, _, rfl, ?_⟩
  walk_at "w"
  refine ⟨_, _, rfl, ?_⟩
  dsimp only [fzR]
  have gp := g3_pos (a := a) (b := b) hn
  have gb := g3_bits (a := a) (b := b) hn bn
  rw [g3_na a b n]
  refine mid4 (fun ρ => ρ = [.val (.int a), .val (.int b), .val (.int n), .val (.int (gsp a b n))]) ?_ (fun N kk => ?_)
  · rintro ρ rfl
    have d0 : gsp a b n ≠ 0 := by unfold gsp; split <;> omega
    have db : intBits (gsp a b n) ≤ 9000 := by
      unfold gsp
      split
      · exact intBits_neg_le gb
      · exact gb
    walk_at "w"
    exact hk
  · walk_at "wd"
    refine iteD (fun g => ?_) (fun g => ?_)
    · walk_at "w"
      refine kk _ ?_
      unfold gsp
      rw [if_pos g]
      rfl
    · refine kk _ ?_
      unfold gsp
      rw [if_neg g]
      rfl

theorem sc_crossed : FnScope ["one", "other", "a", "b", "n", "c", "d", "m"] ["one", "other"] (defScope s_crossed) := ⟨rfl, rfl, rfl, by decide +kernel, rfl, by decide +kernel, by decide +kernel⟩

def F_crossed : FS := fun as k => ∃ (p q : P3), as = [.val (dP p), .val (dP q)] ∧ (BP 2000 p) ∧ (BP 2000 q) ∧ k (.val (dP (crs p q)))
theorem ok_crossed {P : Program} {w : World} {K : PySem.W.Frag} {mg : Str → Option Value} {base : Heap} (B : Blts mg)   (F : Fnd K mg "crossed" s_crossed ["one", "other"])  :
    Cal P w K mg base "crossed" ["one", "other"] 2 (Con K 2 F_crossed) := by
  refine def3 (lv := 1) F sc_crossed rfl (fun f cdv A outer s H E hr => ⟨_, (s_cons (s_asg (v3 0) (g_tup (n := 3) rfl (gs_cons (g_name (i := 2) sc_crossed.nd rfl (Or.inl rfl)) (gs_cons (g_name (i := 3) sc_crossed.nd rfl (Or.inl rfl)) (gs_cons (g_name (i := 4) sc_crossed.nd rfl (Or.inl rfl)) gs_nil))))) (s_cons (s_asg (v3 1) (g_tup (n := 3) rfl (gs_cons (g_name (i := 5) sc_crossed.nd rfl (Or.inl rfl)) (gs_cons (g_name (i := 6) sc_crossed.nd rfl (Or.inl rfl)) (gs_cons (g_name (i := 7) sc_crossed.nd rfl (Or.inl rfl)) gs_nil))))) (s_one (s_ret (e_tup (l_cons (e_sub (e_mul (v3 3) (v3 7)) (e_mul (v3 4) (v3 6))) (l_cons (e_sub (e_mul (v3 4) (v3 5)) (e_mul (v3 2) (v3 7))) (l_cons (e_sub (e_mul (v3 2) (v3 6)) (e_mul (v3 3) (v3 5))) l_nil)))))))), ?_⟩)
  rintro as k hl ⟨p, q, rfl, bp, bq, hk⟩
  refine at3 (r := [.val (dP p), .val (dP q), .no, .no, .no, .no, .no, .no]) rfl ?_
  have h1 := bp.a
  have h2 := bp.b
  have h3 := bp.c
  have h4 := bq.a
  have h5 := bq.b
  have h6 := bq.c
  walk_at "w"
  refine ⟨_, _, rfl, _, _, rfl, _, _, rfl, rfl, ?_⟩
  walk_at "w"
  refine ⟨_, _, rfl, _, _, rfl, _, _, rfl, rfl, ?_⟩
  walk_at "w"
  exact hk

theorem sc_hand_of : FnScope ["line", "p", "turn"] ["line", "p"] (defScope s_hand_of) := ⟨rfl, rfl, rfl, by decide +kernel, rfl, by decide +kernel, by decide +kernel⟩

def F_hand_of : FS := fun as k => ∃ (c r : P3), as = [.val (dP c), .val (dP r)] ∧ (BP 2000 c) ∧ (BP 2000 r) ∧ k (.val (.int (sg (c.1 * r.1 + c.2.1 * r.2.1 + c.2.2 * r.2.2))))
theorem ok_hand_of {P : Program} {w : World} {K : PySem.W.Frag} {mg : Str → Option Value} {base : Heap} (B : Blts mg)   (F : Fnd K mg "hand_of" s_hand_of ["line", "p"])  :
    Cal P w K mg base "hand_of" ["line", "p"] 2 (Con K 2 F_hand_of) := by
  refine def3 (lv := 1) F sc_hand_of rfl (fun f cdv A outer s H E hr => ⟨_, (s_cons (s_set (i := 2) sc_hand_of.nd rfl (Or.inl rfl) (e_add (e_add (e_mul (e_ix (v3 0) e_int (fun _ _ => rfl)) (e_ix (v3 1) e_int (fun _ _ => rfl))) (e_mul (e_ix (v3 0) e_int (fun _ _ => rfl)) (e_ix (v3 1) e_int (fun _ _ => rfl)))) (e_mul (e_ix (v3 0) e_int (fun _ _ => rfl)) (e_ix (v3 1) e_int (fun _ _ => rfl))))) (s_cons (s_if (t_cmp (f := fun i j => decide (j < i)) op_gt (v3 2) e_int (nomark _)) (s_one (s_ret e_int)) s_nil) (s_cons (s_if (t_cmp (f := fun i j => decide (i < j)) op_lt (v3 2) e_int (nomark _)) (s_one (s_ret (e_neg e_int))) s_nil) (s_one (s_ret e_int))))), ?_⟩)
  rintro as k hl ⟨c, r, rfl, bc, br, hk⟩
  refine at3 (r := [.val (dP c), .val (dP r), .no]) rfl ?_
  have h1 := bc.a
  have h2 := bc.b
  have h3 := bc.c
  have h4 := br.a
  have h5 := br.b
  have h6 := br.c
  walk_at "wd"
  unfold sg at hk
  refine iteD (fun g => ?_) (fun g => ?_)
  · rw [if_pos g] at hk
    exact hk
  rw [if_neg g] at hk
  walk_at "wd"
  refine iteD (fun g2 => ?_) (fun g2 => ?_)
  · rw [if_pos g2] at hk
    walk_at "w"
    exact hk
  rw [if_neg g2] at hk
  exact hk

theorem sc_meet : FnScope ["p", "q", "r", "s", "a", "b", "n"] ["p", "q", "r", "s"] (defScope s_meet) := ⟨rfl, rfl, rfl, by decide +kernel, rfl, by decide +kernel, by decide +kernel⟩

def F_meet : FS := fun as k => ∃ (p q r s : P3), as = [.val (dP p), .val (dP q), .val (dP r), .val (dP s)] ∧ (BP 700 p) ∧ (BP 700 q) ∧ (BP 700 r) ∧ (BP 700 s) ∧ ((crs (crs p q) (crs r s)).2.2 ≠ 0) ∧ k (.val (dP (nP (crs (crs p q) (crs r s)))))
theorem ok_meet {P : Program} {w : World} {K : PySem.W.Frag} {mg : Str → Option Value} {base : Heap} (B : Blts mg)   (F : Fnd K mg "meet" s_meet ["p", "q", "r", "s"]) (c_crossed : Cal P w K mg base "crossed" ["one", "other"] 2 (Con K 2 F_crossed)) (c_point : Cal P w K mg base "point" ["a", "b", "n"] 3 (Con K 3 F_point)) :
    Cal P w K mg base "meet" ["p", "q", "r", "s"] 4 (Con K 4 F_meet) := by
  refine def3 (lv := 3) F sc_meet rfl (fun f cdv A outer s H E hr => ⟨_, (s_cons (s_asg (e_call c_crossed hr (by rfl) (a_val (e_call c_crossed hr (by rfl) (a_val (v3 0) (a_val (v3 1) a_nil))) (a_val (e_call c_crossed hr (by rfl) (a_val (v3 2) (a_val (v3 3) a_nil))) a_nil))) (g_tup (n := 3) rfl (gs_cons (g_name (i := 4) sc_meet.nd rfl (Or.inl rfl)) (gs_cons (g_name (i := 5) sc_meet.nd rfl (Or.inl rfl)) (gs_cons (g_name (i := 6) sc_meet.nd rfl (Or.inl rfl)) gs_nil))))) (s_cons (s_if (t_cmp (f := fun i j => decide (i = j)) op_eqI (v3 6) e_int (nomark _)) (s_one s_never) s_nil) (s_one (s_ret (e_call c_point hr (by rfl) (a_val (v3 4) (a_val (v3 5) (a_val (v3 6) a_nil)))))))), ?_⟩)
  rintro as k hl ⟨p, q, r, s, rfl, bp, bq, br, bs, hn, hk⟩
  refine at3 (r := [.val (dP p), .val (dP q), .val (dP r), .val (dP s), .no, .no, .no]) rfl ?_
  have b1 := bp.crs bq
  have b2 := br.crs bs
  have b3 := b1.crs b2
  refine ⟨_, rfl, _, rfl, rfl, p, q, rfl, bp.mono (by decide), bq.mono (by decide), ?_⟩
  refine ⟨_, rfl, _, rfl, rfl, r, s, rfl, br.mono (by decide), bs.mono (by decide), ?_⟩
  refine ⟨rfl, _, _, rfl, b1.mono (by decide), b2.mono (by decide), ?_⟩
  generalize crs (crs p q) (crs r s) = m at *
  obtain ⟨x, y, z⟩ := m
  have hn : z ≠ 0 := hn
  have bz : intBits z ≤ 9000 := Nat.le_trans b3.c (by decide)
  refine ⟨_, rfl, rfl, _, _, rfl, _, _, rfl, _, _, rfl, rfl, ?_⟩
  walk_at "wd"
  refine iteD (fun g => absurd g hn) (fun _ => ?_)
  exact ⟨_, rfl, _, rfl, _, rfl, rfl, x, y, z, rfl, hn, bz, hk⟩

theorem sc_cut_ring : FnScope ["ring", "p", "q", "line", "corner", "hands", "left", "right", "place", "after", "between"] ["ring", "p", "q"] (defScope s_cut_ring) := ⟨rfl, rfl, rfl, by decide +kernel, rfl, by decide +kernel, by decide +kernel⟩

def F_cut_ringN : FS := fun as k => ∃ (ps : List P3) (p q : P3), as = [.val (.lst (ps.map dP)), .val (dP p), .val (dP q)] ∧ (BP 300 p) ∧ (BP 300 q) ∧ (∀ c ∈ ps, BP 300 c ∧ PtP c) ∧ (ps.length ≤ 1000) ∧ k (.new (.tup [.lst ((keepR (ln (crs p q)) (mtQ (crs p q)) ps).map dP), .lst ((keepR (fun c => -ln (crs p q) c) (mtQ (crs p q)) ps).map dP)]))
theorem ok_cut_ringN {P : Program} {w : World} {K : PySem.W.Frag} {mg : Str → Option Value} {base : Heap} (B : Blts mg)   (F : Fnd K mg "cut_ring" s_cut_ring ["ring", "p", "q"]) (c_crossed : Cal P w K mg base "crossed" ["one", "other"] 2 (Con K 2 F_crossed)) (c_hand_of : Cal P w K mg base "hand_of" ["line", "p"] 2 (Con K 2 F_hand_of)) (c_meet : Cal P w K mg base "meet" ["p", "q", "r", "s"] 4 (Con K 4 F_meet)) :
    Cal P w K mg base "cut_ring" ["ring", "p", "q"] 5 (Con K 3 F_cut_ringN) := by
  refine def3N (lv := 4) [true, false, false] F sc_cut_ring rfl (fun f cdv A outer s H E hr => ⟨_, (s_cons (s_set (i := 3) sc_cut_ring.nd rfl (Or.inr rfl) (e_call c_crossed hr (by rfl) (a_val (v3 1) (a_val (v3 2) a_nil)))) (s_cons (s_thenFz 5 (s_compAO (i := 5) sc_cut_ring.nd rfl rfl (ts := ["corner"]) (fr := ["line"]) (js := [3]) (i_list (v3 0)) (fun _ _ _ _ => (g_name (i := 0) (show List.Nodup (["corner", "line"] : List Str) by decide +kernel) rfl (Or.inl rfl))) (fun _ _ _ _ => ifs_nil) (fun _ _ _ _ => (e_call c_hand_of hr (by rfl) (a_val (v3 1) (a_val (v3 0) a_nil)))) ⟨rfl, by decide +kernel, rfl, by decide +kernel, fsub_of (List.forall_mem_cons.mpr ⟨rfl, (List.forall_mem_nil _)⟩), fhas_b rfl, by walk_at "ffr", rfl⟩)) (s_cons (s_setO (i := 6) sc_cut_ring.nd rfl (Or.inl rfl) (o_lst l_nil)) (s_cons (s_setO (i := 7) sc_cut_ring.nd rfl (Or.inl rfl) (o_lst l_nil)) (s_cons (s_forEO 0 PassesOwn.never rfl (by rfl) B.enumerate_ (g_tup (n := 2) rfl (gs_cons (g_name (i := 8) sc_cut_ring.nd rfl (Or.inl rfl)) (gs_cons (g_name (i := 4) sc_cut_ring.nd rfl (Or.inl rfl)) gs_nil))) (s_cons (s_if (t_cmp (f := fun i j => decide (j ≤ i)) op_ge (e_ix (v3 5) (v3 8) (fun _ _ => rfl)) e_int (nomark _)) (s_one (s_app 6 (v3 4))) s_nil) (s_cons (s_if (t_cmp (f := fun i j => decide (i ≤ j)) op_le (e_ix (v3 5) (v3 8) (fun _ _ => rfl)) e_int (nomark _)) (s_one (s_app 7 (v3 4))) s_nil) (s_cons (s_set (i := 9) sc_cut_ring.nd rfl (Or.inl rfl) (e_look (e_mod (e_add (v3 8) e_int) (e_len (v3 0) (by rfl) B.len_)))) (s_one (s_if (t_cmp (f := fun i j => decide (i < j)) op_lt (e_mul (e_ix (v3 5) (v3 8) (fun _ _ => rfl)) (e_ix (v3 5) (v3 9) (fun _ _ => rfl))) e_int (nomark _)) (s_cons (s_set (i := 10) sc_cut_ring.nd rfl (Or.inl rfl) (e_look (e_call c_meet hr (by rfl) (a_val (v3 1) (a_val (v3 2) (a_val (v3 4) (a_val (e_ix (v3 0) (v3 9) (fun _ _ => rfl)) a_nil))))))) (s_cons (s_app 6 (v3 10)) (s_one (s_app 7 (v3 10))))) s_nil)))))) (s_fz 7 (s_fz 6 (s_one (s_ret (e_tup (l_cons (e_ifE (t_in (hr.units) e_int (v3 5) (by rfl)) (v3 6) (o_e (o_lst l_nil))) (l_cons (e_ifE (t_in (hr.units) (e_neg e_int) (v3 5) (by rfl)) (v3 7) (o_e (o_lst l_nil))) l_nil)))))))))))), ?_⟩)
  rintro as k hl ⟨ps, p, q, rfl, bp, bq, hb, hl, hk⟩
  refine ⟨⟨trivial, rfl, rfl, trivial⟩, at3 (r := [.new (.lst (ps.map dP)), .val (dP p), .val (dP q), .no, .no, .no, .no, .no, .no, .no, .no]) rfl ?_⟩
  have l3 := (bp.crs bq).mono (show 300 + 300 + 1 ≤ 700 by decide)
  refine ⟨_, rfl, _, rfl, rfl, p, q, rfl, bp.mono (by decide), bq.mono (by decide), ?_⟩
  dsimp only [fzR]
  refine ⟨_, rfl, _, rfl, by rw [List.length_map]; exact Nat.le_trans hl (by decide), ?_⟩
  refine compG_map (f := dP) (h := fun c => D.int (sg (ln (crs p q) c))) (fs := [.val (dP (crs p q))]) (fun r hr k3 hk3 => ⟨_, rfl, _, rfl, rfl, crs p q, r, rfl, l3.mono (by decide), (hb r hr).1.mono (by decide), hk3⟩) ⟨flats_ints _ _, ?_⟩
  refine ⟨_, rfl, ?_⟩
  walk_at "wd"
  refine ⟨flats_P0 _, ?_⟩
  have ha0 : ps.headD (ps.headD (0, 0, 1)) = ps.headD (0, 0, 1) := by cases ps <;> rfl
  refine forR_prs (f := dP) (done := []) (fun pre ρ => ∃ v4 v8 v9 v10 rest, ps = pre ++ rest ∧ ρ = [.new (.lst (ps.map dP)), .val (dP p), .val (dP q), .val (dP (crs p q)), v4, .val (.lst (ps.map fun c => D.int (sg (ln (crs p q) c)))), .own ((sgs (ln (crs p q)) (mtQ (crs p q)) pre (rest.headD (ps.headD (0, 0, 1)))).map dP), .own ((sgs (fun c => -ln (crs p q) c) (mtQ (crs p q)) pre (rest.headD (ps.headD (0, 0, 1)))).map dP), v8, v9, v10]) ⟨_, _, _, _, ps, rfl, rfl⟩ ?_ ?_
  · rintro pre c rest ρ eq ⟨v4, v8, v9, v10, rest0, e0, rfl⟩ N kk
    have eq : ps = pre ++ c :: rest := by simpa using eq
    have er : rest0 = c :: rest := by rw [e0] at eq; exact List.append_cancel_left eq
    subst er
    have hc : c ∈ ps := by rw [eq]; simp
    have am : atI (ps.map fun c => D.int (sg (ln (crs p q) c))) (pre.length : Int) = some (D.int (sg (ln (crs p q) c))) := by
      have := at_mid (h := fun c => D.int (sg (ln (crs p q) c))) (pre := pre) (rest := rest) (c := c)
      rw [← eq] at this
      exact this
    have an := at_nxt (h := fun c => D.int (sg (ln (crs p q) c))) eq ha0
    have anP := at_nxt (h := dP) eq ha0
    show uSeq _ _ _ [.new (.lst (ps.map dP)), .val (dP p), .val (dP q), .val (dP (crs p q)), .val (dP c), .val (.lst (ps.map fun c => D.int (sg (ln (crs p q) c)))), .own ((sgs (ln (crs p q)) (mtQ (crs p q)) pre c).map dP), .own ((sgs (fun c => -ln (crs p q) c) (mtQ (crs p q)) pre c).map dP), .val (.int pre.length), v9, v10]
    have hpl : pre.length ≤ 1000 := by rw [eq, List.length_append] at hl; omega
    have z1 := sgs_len (f := ln (crs p q)) (mt := mtQ (crs p q)) (ps := pre) (w := c)
    have z2 := sgs_len (f := fun c => -ln (crs p q) c) (mt := mtQ (crs p q)) (ps := pre) (w := c)
    have big : 5000 ≤ sizeLine := by decide
    refine mid4 (fun ρ => ρ = [.new (.lst (ps.map dP)), .val (dP p), .val (dP q), .val (dP (crs p q)), .val (dP c), .val (.lst (ps.map fun c => D.int (sg (ln (crs p q) c)))), .own ((sgs (ln (crs p q)) (mtQ (crs p q)) pre c ++ kp (ln (crs p q)) c).map dP), .own ((sgs (fun c => -ln (crs p q) c) (mtQ (crs p q)) pre c).map dP), .val (.int pre.length), v9, v10]) ?_ (fun N kk => ?_)
    rotate_left
    · refine ⟨_, rfl, _, rfl, _, _, _, .inr rfl, rfl, am, _, _, rfl, rfl, _, rfl, iteD (fun g => ?_) (fun g => ?_)⟩
      · refine ⟨_, rfl, _, rfl, by rw [List.length_map]; omega, kk _ ?_⟩
        rw [kp_yes (sg_ge.mp g), List.map_append]
        rfl
      · refine kk _ ?_
        rw [kp_no (fun z => g (sg_ge.mpr z)), List.append_nil]
    rintro ρ rfl
    refine mid4 (fun ρ => ρ = [.new (.lst (ps.map dP)), .val (dP p), .val (dP q), .val (dP (crs p q)), .val (dP c), .val (.lst (ps.map fun c => D.int (sg (ln (crs p q) c)))), .own ((sgs (ln (crs p q)) (mtQ (crs p q)) pre c ++ kp (ln (crs p q)) c).map dP), .own ((sgs (fun c => -ln (crs p q) c) (mtQ (crs p q)) pre c ++ kp (fun c => -ln (crs p q) c) c).map dP), .val (.int pre.length), v9, v10]) ?_ (fun N kk => ?_)
    rotate_left
    · refine ⟨_, rfl, _, rfl, _, _, _, .inr rfl, rfl, am, _, _, rfl, rfl, _, rfl, iteD (fun g => ?_) (fun g => ?_)⟩
      · refine ⟨_, rfl, _, rfl, by rw [List.length_map]; omega, kk _ ?_⟩
        rw [kp_yes (f := fun c => -ln (crs p q) c) (c := c) (by have := sg_le.mp g; show 0 ≤ -ln (crs p q) c; omega), List.map_append (l₂ := [c])]
        rfl
      · refine kk _ ?_
        rw [kp_no (f := fun c => -ln (crs p q) c) (c := c) (fun z => g (sg_le.mpr (by have z : 0 ≤ -ln (crs p q) c := z; omega))), List.append_nil]
    rintro ρ rfl
    have pos : (0 : Int) < ((ps.map dP).length : Int) := by rw [List.length_map, eq, List.length_append, List.length_cons]; omega
    refine ⟨_, rfl, _, _, rfl, rfl, _, rfl, _, rfl, _, _, rfl, rfl, pos, rfl, ?_⟩
    rw [List.length_map]
    have k1 : (kp (ln (crs p q)) c).length ≤ 1 := by unfold kp; split <;> simp
    have k2 : (kp (fun c => -ln (crs p q) c) c).length ≤ 1 := by unfold kp; split <;> simp
    refine ⟨_, rfl, _, rfl, _, _, _, .inr rfl, rfl, am, _, rfl, _, rfl, _, _, _, .inr rfl, rfl, an, _, _, rfl, rfl, ⟨sg_bits _, sg_bits _⟩, _, _, rfl, rfl, _, rfl, iteD (fun g => ?_) (fun g => ?_)⟩
    · have lt := sg_mul_neg.mp g
      have hnx : rest.headD (ps.headD (0, 0, 1)) ∈ ps := by
        cases rest with
        | nil =>
          cases ps with
          | nil => cases hc
          | cons a r => exact List.mem_cons_self
        | cons d rest => rw [eq]; simp
      have pc := (hb c hc).2
      have pn := (hb _ hnx).2
      refine ⟨_, rfl, _, rfl, _, rfl, _, rfl, _, rfl, _, _, _, .inr rfl, rfl, anP, rfl, p, q, c, rest.headD (ps.headD (0, 0, 1)), rfl, bp.mono (by decide), bq.mono (by decide), (hb c hc).1.mono (by decide), (hb _ hnx).1.mono (by decide), meet_ne pc pn lt, ?_⟩
      dsimp only [fzR]
      refine ⟨rfl, ?_⟩
      rw [mtQ_pt pc pn]
      refine ⟨_, rfl, _, rfl, by rw [List.length_map, List.length_append]; omega, ?_⟩
      refine ⟨_, rfl, _, rfl, by rw [List.length_map, List.length_append]; omega, kk _ ⟨.val (dP c), .val (.int pre.length), .val (.int (((pre.length : Int) + 1) % (ps.length : Int))), .val (dP (mtQ (crs p q) c (rest.headD (ps.headD (0, 0, 1))))), rest, by rw [eq]; simp, ?_⟩⟩
      rw [sgs_one, sgs_one, mx_yes lt, mx_yes (f := fun c => -ln (crs p q) c) (by rw [Int.neg_mul_neg]; exact lt), List.map_append (l₂ := [mtQ (crs p q) c (rest.headD (ps.headD (0, 0, 1)))]), List.map_append (l₂ := [mtQ (crs p q) c (rest.headD (ps.headD (0, 0, 1)))])]
      rfl
    · refine kk _ ⟨.val (dP c), .val (.int pre.length), .val (.int (((pre.length : Int) + 1) % (ps.length : Int))), v10, rest, by rw [eq]; simp, ?_⟩
      have nl : ¬ ln (crs p q) c * ln (crs p q) (rest.headD (ps.headD (0, 0, 1))) < 0 := fun z => g (sg_mul_neg.mpr z)
      rw [sgs_one, sgs_one, mx_no nl, mx_no (by rw [Int.neg_mul_neg]; exact nl), List.append_nil, List.append_nil]
      rfl
  rintro ρ ⟨v4, v8, v9, v10, rest, e0, rfl⟩
  have er : rest = [] := by
    have : ps ++ [] = ps ++ rest := by rw [List.append_nil]; exact e0
    exact (List.append_cancel_left this).symm
  subst er
  have isI : ∀ e ∈ ps.map (fun c => D.int (sg (ln (crs p q) c))), has .I e = true := fun e he => by
    obtain ⟨_, _, rfl⟩ := List.mem_map.mp he
    rfl
  refine ⟨_, rfl, _, rfl, ?_⟩
  refine ⟨_, rfl, .I, _, .inl rfl, rfl, isI, by decide, fun b1 hb1 => ⟨_, rfl, ?_⟩⟩
  cases b1 with
  | true =>
    rw [keep_yes (sg_one_mem.mp (hb1.mp rfl))] at hk
    refine iteT3 rfl ⟨_, rfl, ?_⟩
    refine ⟨_, rfl, _, rfl, .I, _, .inl rfl, rfl, isI, by decide, fun b2 hb2 => ⟨_, rfl, ?_⟩⟩
    cases b2 with
    | true =>
      rw [keep_yes (neg_ex.mpr (sg_neg_mem.mp (hb2.mp rfl)))] at hk
      exact iteT3 rfl ⟨_, rfl, (show 2 ≤ sizeLine by decide), hk⟩
    | false =>
      rw [keep_no (fun z => Bool.false_ne_true (hb2.mpr (sg_neg_mem.mpr (neg_ex.mp z))))] at hk
      exact iteF3 rfl ⟨(show 0 ≤ sizeLine by decide), (show 2 ≤ sizeLine by decide), hk⟩
  | false =>
    rw [keep_no (fun z => Bool.false_ne_true (hb1.mpr (sg_one_mem.mpr z)))] at hk
    refine iteF3 rfl ⟨(show 0 ≤ sizeLine by decide), ?_⟩
    refine ⟨_, rfl, _, rfl, .I, _, .inl rfl, rfl, isI, by decide, fun b2 hb2 => ⟨_, rfl, ?_⟩⟩
    cases b2 with
    | true =>
      rw [keep_yes (neg_ex.mpr (sg_neg_mem.mp (hb2.mp rfl)))] at hk
      exact iteT3 rfl ⟨_, rfl, (show 2 ≤ sizeLine by decide), hk⟩
    | false =>
      rw [keep_no (fun z => Bool.false_ne_true (hb2.mpr (sg_neg_mem.mpr (neg_ex.mp z))))] at hk
      exact iteF3 rfl ⟨(show 0 ≤ sizeLine by decide), (show 2 ≤ sizeLine by decide), hk⟩

theorem sc_sides_of : FnScope ["ring"] ["ring"] (defScope s_sides_of) := ⟨rfl, rfl, rfl, by decide +kernel, rfl, by decide +kernel, by decide +kernel⟩

def F_sides_of : FS := fun as k => ∃ (ps : List P3), as = [.val (.lst (ps.map dP))] ∧ (1 ≤ ps.length) ∧ (ps.length ≤ 1000) ∧ k (.own ((ps.zip (ps.drop 1 ++ ps.take 1)).map fun s => .tup [dP s.1, dP s.2]))
theorem ok_sides_of {P : Program} {w : World} {K : PySem.W.Frag} {mg : Str → Option Value} {base : Heap} (B : Blts mg)   (F : Fnd K mg "sides_of" s_sides_of ["ring"])  :
    Cal P w K mg base "sides_of" ["ring"] 2 (Con K 1 F_sides_of) := by
  refine def3 (lv := 1) F sc_sides_of rfl (fun f cdv A outer s H E hr => ⟨_, (s_one (s_retO (o_zip (v3 0) (o_e (o_cat (o_e (o_slice (v3 0) (p_some e_int) p_none)) (o_e (o_slice (v3 0) p_none (p_some e_int))))) rfl (by rfl) B.list_ (by rfl) B.zip_))), ?_⟩)
  rintro as k hl ⟨ps, rfl, n1, n2, hk⟩
  refine at3 (r := [.val (.lst (ps.map dP))]) rfl ?_
  have big : 1000 ≤ sizeLine := by decide
  have e1 : cutL (ps.map dP) (some 1) none = (ps.drop 1).map dP := by
    rw [cutL_drop (by decide) (by rw [List.length_map]; omega), ← List.map_drop]; rfl
  have e2 : cutL (ps.map dP) none (some 1) = (ps.take 1).map dP := by
    rw [cutL_take (by decide) (by rw [List.length_map]; omega), ← List.map_take]; rfl
  refine ⟨_, rfl, _, rfl, _, rfl, _, rfl, _, rfl, _, rfl, _, rfl, _, _, rfl, rfl, ?_, _, _, rfl, rfl, ?_⟩
  · rw [e1, e2]
    simp only [List.length_map, List.length_drop, List.length_take]
    omega
  rw [e1, e2, ← List.map_append, List.zip_map, List.map_map]
  exact hk

theorem sc_common : FnScope ["one", "other", "ring", "p", "q"] ["one", "other"] (defScope s_common) := ⟨rfl, rfl, rfl, by decide +kernel, rfl, by decide +kernel, by decide +kernel⟩

def F_comN : FS := fun as k => ∃ (ps qs : List P3), as = [.val (.lst (ps.map dP)), .val (.lst (qs.map dP))] ∧ (Rg ps) ∧ (Rg qs) ∧ (RB 90 43 ps) ∧ (∀ x ∈ qs, GP 20 x) ∧ (ps.length ≤ 5) ∧ (qs.length ≤ 5) ∧ k (.new (cmD (comO ps (fwd qs))))
theorem ok_comN {P : Program} {w : World} {K : PySem.W.Frag} {mg : Str → Option Value} {base : Heap} (B : Blts mg)   (F : Fnd K mg "common" s_common ["one", "other"]) (c_sides_of : Cal P w K mg base "sides_of" ["ring"] 2 (Con K 1 F_sides_of)) (c_cut_ring : Cal P w K mg base "cut_ring" ["ring", "p", "q"] 5 (Con K 3 F_cut_ringN)) :
    Cal P w K mg base "common" ["one", "other"] 6 (Con K 2 F_comN) := by
  refine def3N (lv := 5) [true, true] F sc_common rfl (fun f cdv A outer s H E hr => ⟨_, (s_cons (s_setOld 0 (i := 2) sc_common.nd rfl (Or.inl rfl)) (s_cons (s_for PassesOwn.never rfl (i_list (d_e (d_look (d_list (o_call c_sides_of hr (by rfl) (a_val (v3 1) a_nil)))))) (g_tup (n := 2) rfl (gs_cons (g_name (i := 3) sc_common.nd rfl (Or.inl rfl)) (gs_cons (g_name (i := 4) sc_common.nd rfl (Or.inl rfl)) gs_nil))) (s_cons (s_set (i := 2) sc_common.nd rfl (Or.inl rfl) (d_e (d_look (d_ix (d_call c_cut_ring hr (by rfl) (a_val (v3 2) (a_val (v3 3) (a_val (v3 4) a_nil)))) e_int (fun _ _ => rfl))))) (s_one (s_if (t_look (t_not (t_truL (v3 2)))) (s_one (s_ret e_non)) s_nil)))) (s_one (s_ret (v3 2))))), ?_⟩)
  rintro as k hl ⟨ps, qs, rfl, rp, rq, rb, gq, lp, lq, hk⟩
  refine ⟨⟨trivial, trivial, trivial⟩, at3 (r := [.new (.lst (ps.map dP)), .new (.lst (qs.map dP)), .no, .no, .no]) rfl ?_⟩
  have big : 1000 ≤ sizeLine := by decide
  have q3 := rq.l
  have fl := fwd_len qs
  refine ⟨_, rfl, ?_⟩
  dsimp only
  refine mid4 (fun ρ => ∃ (rs : List P3) (v3 v4 : Sl), ρ = [.new (.lst (ps.map dP)), .new (.lst (qs.map dP)), .val (.lst (rs.map dP)), v3, v4] ∧ comO ps (fwd qs) = some rs) ?_ (fun N kk => ?_)
  · rintro ρ ⟨rs, v3, v4, rfl, e⟩
    rw [e] at hk
    exact ⟨_, rfl, hk⟩
  refine ⟨_, rfl, rfl, qs, rfl, by omega, by omega, _, rfl, flats_pr _, _, rfl, ?_⟩
  refine forR_pr (done := []) (fun pre ρ => ∃ (rs : List P3) (sl v3 v4 : Sl) (rest : List (P3 × P3)), ρ = [.new (.lst (ps.map dP)), .new (.lst (qs.map dP)), sl, v3, v4] ∧ look sl = .val (.lst (rs.map dP)) ∧ (pre ≠ [] → sl = .val (.lst (rs.map dP))) ∧ fwd qs = pre ++ rest ∧ comO ps (fwd qs) = comO rs rest ∧ RB 90 43 rs ∧ Rg rs ∧ rs.length ≤ 5 * 2 ^ pre.length) ⟨ps, _, _, _, fwd qs, rfl, rfl, fun z => absurd rfl z, rfl, rfl, rb, rp, by simpa using lp⟩ ?_ ?_
  · rintro pre e rest0 ρ hpre ⟨rs, sl, v3, v4, rest, rfl, hsl, _, hr0, hco, hrb, hrg, hln⟩ N kk
    have hpre : fwd qs = pre ++ e :: rest0 := by simpa [fwd] using hpre
    have er : rest = e :: rest0 := by rw [hr0] at hpre; exact List.append_cancel_left hpre
    subst er
    have hpl : pre.length < 5 := by have := congrArg List.length hpre; rw [fl, List.length_append, List.length_cons] at this; omega
    have p5 : 2 ^ pre.length ≤ 16 := Nat.le_trans (Nat.pow_le_pow_right (by decide) (show pre.length ≤ 4 by omega)) (by decide)
    have he : e ∈ eds qs := (fwd_mem qs e).mp (by rw [hpre]; simp)
    obtain ⟨m1, m2⟩ := eds_mem he
    have b1 := gq _ m1
    have b2 := gq _ m2
    refine ⟨_, (show _ = some (look sl) from rfl).trans (by rw [hsl]), _, rfl, _, rfl, rfl, rs, e.1, e.2, rfl, b1.bp.mono (by decide), b2.bp.mono (by decide), fun c hc => ⟨(hrb.pts c hc).bp.mono (by decide), (hrb.pts c hc).pt⟩, by omega, _, rfl, _, _, _, .inl rfl, rfl, rfl, ?_⟩
    refine ⟨_, rfl, _, rfl, ?_⟩
    have ce : keepR (ln (crs e.1 e.2)) (mtQ (crs e.1 e.2)) rs = cutE e rs := rfl
    rw [ce]
    cases c : (cutE e rs).isEmpty with
    | true =>
      refine iteT3 (by rw [List.isEmpty_map, c]; rfl) ?_
      rw [hco, comO_stop c] at hk
      exact hk
    | false =>
      refine iteF3 (by rw [List.isEmpty_map, c]; rfl) ?_
      refine kk _ ⟨cutE e rs, .val (.lst ((cutE e rs).map dP)), .val (dP e.1), .val (dP e.2), rest0, rfl, rfl, fun _ => rfl, by rw [hpre]; simp, by rw [hco, comO_go c], ?_, hrg.cut c, ?_⟩
      · rw [(cutE_some c).2]
        exact hrb.cut ((b1.bp.crs b2.bp).mono (by decide)) (rq.line he) e.1 (ln_self _ _) (by decide)
      · have := cutE_len c
        rw [List.length_append, List.length_singleton, Nat.pow_succ]
        omega
  · rintro ρ ⟨rs, sl, v3, v4, rest, rfl, hsl, hv, hr0, hco, hrb, hrg, hln⟩
    have hr0 : fwd qs = fwd qs ++ rest := hr0
    have er : rest = [] := by
      have := congrArg List.length hr0
      rw [List.length_append] at this
      exact List.length_eq_zero_iff.mp (by omega)
    subst er
    have ne : fwd qs ≠ [] := fun z => by rw [z] at fl; simp at fl; omega
    rw [hv ne]
    exact kk _ ⟨rs, v3, v4, rfl, hco⟩

theorem sc_law : FnScope ["_law_script", "_law_one", "_law_bag_here", "_law_other", "_law_handed", "_law_found", "_law_back", "_law_k", "_law_spots", "_law_p", "_law_spot_here", "_law_hands", "_law_both"] ["_law_script"] (defScope s_law) := ⟨rfl, rfl, rfl, by decide +kernel, rfl, by decide +kernel, by decide +kernel⟩
theorem ok_law {P : Program} {w : World} {K : PySem.W.Frag} {mg : Str → Option Value} {base : Heap} {f : Addr} {fd : FuncData} (B : Blts mg) (F : Fun K "law" "law" s_law f fd) (c_law_bulging : Cal P w K mg base "_law_bulging" ["_law_bag_here", "_law_most"] 5 (Con K 2 F_bulgS)) (c_law_bag : Cal P w K mg base "_law_bag" ["_law_cell_here"] 1 (Con K 1 F_bag)) (c_law_cell : Cal P w K mg base "_law_cell" ["_law_script", "_law_k"] 1 (Con K 2 F_cell)) (c_law_second : Cal P w K mg base "_law_second" ["_law_ring", "_law_bag_here"] 6 (Con K 2 F_secS)) (c_common : Cal P w K mg base "common" ["one", "other"] 6 (Con K 2 F_comN)) (c_law_spot : Cal P w K mg base "_law_spot" ["_law_bag_here", "_law_most"] 3 (Con K 2 F_spotS)) (c_law_mixed : Cal P w K mg base "_law_mixed" ["_law_ring", "_law_bag_here"] 4 (Con K 2 F_mixS)) (c_law_is_convex : Cal P w K mg base "_law_is_convex" ["_law_ring"] 4 (Con K 1 F_cvxM)) (c_law_twice_area : Cal P w K mg base "_law_twice_area" ["_law_ring"] 3 (Con K 1 F_areaF)) (c_law_within : Cal P w K mg base "_law_within" ["_law_ring", "_law_p"] 3 (Con K 2 F_wiM)) :
    FnOk P w K mg base CX0 7 f fd ["_law_script"] (spLaw K) := by
  refine FnOk.imp (sp := Con K 1 F_law) ?_ (fun vs H Q E h => law_con h)
  refine law_def3 (lv := 6) F sc_law rfl (fun cdv A outer s H E hr => ⟨_, (s_cons (s_set (i := 1) sc_law.nd rfl (Or.inl rfl) (e_callB2c c_law_bulging hr (by rfl) (n_call c_law_bag hr (by rfl) (a_val (e_call c_law_cell hr (by rfl) (a_val (v3 0) (a_val e_int a_nil))) a_nil)))) (s_cons (s_setN (i := 2) sc_law.nd rfl (Or.inr rfl) (n_call c_law_bag hr (by rfl) (a_val (e_call c_law_cell hr (by rfl) (a_val (v3 0) (a_val e_int a_nil))) a_nil))) (s_cons (s_set (i := 3) sc_law.nd rfl (Or.inl rfl) (e_call c_law_second hr (by rfl) (a_val (v3 1) (a_bag 2 a_nil)))) (s_cons (s_set (i := 4) sc_law.nd rfl (Or.inl rfl) (o_e (o_lst (l_cons (o_e (o_copy (v3 1) (by rfl) B.list_)) (l_cons (o_e (o_copy (v3 3) (by rfl) B.list_)) l_nil))))) (ss_scope (z2_st (s_set (i := 5) sc_law.nd rfl (Or.inr rfl) (d_e (d_look (d_call c_common hr (by rfl) (a_val (e_ix (v3 4) e_int (fun _ _ => rfl)) (a_val (e_ix (v3 4) e_int (fun _ _ => rfl)) a_nil)))))) (z2_st (s_set (i := 6) sc_law.nd rfl (Or.inl rfl) (d_e (d_look (d_call c_common hr (by rfl) (a_val (e_ix (v3 4) e_int (fun _ _ => rfl)) (a_val (e_ix (v3 4) e_int (fun _ _ => rfl)) a_nil)))))) (z2_st (s_if (t_look (w_t (w_or (t_ne (hr.units) (v3 4) (o_e (o_lst (l_cons (v3 1) (l_cons (v3 3) l_nil)))) (nomark _)) (w_or1 (t_ne (hr.units) (e_isN (v3 5) e_non (nomark _)) (e_isN (v3 6) e_non (nomark _)) (nomark _)))))) (s_one (s_ret e_bl)) s_nil) (z2_st (s_compA (i := 8) sc_law.nd rfl rfl (ts := ["_law_k"]) (fr := ["_law_bag_here"]) (js := [2]) (i_rng e_int (by rfl) B.range_) (fun _ _ _ _ => (g_name (i := 0) (show List.Nodup (["_law_k", "_law_bag_here"] : List Str) by decide +kernel) rfl (Or.inl rfl))) (fun _ _ _ _ => ifs_nil) (fun _ _ _ _ => (e_call c_law_spot hr (by rfl) (a_bag 1 (a_val e_int a_nil)))) ⟨rfl, by decide +kernel, rfl, by decide +kernel, fsub_of (List.forall_mem_cons.mpr ⟨rfl, (List.forall_mem_nil _)⟩), fhas_b rfl, by walk_at "ffr", rfl⟩) (z2_st (s_for PassesOwn.never rfl (i_rng e_int (by rfl) B.range_) (g_name (i := 7) sc_law.nd rfl (Or.inl rfl)) (s_one (s_ext 8 (d_e (d_look (d_list (o_lst (l_cons (e_call c_law_mixed hr (by rfl) (a_val (v3 1) (a_bag 2 a_nil))) (l_cons (e_call c_law_mixed hr (by rfl) (a_val (v3 3) (a_bag 2 a_nil))) l_nil))))))))) (z2_st (s_if (t_notN (v3 5) e_non (nomark _)) (s_cons (s_if (w_t (w_or (t_not (t_val (e_call c_law_is_convex hr (by rfl) (a_val (v3 5) a_nil)))) (w_or1 (t_not (t_val (e_call c_law_is_convex hr (by rfl) (a_val (v3 6) a_nil))))))) (s_one (s_ret e_bl)) s_nil) (s_cons (s_if (t_ne (hr.units) (e_call c_law_twice_area hr (by rfl) (a_val (v3 5) a_nil)) (e_call c_law_twice_area hr (by rfl) (a_val (v3 6) a_nil)) (nomark _)) (s_one (s_ret e_bl)) s_nil) (s_cons (s_for PassesOwn.never rfl (i_list (v3 5)) (g_name (i := 9) sc_law.nd rfl (Or.inl rfl)) (s_one (s_if (t_look (w_t (w_or (t_cmp (f := fun i j => decide (i = j)) op_eqI (e_call c_law_within hr (by rfl) (a_val (v3 1) (a_val (v3 9) a_nil))) e_int (nomark _)) (w_or1 (t_cmp (f := fun i j => decide (i = j)) op_eqI (e_call c_law_within hr (by rfl) (a_val (v3 3) (a_val (v3 9) a_nil))) e_int (nomark _)))))) (s_one (s_ret e_bl)) s_nil))) (s_one (s_ext 8 (o_e (o_compG (ts := ["_law_k"]) (fr := ["_law_bag_here", "_law_found"]) (js := [2, 5]) (i_rng e_int (by rfl) B.range_) (fun _ _ _ _ => (g_name (i := 0) (show List.Nodup (["_law_k", "_law_bag_here", "_law_found"] : List Str) by decide +kernel) rfl (Or.inl rfl))) (fun _ _ _ _ => ifs_nil) (fun _ _ _ _ => (e_call c_law_mixed hr (by rfl) (a_val (v3 2) (a_bag 1 a_nil)))) ⟨rfl, by decide +kernel, rfl, by decide +kernel, fsub_of (List.forall_mem_cons.mpr ⟨rfl, (List.forall_mem_cons.mpr ⟨rfl, (List.forall_mem_nil _)⟩)⟩), fhas_b rfl, by walk_at "ffr", rfl⟩))))))) s_nil) (z2_fz 8 (z2_st (s_for PassesOwn.never rfl (i_list (v3 8)) (g_name (i := 10) sc_law.nd rfl (Or.inl rfl)) (s_cons (s_set (i := 11) sc_law.nd rfl (Or.inl rfl) (d_e (d_look (d_list (o_lst (l_cons (e_call c_law_within hr (by rfl) (a_val (v3 1) (a_val (v3 10) a_nil))) (l_cons (e_call c_law_within hr (by rfl) (a_val (v3 3) (a_val (v3 10) a_nil))) l_nil))))))) (s_one (s_if (t_notIn (hr.units) (e_neg e_int) (v3 11) (by rfl)) (s_cons (s_set (i := 12) sc_law.nd rfl (Or.inl rfl) (e_eq (hr.units) (v3 11) (o_e (o_lst (l_cons e_int (l_cons e_int l_nil)))) (nomark _))) (s_one (s_if (t_ne (hr.units) (v3 12) (e_and (e_notN (v3 5) e_non (nomark _)) (e_one (e_cmp (f := fun i j => decide (i = j)) op_eqI (e_call c_law_within hr (by rfl) (a_val (v3 5) (a_val (v3 10) a_nil))) e_int (nomark _)))) (nomark _)) (s_one (s_ret e_bl)) s_nil))) s_nil)))) (z2_clr (i := 5) rfl (by first | exact Or.inl rfl | exact Or.inr (Or.inl rfl) | exact Or.inr (Or.inr rfl)) (t_notN (v3 5) e_non (nomark _)) (s_one (s_ret (e_eq (hr.units) (v3 4) (o_e (o_lst (l_cons (v3 1) (l_cons (v3 3) l_nil)))) (nomark _)))))))))))))))))), ?_⟩)
  rintro as k hl ⟨ns, rfl, h63, hk⟩
  refine at3 (r := [.val (.scr ns), .no, .no, .no, .no, .no, .no, .no, .no, .no, .no, .no, .no]) rfl ?_
  have big : 1000 ≤ sizeLine := by decide
  refine ⟨_, rfl, rfl, ns, 0, rfl, by decide, fun z => ?_⟩
  refine ⟨rfl, z, rfl, rfl, ?_⟩
  refine ⟨rfl, fun ps hl5 hc hps => ?_⟩
  dsimp only [fzR]
  refine ⟨_, rfl, rfl, ns, 1, rfl, by decide, fun z => ?_⟩
  refine ⟨rfl, z, rfl, rfl, ?_⟩
  refine ⟨_, rfl, rfl, rfl, ps, rfl, hl5, hc, hps, fun qs ql5 qc qps => ?_⟩
  dsimp only [fzR]
  refine ⟨_, rfl, _, .inl rfl, _, rfl, _, .inl rfl, by show 2 ≤ sizeLine; decide, ?_⟩
  have rp := hc.rg (fun x hx => (hps x hx).pt)
  have rq := qc.rg (fun x hx => (qps x hx).pt)
  have bpR : RB 90 43 ps := rp.rb hps (by decide) (by decide)
  have bqR : RB 90 43 qs := rq.rb qps (by decide) (by decide)
  have g20 : ∀ x ∈ ps, GP 20 x := fun x hx => (hps x hx).mono (by decide)
  have p7 : ∀ x ∈ ps, GP 700 x := fun x hx => (hps x hx).mono (by decide)
  have q7 : ∀ x ∈ qs, GP 700 x := fun x hx => (qps x hx).mono (by decide)
  have pl := rp.l
  have ql := rq.l
  intro f
  refine ⟨_, rfl, _, _, _, .inr rfl, rfl, rfl, _, rfl, _, _, _, .inr rfl, rfl, rfl, rfl, ps, qs, rfl, rp, rq, bpR, qps, hl5, ql5, _, rfl, ?_⟩
  refine ⟨_, rfl, _, _, _, .inr rfl, rfl, rfl, _, rfl, _, _, _, .inr rfl, rfl, rfl, rfl, qs, ps, rfl, rq, rp, bqR, g20, ql5, hl5, _, rfl, ?_⟩
  generalize h1 : comO ps (fwd qs) = F1
  generalize h2 : comO qs (fwd ps) = F2
  have b12 : ∀ rs, F1 = some rs → ∃ ts, F2 = some ts := fun rs e => by
    rw [← h2]; exact com_back rp rq (fwd_mem qs) (fwd_mem ps) (h1.trans e)
  have b21 : ∀ ts, F2 = some ts → ∃ rs, F1 = some rs := fun ts e => by
    rw [← h1]; exact com_back rq rp (fwd_mem ps) (fwd_mem qs) (h2.trans e)
  have same : isNon (cmD F1) = isNon (cmD F2) := by
    cases e1 : F1 with
    | none =>
      cases e2 : F2 with
      | none => rfl
      | some ts => obtain ⟨rs, z⟩ := b21 ts e2; rw [e1] at z; cases z
    | some rs =>
      obtain ⟨ts, z⟩ := b12 rs e1
      rw [z]; rfl
  refine ⟨_, rfl, _, rfl, _, rfl, by show 2 ≤ sizeLine; decide, shR2, has_2 ps qs, has_2 ps qs, by decide, _, rfl, neIf (fun h => absurd rfl h) (fun _ => ?_)⟩
  refine ⟨_, rfl, rfl, _, rfl, rfl, .B, rfl, rfl, by decide, _, rfl, neIf (fun h => absurd (by rw [same]) h) (fun _ => ?_)⟩
  refine ⟨_, rfl, by decide, by decide, by show 8 ≤ sizeLine; decide, ?_⟩
  refine compG_gen (Pp := GP 4000) (fs := [.bag]) (fun d hd k2 hk2 => ⟨rfl, rfl, rfl, fun p hp => hk2 p (hp.mono (by decide))⟩) (fun ss hss gss => ?_)
  have hss : ss.length = 8 := hss
  dsimp only
  refine nx2 (fun ρ => ∃ (ss : List P3) (v7 : Sl), ρ = [.pin (f 0) (.scr ns), .pin (f 1) (.lst (ps.map dP)), .bag, .pin (f 3) (.lst (qs.map dP)), .pin (f 4) (.lst [.lst (ps.map dP), .lst (qs.map dP)]), .val (cmD F1), .val (cmD F2), v7, .own (ss.map dP), .no, .no, .no, .no] ∧ ss.length ≤ 14 ∧ ∀ s ∈ ss, GP 4000 s) ?_ (fun N kk => ?_)
  rotate_left
  · refine ⟨_, rfl, by decide, by decide, ?_⟩
    refine forR_rng (n := 3) (fun i ρ => ∃ (ss : List P3) (v7 : Sl), ρ = [.pin (f 0) (.scr ns), .pin (f 1) (.lst (ps.map dP)), .bag, .pin (f 3) (.lst (qs.map dP)), .pin (f 4) (.lst [.lst (ps.map dP), .lst (qs.map dP)]), .val (cmD F1), .val (cmD F2), v7, .own (ss.map dP), .no, .no, .no, .no] ∧ ss.length ≤ 8 + 2 * i ∧ ∀ s ∈ ss, GP 4000 s) ⟨ss, _, rfl, by omega, gss⟩ ?_ (fun ρ ⟨ss, v7, e, l, g⟩ => kk _ ⟨ss, v7, e, by omega, g⟩)
    rintro i ρ hi ⟨ss, v7, rfl, hl, gs⟩ N kk
    refine ⟨_, rfl, ?_⟩
    refine ⟨_, rfl, rfl, rfl, ps, rfl, by omega, by omega, fun x hx => (hps x hx).mono (by decide), fun s1 g1 => ?_⟩
    dsimp only [fzR]
    refine ⟨_, rfl, rfl, rfl, qs, rfl, by omega, by omega, fun x hx => (qps x hx).mono (by decide), fun s2 g2 => ?_⟩
    dsimp only [fzR]
    refine ⟨by show 2 ≤ sizeLine; decide, rfl, _, rfl, by rw [List.length_map]; show ss.length + 2 ≤ sizeLine; omega, kk _ ⟨ss ++ [s1, s2], _, by rw [List.map_append]; rfl, by rw [List.length_append]; simp; omega, fun s hs => ?_⟩⟩
    rcases List.mem_append.mp hs with h | h
    · exact gs s h
    · rcases List.mem_cons.mp h with rfl | h
      · exact g1
      · rw [List.mem_singleton.mp h]; exact g2
  rintro ρ ⟨ss, v7, rfl, hl, gs⟩
  refine nx2 (fun ρ => ∃ (ss : List P3) (v7 v9 : Sl), ρ = [.pin (f 0) (.scr ns), .pin (f 1) (.lst (ps.map dP)), .bag, .pin (f 3) (.lst (qs.map dP)), .pin (f 4) (.lst [.lst (ps.map dP), .lst (qs.map dP)]), .val (cmD F1), .val (cmD F2), v7, .own (ss.map dP), v9, .no, .no, .no] ∧ ss.length ≤ 17 ∧ ∀ s ∈ ss, GP 4000 s) ?_ (fun N kk => ?_)
  rotate_left
  · cases e1 : F1 with
    | none =>
      rw [e1] at kk
      exact ⟨_, rfl, rfl, _, rfl, iteF3 rfl (kk _ ⟨ss, _, _, rfl, by omega, gs⟩)⟩
    | some rs =>
      obtain ⟨ts, e2⟩ := b12 rs e1
      rw [e1, e2] at kk
      rw [e2]
      rw [e1] at h1
      rw [e2] at h2
      obtain ⟨r1, r2, r3⟩ := com_told rp rq bpR qps hl5 ql5 h1
      obtain ⟨t1, t2, t3⟩ := com_told rq rp bqR g20 ql5 hl5 h2
      have rl := r1.l
      have tl := t1.l
      refine ⟨_, rfl, rfl, _, rfl, iteT3 rfl ?_⟩
      refine pass4 (fun N kk => ?_) ?_
      · refine ⟨_, rfl, rfl, rs, rfl, by omega, fun x hx => (r2.pts x hx).mono (by decide), fun b hb => ⟨_, rfl, ?_⟩⟩
        rw [hb.mpr r1.cvx]
        refine iteF ?_
        refine ⟨_, rfl, rfl, ts, rfl, by omega, fun x hx => (t2.pts x hx).mono (by decide), fun b hb => ⟨_, rfl, ?_⟩⟩
        rw [hb.mpr t1.cvx]
        exact iteF kk
      refine pass4 (fun N kk => ?_) ?_
      · refine ⟨_, rfl, rfl, rs, rfl, by omega, by omega, r2.pts, ?_⟩
        dsimp only [fzR]
        refine ⟨_, rfl, rfl, ts, rfl, by omega, by omega, t2.pts, ?_⟩
        dsimp only [fzR]
        have e : taP rs = taP ts := by
          obtain ⟨a1, a2, a3⟩ := taP_v (ps := rs) fun p hp => (r1.p p hp).1
          obtain ⟨c1, c2, c3⟩ := taP_v (ps := ts) fun p hp => (t1.p p hp).1
          exact vP_inj a1 c1 a2 c2 (by rw [a3, c3]; exact com_area rp rq (fwd_mem qs) (fwd_mem ps) h1 h2)
        rw [e]
        exact ⟨.T [.I, .I, .I], rfl, rfl, by decide, _, rfl, neIf (fun h => absurd rfl h) (fun _ => kk)⟩
      refine mid4 (fun ρ => ∃ v9, ρ = [.pin (f 0) (.scr ns), .pin (f 1) (.lst (ps.map dP)), .bag, .pin (f 3) (.lst (qs.map dP)), .pin (f 4) (.lst [.lst (ps.map dP), .lst (qs.map dP)]), .val (cmD (some rs)), .val (cmD (some ts)), v7, .own (ss.map dP), v9, .no, .no, .no]) ?_ (fun N kk => ?_)
      rotate_left
      · refine ⟨_, rfl, _, rfl, ?_⟩
        refine forR_map (f := dP) (done := []) (fun _ ρ => ∃ v9, ρ = [.pin (f 0) (.scr ns), .pin (f 1) (.lst (ps.map dP)), .bag, .pin (f 3) (.lst (qs.map dP)), .pin (f 4) (.lst [.lst (ps.map dP), .lst (qs.map dP)]), .val (cmD (some rs)), .val (cmD (some ts)), v7, .own (ss.map dP), v9, .no, .no, .no]) ⟨_, rfl⟩ ?_ (fun ρ ⟨v9, e⟩ => kk _ ⟨v9, e⟩)
        rintro pre x rest ρ hpre ⟨v9, rfl⟩ N kk
        have hx : x ∈ rs := by
          have : rs = pre ++ x :: rest := by simpa using hpre
          rw [this]; simp
        have bx : BP 4000 x := (r2.pts x hx).bp.mono (by decide)
        refine ⟨_, rfl, _, rfl, rfl, ps, x, rfl, by omega, p7, bx, ?_⟩
        dsimp only [fzR]
        refine ⟨_, _, rfl, rfl, _, rfl, iteD (fun g => absurd g (wi_not0 fun e he => comO_ge h1 (rp.ge he) x hx)) (fun _ => ?_)⟩
        refine ⟨_, rfl, _, rfl, rfl, qs, x, rfl, by omega, q7, bx, ?_⟩
        dsimp only [fzR]
        exact ⟨_, _, rfl, rfl, _, rfl, iteD (fun g => absurd g (wi_not0 fun e he => comO_on h1 e ((fwd_mem qs e).mpr he) x hx)) (fun _ => kk _ ⟨_, rfl⟩)⟩
      rintro ρ ⟨v9, rfl⟩
      refine ⟨_, rfl, _, rfl, by decide, by decide, by show 3 ≤ sizeLine; decide, ?_⟩
      refine compG_gen (Pp := GP 4000) (fs := [.bag, .val (.lst (rs.map dP))]) (fun d hd k2 hk2 => ⟨_, rfl, rfl, rfl, rs, rfl, by omega, by omega, r2.pts, fun p hp => hk2 p hp⟩) (fun us hus gus => ?_)
      have hus : us.length = 3 := hus
      refine ⟨_, rfl, by rw [List.length_map, List.length_map]; omega, kk _ ⟨ss ++ us, v7, v9, by rw [List.map_append]; rfl, by rw [List.length_append]; omega, fun s hs => ?_⟩⟩
      rcases List.mem_append.mp hs with h | h
      · exact gs s h
      · exact gus s h
  rintro ρ ⟨ss, v7, v9, rfl, hl, gs⟩
  refine ⟨_, rfl, ?_⟩
  refine ⟨_, rfl, _, rfl, ?_⟩
  refine forR_map (f := dP) (done := []) (fun _ ρ => ∃ v10 v11 v12, ρ = [.pin (f 0) (.scr ns), .pin (f 1) (.lst (ps.map dP)), .bag, .pin (f 3) (.lst (qs.map dP)), .pin (f 4) (.lst [.lst (ps.map dP), .lst (qs.map dP)]), .val (cmD F1), .val (cmD F2), v7, .val (.lst (ss.map dP)), v9, v10, v11, v12]) ⟨_, _, _, rfl⟩ ?_ ?_
  · rintro pre s rest ρ hpre ⟨v10, v11, v12, rfl⟩ N kk
    have hs : s ∈ ss := by
      have : ss = pre ++ s :: rest := by simpa using hpre
      rw [this]; simp
    have bs := (gs s hs).bp
    refine ⟨_, rfl, _, rfl, rfl, ps, s, rfl, by omega, p7, bs, ?_⟩
    dsimp only [fzR]
    refine ⟨_, rfl, _, rfl, rfl, qs, s, rfl, by omega, q7, bs, ?_⟩
    dsimp only [fzR]
    refine ⟨by show 2 ≤ sizeLine; decide, rfl, ?_⟩
    refine ⟨_, rfl, _, rfl, .I, _, .inl rfl, rfl, ?_, by decide, fun b hb => ⟨_, rfl, ?_⟩⟩
    · intro e he
      simp at he
      rcases he with rfl | rfl <;> rfl
    cases b with
    | true => exact iteF3 rfl (kk _ ⟨_, _, _, rfl⟩)
    | false =>
      have nm : ¬ (D.int (-1) ∈ [D.int (wi ps s), D.int (wi qs s)]) := fun z => Bool.false_ne_true (hb.mpr z)
      have w1 : wi ps s ≠ -1 := fun z => nm (by rw [z]; simp)
      have w2 : wi qs s ≠ -1 := fun z => nm (by rw [z]; simp)
      have wb := wi_both rp rq w1 w2
      rw [h1] at wb
      refine iteT3 rfl ?_
      refine ⟨_, rfl, by show 2 ≤ sizeLine; decide, .L .I, rfl, rfl, by decide, ?_⟩
      refine ⟨_, rfl, _, rfl, rfl, _, rfl, ?_⟩
      cases e1 : F1 with
      | none =>
        rw [e1] at wb kk
        refine iteF3 rfl ?_
        refine ⟨.B, rfl, rfl, by decide, _, rfl, neIf (fun h => absurd ?_ h) (fun _ => kk _ ⟨_, _, _, rfl⟩)⟩
        show D.bl (eqD (.lst [.int (wi ps s), .int (wi qs s)]) (.lst [.int 1, .int 1])) = D.bl false
        rw [bool_eq (a := eqD (.lst [.int (wi ps s), .int (wi qs s)]) (.lst [.int 1, .int 1])) (b := false) ⟨fun z => absurd (eq11.mp z) wb, fun z => by cases z⟩]
      | some rs =>
        rw [e1] at wb kk
        rw [e1] at h1
        obtain ⟨r1, r2, r3⟩ := com_told rp rq bpR qps hl5 ql5 h1
        refine iteT3 rfl ?_
        refine ⟨_, rfl, _, rfl, rfl, rs, s, rfl, by omega, fun x hx => (r2.pts x hx).mono (by decide), bs, ?_⟩
        dsimp only [fzR]
        refine ⟨_, _, rfl, rfl, ?_⟩
        refine ⟨.B, rfl, rfl, by decide, _, rfl, neIf (fun h => absurd ?_ h) (fun _ => kk _ ⟨_, _, _, rfl⟩)⟩
        show D.bl (eqD (.lst [.int (wi ps s), .int (wi qs s)]) (.lst [.int 1, .int 1])) = D.bl (decide (wi rs s = 1))
        rw [bool_eq (a := eqD (.lst [.int (wi ps s), .int (wi qs s)]) (.lst [.int 1, .int 1])) (b := decide (wi rs s = 1)) ⟨fun z => decide_eq_true (wb.mpr (eq11.mp z)), fun z => eq11.mpr (wb.mp (of_decide_eq_true z))⟩]
  rintro ρ ⟨v10, v11, v12, rfl⟩
  refine ⟨_, rfl, rfl, _, rfl, fun hc => ?_, _, .pin (.pin (.no (.pin (.pin (.no (.no (.no (.no (.no (.no (.no (.no .nil)))))))))))), ?_⟩
  · cases e1 : F1 with
    | none => rw [e1] at hc; cases hc
    | some rs => exact ⟨_, rfl⟩
  refine ⟨_, rfl, _, rfl, _, rfl, by show 2 ≤ sizeLine; decide, shR2, has_2 ps qs, has_2 ps qs, by decide, ?_⟩
  show k (.val (.bl (eqD _ _)))
  rw [eqD_self]
  exact hk

theorem all_mk {l : PySem.W.OpenLaw} {w : World} {K : PySem.W.Frag} {h : Heap} {mg : Str → Option Value} {fa : Addr} (X : K.In h) (G : h.Ns mainGlobals mg) (hfa : mg "law" = some (.ref fa))
    {od1 an1 : Option Addr} {sl1 : Array (Option Value)} {oc1 kV1 dc1 pm1 cd1 ct1 : Value} {f1 : Addr}
    {od2 an2 : Option Addr} {sl2 : Array (Option Value)} {oc2 kV2 dc2 pm2 cd2 ct2 : Value} {f2 : Addr}
    {od3 an3 : Option Addr} {sl3 : Array (Option Value)} {oc3 kV3 dc3 pm3 cd3 ct3 : Value} {f3 : Addr}
    {od4 an4 : Option Addr} {sl4 : Array (Option Value)} {oc4 kV4 dc4 pm4 cd4 ct4 : Value} {f4 : Addr}
    {od5 an5 : Option Addr} {sl5 : Array (Option Value)} {oc5 kV5 dc5 pm5 cd5 ct5 : Value} {f5 : Addr}
    {od6 an6 : Option Addr} {sl6 : Array (Option Value)} {oc6 kV6 dc6 pm6 cd6 ct6 : Value} {f6 : Addr}
    {od7 an7 : Option Addr} {sl7 : Array (Option Value)} {oc7 kV7 dc7 pm7 cd7 ct7 : Value} {f7 : Addr}
    {od8 an8 : Option Addr} {sl8 : Array (Option Value)} {oc8 kV8 dc8 pm8 cd8 ct8 : Value} {f8 : Addr}
    {od9 an9 : Option Addr} {sl9 : Array (Option Value)} {oc9 kV9 dc9 pm9 cd9 ct9 : Value} {f9 : Addr}
    {od10 an10 : Option Addr} {sl10 : Array (Option Value)} {oc10 kV10 dc10 pm10 cd10 ct10 : Value} {f10 : Addr}
    {od11 an11 : Option Addr} {sl11 : Array (Option Value)} {oc11 kV11 dc11 pm11 cd11 ct11 : Value} {f11 : Addr}
    {od12 an12 : Option Addr} {sl12 : Array (Option Value)} {oc12 kV12 dc12 pm12 cd12 ct12 : Value} {f12 : Addr}
    {od13 an13 : Option Addr} {sl13 : Array (Option Value)} {oc13 kV13 dc13 pm13 cd13 ct13 : Value} {f13 : Addr}
    {od14 an14 : Option Addr} {sl14 : Array (Option Value)} {oc14 kV14 dc14 pm14 cd14 ct14 : Value} {f14 : Addr}
    {od15 an15 : Option Addr} {sl15 : Array (Option Value)} {oc15 kV15 dc15 pm15 cd15 ct15 : Value} {f15 : Addr}
    {od16 an16 : Option Addr} {sl16 : Array (Option Value)} {oc16 kV16 dc16 pm16 cd16 ct16 : Value} {f16 : Addr}
    {od17 an17 : Option Addr} {sl17 : Array (Option Value)} {oc17 kV17 dc17 pm17 cd17 ct17 : Value} {f17 : Addr}
    {od18 an18 : Option Addr} {sl18 : Array (Option Value)} {oc18 kV18 dc18 pm18 cd18 ct18 : Value} {f18 : Addr}
    {od19 an19 : Option Addr} {sl19 : Array (Option Value)} {oc19 kV19 dc19 pm19 cd19 ct19 : Value} {f19 : Addr}
    {od20 an20 : Option Addr} {sl20 : Array (Option Value)} {oc20 kV20 dc20 pm20 cd20 ct20 : Value} {f20 : Addr}
    {od21 an21 : Option Addr} {sl21 : Array (Option Value)} {oc21 kV21 dc21 pm21 cd21 ct21 : Value} {f21 : Addr}
    {od22 an22 : Option Addr} {sl22 : Array (Option Value)} {oc22 kV22 dc22 pm22 cd22 ct22 : Value} {f22 : Addr}
    {od23 an23 : Option Addr} {sl23 : Array (Option Value)} {oc23 kV23 dc23 pm23 cd23 ct23 : Value} {f23 : Addr}
    {od24 an24 : Option Addr} {sl24 : Array (Option Value)} {oc24 kV24 dc24 pm24 cd24 ct24 : Value} {f24 : Addr}
    {od25 an25 : Option Addr} {sl25 : Array (Option Value)} {oc25 kV25 dc25 pm25 cd25 ct25 : Value} {f25 : Addr}
    {od26 an26 : Option Addr} {sl26 : Array (Option Value)} {oc26 kV26 dc26 pm26 cd26 ct26 : Value} {f26 : Addr}
    {od27 an27 : Option Addr} {sl27 : Array (Option Value)} {oc27 kV27 dc27 pm27 cd27 ct27 : Value} {f27 : Addr}
    (a1 : PySem.W.nsIn K mainGlobals "greatest_divisor" = some (some (.ref f1))) (l1 : K.lookup f1 = some ⟨oc1, od1, .func (PySem.W.fnOf "greatest_divisor" "greatest_divisor" (defArgs s_greatest_divisor) (defBody s_greatest_divisor) (defScope s_greatest_divisor) .none kV1 dc1 pm1 an1 cd1 ct1), sl1⟩) (c1 : PySem.W.codeIn K cd1 "greatest_divisor" = true) (k1 : PySem.W.keepIn K (.ref f1) = true)
    (a2 : PySem.W.nsIn K mainGlobals "point" = some (some (.ref f2))) (l2 : K.lookup f2 = some ⟨oc2, od2, .func (PySem.W.fnOf "point" "point" (defArgs s_point) (defBody s_point) (defScope s_point) .none kV2 dc2 pm2 an2 cd2 ct2), sl2⟩) (c2 : PySem.W.codeIn K cd2 "point" = true) (k2 : PySem.W.keepIn K (.ref f2) = true)
    (a3 : PySem.W.nsIn K mainGlobals "crossed" = some (some (.ref f3))) (l3 : K.lookup f3 = some ⟨oc3, od3, .func (PySem.W.fnOf "crossed" "crossed" (defArgs s_crossed) (defBody s_crossed) (defScope s_crossed) .none kV3 dc3 pm3 an3 cd3 ct3), sl3⟩) (c3 : PySem.W.codeIn K cd3 "crossed" = true) (k3 : PySem.W.keepIn K (.ref f3) = true)
    (a4 : PySem.W.nsIn K mainGlobals "hand_of" = some (some (.ref f4))) (l4 : K.lookup f4 = some ⟨oc4, od4, .func (PySem.W.fnOf "hand_of" "hand_of" (defArgs s_hand_of) (defBody s_hand_of) (defScope s_hand_of) .none kV4 dc4 pm4 an4 cd4 ct4), sl4⟩) (c4 : PySem.W.codeIn K cd4 "hand_of" = true) (k4 : PySem.W.keepIn K (.ref f4) = true)
    (a5 : PySem.W.nsIn K mainGlobals "meet" = some (some (.ref f5))) (l5 : K.lookup f5 = some ⟨oc5, od5, .func (PySem.W.fnOf "meet" "meet" (defArgs s_meet) (defBody s_meet) (defScope s_meet) .none kV5 dc5 pm5 an5 cd5 ct5), sl5⟩) (c5 : PySem.W.codeIn K cd5 "meet" = true) (k5 : PySem.W.keepIn K (.ref f5) = true)
    (a6 : PySem.W.nsIn K mainGlobals "sides_of" = some (some (.ref f6))) (l6 : K.lookup f6 = some ⟨oc6, od6, .func (PySem.W.fnOf "sides_of" "sides_of" (defArgs s_sides_of) (defBody s_sides_of) (defScope s_sides_of) .none kV6 dc6 pm6 an6 cd6 ct6), sl6⟩) (c6 : PySem.W.codeIn K cd6 "sides_of" = true) (k6 : PySem.W.keepIn K (.ref f6) = true)
    (a7 : PySem.W.nsIn K mainGlobals "cut_ring" = some (some (.ref f7))) (l7 : K.lookup f7 = some ⟨oc7, od7, .func (PySem.W.fnOf "cut_ring" "cut_ring" (defArgs s_cut_ring) (defBody s_cut_ring) (defScope s_cut_ring) .none kV7 dc7 pm7 an7 cd7 ct7), sl7⟩) (c7 : PySem.W.codeIn K cd7 "cut_ring" = true) (k7 : PySem.W.keepIn K (.ref f7) = true)
    (a8 : PySem.W.nsIn K mainGlobals "common" = some (some (.ref f8))) (l8 : K.lookup f8 = some ⟨oc8, od8, .func (PySem.W.fnOf "common" "common" (defArgs s_common) (defBody s_common) (defScope s_common) .none kV8 dc8 pm8 an8 cd8 ct8), sl8⟩) (c8 : PySem.W.codeIn K cd8 "common" = true) (k8 : PySem.W.keepIn K (.ref f8) = true)
    (a9 : PySem.W.nsIn K mainGlobals "_law_cell" = some (some (.ref f9))) (l9 : K.lookup f9 = some ⟨oc9, od9, .func (PySem.W.fnOf "_law_cell" "_law_cell" (defArgs s_law_cell) (defBody s_law_cell) (defScope s_law_cell) .none kV9 dc9 pm9 an9 cd9 ct9), sl9⟩) (c9 : PySem.W.codeIn K cd9 "_law_cell" = true) (k9 : PySem.W.keepIn K (.ref f9) = true)
    (a10 : PySem.W.nsIn K mainGlobals "_law_bag" = some (some (.ref f10))) (l10 : K.lookup f10 = some ⟨oc10, od10, .func (PySem.W.fnOf "_law_bag" "_law_bag" (defArgs s_law_bag) (defBody s_law_bag) (defScope s_law_bag) .none kV10 dc10 pm10 an10 cd10 ct10), sl10⟩) (c10 : PySem.W.codeIn K cd10 "_law_bag" = true) (k10 : PySem.W.keepIn K (.ref f10) = true)
    (a11 : PySem.W.nsIn K mainGlobals "_law_digit" = some (some (.ref f11))) (l11 : K.lookup f11 = some ⟨oc11, od11, .func (PySem.W.fnOf "_law_digit" "_law_digit" (defArgs s_law_digit) (defBody s_law_digit) (defScope s_law_digit) .none kV11 dc11 pm11 an11 cd11 ct11), sl11⟩) (c11 : PySem.W.codeIn K cd11 "_law_digit" = true) (k11 : PySem.W.keepIn K (.ref f11) = true)
    (a12 : PySem.W.nsIn K mainGlobals "_law_point" = some (some (.ref f12))) (l12 : K.lookup f12 = some ⟨oc12, od12, .func (PySem.W.fnOf "_law_point" "_law_point" (defArgs s_law_point) (defBody s_law_point) (defScope s_law_point) .none kV12 dc12 pm12 an12 cd12 ct12), sl12⟩) (c12 : PySem.W.codeIn K cd12 "_law_point" = true) (k12 : PySem.W.keepIn K (.ref f12) = true)
    (a13 : PySem.W.nsIn K mainGlobals "_law_slid" = some (some (.ref f13))) (l13 : K.lookup f13 = some ⟨oc13, od13, .func (PySem.W.fnOf "_law_slid" "_law_slid" (defArgs s_law_slid) (defBody s_law_slid) (defScope s_law_slid) .none kV13 dc13 pm13 an13 cd13 ct13), sl13⟩) (c13 : PySem.W.codeIn K cd13 "_law_slid" = true) (k13 : PySem.W.keepIn K (.ref f13) = true)
    (a14 : PySem.W.nsIn K mainGlobals "_law_turned" = some (some (.ref f14))) (l14 : K.lookup f14 = some ⟨oc14, od14, .func (PySem.W.fnOf "_law_turned" "_law_turned" (defArgs s_law_turned) (defBody s_law_turned) (defScope s_law_turned) .none kV14 dc14 pm14 an14 cd14 ct14), sl14⟩) (c14 : PySem.W.codeIn K cd14 "_law_turned" = true) (k14 : PySem.W.keepIn K (.ref f14) = true)
    (a15 : PySem.W.nsIn K mainGlobals "_law_side" = some (some (.ref f15))) (l15 : K.lookup f15 = some ⟨oc15, od15, .func (PySem.W.fnOf "_law_side" "_law_side" (defArgs s_law_side) (defBody s_law_side) (defScope s_law_side) .none kV15 dc15 pm15 an15 cd15 ct15), sl15⟩) (c15 : PySem.W.codeIn K cd15 "_law_side" = true) (k15 : PySem.W.keepIn K (.ref f15) = true)
    (a16 : PySem.W.nsIn K mainGlobals "_law_is_point" = some (some (.ref f16))) (l16 : K.lookup f16 = some ⟨oc16, od16, .func (PySem.W.fnOf "_law_is_point" "_law_is_point" (defArgs s_law_is_point) (defBody s_law_is_point) (defScope s_law_is_point) .none kV16 dc16 pm16 an16 cd16 ct16), sl16⟩) (c16 : PySem.W.codeIn K cd16 "_law_is_point" = true) (k16 : PySem.W.keepIn K (.ref f16) = true)
    (a17 : PySem.W.nsIn K mainGlobals "_law_is_convex" = some (some (.ref f17))) (l17 : K.lookup f17 = some ⟨oc17, od17, .func (PySem.W.fnOf "_law_is_convex" "_law_is_convex" (defArgs s_law_is_convex) (defBody s_law_is_convex) (defScope s_law_is_convex) .none kV17 dc17 pm17 an17 cd17 ct17), sl17⟩) (c17 : PySem.W.codeIn K cd17 "_law_is_convex" = true) (k17 : PySem.W.keepIn K (.ref f17) = true)
    (a18 : PySem.W.nsIn K mainGlobals "_law_within" = some (some (.ref f18))) (l18 : K.lookup f18 = some ⟨oc18, od18, .func (PySem.W.fnOf "_law_within" "_law_within" (defArgs s_law_within) (defBody s_law_within) (defScope s_law_within) .none kV18 dc18 pm18 an18 cd18 ct18), sl18⟩) (c18 : PySem.W.codeIn K cd18 "_law_within" = true) (k18 : PySem.W.keepIn K (.ref f18) = true)
    (a19 : PySem.W.nsIn K mainGlobals "_law_twice_area" = some (some (.ref f19))) (l19 : K.lookup f19 = some ⟨oc19, od19, .func (PySem.W.fnOf "_law_twice_area" "_law_twice_area" (defArgs s_law_twice_area) (defBody s_law_twice_area) (defScope s_law_twice_area) .none kV19 dc19 pm19 an19 cd19 ct19), sl19⟩) (c19 : PySem.W.codeIn K cd19 "_law_twice_area" = true) (k19 : PySem.W.keepIn K (.ref f19) = true)
    (a20 : PySem.W.nsIn K mainGlobals "_law_place" = some (some (.ref f20))) (l20 : K.lookup f20 = some ⟨oc20, od20, .func (PySem.W.fnOf "_law_place" "_law_place" (defArgs s_law_place) (defBody s_law_place) (defScope s_law_place) .none kV20 dc20 pm20 an20 cd20 ct20), sl20⟩) (c20 : PySem.W.codeIn K cd20 "_law_place" = true) (k20 : PySem.W.keepIn K (.ref f20) = true)
    (a21 : PySem.W.nsIn K mainGlobals "_law_step" = some (some (.ref f21))) (l21 : K.lookup f21 = some ⟨oc21, od21, .func (PySem.W.fnOf "_law_step" "_law_step" (defArgs s_law_step) (defBody s_law_step) (defScope s_law_step) .none kV21 dc21 pm21 an21 cd21 ct21), sl21⟩) (c21 : PySem.W.codeIn K cd21 "_law_step" = true) (k21 : PySem.W.keepIn K (.ref f21) = true)
    (a22 : PySem.W.nsIn K mainGlobals "_law_three" = some (some (.ref f22))) (l22 : K.lookup f22 = some ⟨oc22, od22, .func (PySem.W.fnOf "_law_three" "_law_three" (defArgs s_law_three) (defBody s_law_three) (defScope s_law_three) .none kV22 dc22 pm22 an22 cd22 ct22), sl22⟩) (c22 : PySem.W.codeIn K cd22 "_law_three" = true) (k22 : PySem.W.keepIn K (.ref f22) = true)
    (a23 : PySem.W.nsIn K mainGlobals "_law_bulging" = some (some (.ref f23))) (l23 : K.lookup f23 = some ⟨oc23, od23, .func (PySem.W.fnOf "_law_bulging" "_law_bulging" (defArgs s_law_bulging) (defBody s_law_bulging) (defScope s_law_bulging) .none kV23 dc23 pm23 an23 cd23 ct23), sl23⟩) (c23 : PySem.W.codeIn K cd23 "_law_bulging" = true) (k23 : PySem.W.keepIn K (.ref f23) = true)
    (a24 : PySem.W.nsIn K mainGlobals "_law_spot" = some (some (.ref f24))) (l24 : K.lookup f24 = some ⟨oc24, od24, .func (PySem.W.fnOf "_law_spot" "_law_spot" (defArgs s_law_spot) (defBody s_law_spot) (defScope s_law_spot) .none kV24 dc24 pm24 an24 cd24 ct24), sl24⟩) (c24 : PySem.W.codeIn K cd24 "_law_spot" = true) (k24 : PySem.W.keepIn K (.ref f24) = true)
    (a25 : PySem.W.nsIn K mainGlobals "_law_mixed" = some (some (.ref f25))) (l25 : K.lookup f25 = some ⟨oc25, od25, .func (PySem.W.fnOf "_law_mixed" "_law_mixed" (defArgs s_law_mixed) (defBody s_law_mixed) (defScope s_law_mixed) .none kV25 dc25 pm25 an25 cd25 ct25), sl25⟩) (c25 : PySem.W.codeIn K cd25 "_law_mixed" = true) (k25 : PySem.W.keepIn K (.ref f25) = true)
    (a26 : PySem.W.nsIn K mainGlobals "_law_second" = some (some (.ref f26))) (l26 : K.lookup f26 = some ⟨oc26, od26, .func (PySem.W.fnOf "_law_second" "_law_second" (defArgs s_law_second) (defBody s_law_second) (defScope s_law_second) .none kV26 dc26 pm26 an26 cd26 ct26), sl26⟩) (c26 : PySem.W.codeIn K cd26 "_law_second" = true) (k26 : PySem.W.keepIn K (.ref f26) = true)
    (a27 : PySem.W.nsIn K mainGlobals "law" = some (some (.ref f27))) (l27 : K.lookup f27 = some ⟨oc27, od27, .func (PySem.W.fnOf "law" "law" (defArgs s_law) (defBody s_law) (defScope s_law) .none kV27 dc27 pm27 an27 cd27 ct27), sl27⟩) (c27 : PySem.W.codeIn K cd27 "law" = true) (k27 : PySem.W.keepIn K (.ref f27) = true)
    (z_len : PySem.W.nsIn K mainGlobals "len" = some none)
    (z_abs : PySem.W.nsIn K mainGlobals "abs" = some none)
    (z_int : PySem.W.nsIn K mainGlobals "int" = some none)
    (z_bool : PySem.W.nsIn K mainGlobals "bool" = some none)
    (z_tuple : PySem.W.nsIn K mainGlobals "tuple" = some none)
    (z_isinstance : PySem.W.nsIn K mainGlobals "isinstance" = some none)
    (z_range : PySem.W.nsIn K mainGlobals "range" = some none)
    (z_all : PySem.W.nsIn K mainGlobals "all" = some none)
    (z_sum : PySem.W.nsIn K mainGlobals "sum" = some none)
    (z_list : PySem.W.nsIn K mainGlobals "list" = some none)
    (z_ValueError : PySem.W.nsIn K mainGlobals "ValueError" = some none)
    (z_zip : PySem.W.nsIn K mainGlobals "zip" = some none)
    (z_str : PySem.W.nsIn K mainGlobals "str" = some none)
    (z_enumerate : PySem.W.nsIn K mainGlobals "enumerate" = some none)
    : ∃ fd : FuncData, (∀ (s : Shared) (v : Value), BindsTo s fd ⟨[v], []⟩ [("_law_script", v)]) ∧ ∀ base : Heap, K.In base → base.Ns mainGlobals mg → FnOk l.prog w K mg base CX0 7 fa fd ["_law_script"] (spLaw K) := by
  have e := hfa.symm.trans (PySem.W.mg_of X G a27)
  cases e
  have F1 := fun_mk (st := s_greatest_divisor) l1 c1 k1
  have b1 := F1.binds (ps := ["one", "other"]) fun _ _ _ _ _ _ us hl => match us, hl with | [_, _], _ => rfl
  have g_greatest_divisor : Fnd K mg "greatest_divisor" s_greatest_divisor ["one", "other"] := ⟨_, _, PySem.W.mg_of X G a1, F1, b1⟩
  have F2 := fun_mk (st := s_point) l2 c2 k2
  have b2 := F2.binds (ps := ["a", "b", "n"]) fun _ _ _ _ _ _ us hl => match us, hl with | [_, _, _], _ => rfl
  have g_point : Fnd K mg "point" s_point ["a", "b", "n"] := ⟨_, _, PySem.W.mg_of X G a2, F2, b2⟩
  have F3 := fun_mk (st := s_crossed) l3 c3 k3
  have b3 := F3.binds (ps := ["one", "other"]) fun _ _ _ _ _ _ us hl => match us, hl with | [_, _], _ => rfl
  have g_crossed : Fnd K mg "crossed" s_crossed ["one", "other"] := ⟨_, _, PySem.W.mg_of X G a3, F3, b3⟩
  have F4 := fun_mk (st := s_hand_of) l4 c4 k4
  have b4 := F4.binds (ps := ["line", "p"]) fun _ _ _ _ _ _ us hl => match us, hl with | [_, _], _ => rfl
  have g_hand_of : Fnd K mg "hand_of" s_hand_of ["line", "p"] := ⟨_, _, PySem.W.mg_of X G a4, F4, b4⟩
  have F5 := fun_mk (st := s_meet) l5 c5 k5
  have b5 := F5.binds (ps := ["p", "q", "r", "s"]) fun _ _ _ _ _ _ us hl => match us, hl with | [_, _, _, _], _ => rfl
  have g_meet : Fnd K mg "meet" s_meet ["p", "q", "r", "s"] := ⟨_, _, PySem.W.mg_of X G a5, F5, b5⟩
  have F6 := fun_mk (st := s_sides_of) l6 c6 k6
  have b6 := F6.binds (ps := ["ring"]) fun _ _ _ _ _ _ us hl => match us, hl with | [_], _ => rfl
  have g_sides_of : Fnd K mg "sides_of" s_sides_of ["ring"] := ⟨_, _, PySem.W.mg_of X G a6, F6, b6⟩
  have F7 := fun_mk (st := s_cut_ring) l7 c7 k7
  have b7 := F7.binds (ps := ["ring", "p", "q"]) fun _ _ _ _ _ _ us hl => match us, hl with | [_, _, _], _ => rfl
  have g_cut_ring : Fnd K mg "cut_ring" s_cut_ring ["ring", "p", "q"] := ⟨_, _, PySem.W.mg_of X G a7, F7, b7⟩
  have F8 := fun_mk (st := s_common) l8 c8 k8
  have b8 := F8.binds (ps := ["one", "other"]) fun _ _ _ _ _ _ us hl => match us, hl with | [_, _], _ => rfl
  have g_common : Fnd K mg "common" s_common ["one", "other"] := ⟨_, _, PySem.W.mg_of X G a8, F8, b8⟩
  have F9 := fun_mk (st := s_law_cell) l9 c9 k9
  have b9 := F9.binds (ps := ["_law_script", "_law_k"]) fun _ _ _ _ _ _ us hl => match us, hl with | [_, _], _ => rfl
  have g_law_cell : Fnd K mg "_law_cell" s_law_cell ["_law_script", "_law_k"] := ⟨_, _, PySem.W.mg_of X G a9, F9, b9⟩
  have F10 := fun_mk (st := s_law_bag) l10 c10 k10
  have b10 := F10.binds (ps := ["_law_cell_here"]) fun _ _ _ _ _ _ us hl => match us, hl with | [_], _ => rfl
  have g_law_bag : Fnd K mg "_law_bag" s_law_bag ["_law_cell_here"] := ⟨_, _, PySem.W.mg_of X G a10, F10, b10⟩
  have F11 := fun_mk (st := s_law_digit) l11 c11 k11
  have b11 := F11.binds (ps := ["_law_bag_here", "_law_many"]) fun _ _ _ _ _ _ us hl => match us, hl with | [_, _], _ => rfl
  have g_law_digit : Fnd K mg "_law_digit" s_law_digit ["_law_bag_here", "_law_many"] := ⟨_, _, PySem.W.mg_of X G a11, F11, b11⟩
  have F12 := fun_mk (st := s_law_point) l12 c12 k12
  have b12 := F12.binds (ps := ["_law_a", "_law_b", "_law_n"]) fun _ _ _ _ _ _ us hl => match us, hl with | [_, _, _], _ => rfl
  have g_law_point : Fnd K mg "_law_point" s_law_point ["_law_a", "_law_b", "_law_n"] := ⟨_, _, PySem.W.mg_of X G a12, F12, b12⟩
  have F13 := fun_mk (st := s_law_slid) l13 c13 k13
  have b13 := F13.binds (ps := ["_law_p", "_law_v"]) fun _ _ _ _ _ _ us hl => match us, hl with | [_, _], _ => rfl
  have g_law_slid : Fnd K mg "_law_slid" s_law_slid ["_law_p", "_law_v"] := ⟨_, _, PySem.W.mg_of X G a13, F13, b13⟩
  have F14 := fun_mk (st := s_law_turned) l14 c14 k14
  have b14 := F14.binds (ps := ["_law_p"]) fun _ _ _ _ _ _ us hl => match us, hl with | [_], _ => rfl
  have g_law_turned : Fnd K mg "_law_turned" s_law_turned ["_law_p"] := ⟨_, _, PySem.W.mg_of X G a14, F14, b14⟩
  have F15 := fun_mk (st := s_law_side) l15 c15 k15
  have b15 := F15.binds (ps := ["_law_p", "_law_q", "_law_r"]) fun _ _ _ _ _ _ us hl => match us, hl with | [_, _, _], _ => rfl
  have g_law_side : Fnd K mg "_law_side" s_law_side ["_law_p", "_law_q", "_law_r"] := ⟨_, _, PySem.W.mg_of X G a15, F15, b15⟩
  have F16 := fun_mk (st := s_law_is_point) l16 c16 k16
  have b16 := F16.binds (ps := ["_law_p"]) fun _ _ _ _ _ _ us hl => match us, hl with | [_], _ => rfl
  have g_law_is_point : Fnd K mg "_law_is_point" s_law_is_point ["_law_p"] := ⟨_, _, PySem.W.mg_of X G a16, F16, b16⟩
  have F17 := fun_mk (st := s_law_is_convex) l17 c17 k17
  have b17 := F17.binds (ps := ["_law_ring"]) fun _ _ _ _ _ _ us hl => match us, hl with | [_], _ => rfl
  have g_law_is_convex : Fnd K mg "_law_is_convex" s_law_is_convex ["_law_ring"] := ⟨_, _, PySem.W.mg_of X G a17, F17, b17⟩
  have F18 := fun_mk (st := s_law_within) l18 c18 k18
  have b18 := F18.binds (ps := ["_law_ring", "_law_p"]) fun _ _ _ _ _ _ us hl => match us, hl with | [_, _], _ => rfl
  have g_law_within : Fnd K mg "_law_within" s_law_within ["_law_ring", "_law_p"] := ⟨_, _, PySem.W.mg_of X G a18, F18, b18⟩
  have F19 := fun_mk (st := s_law_twice_area) l19 c19 k19
  have b19 := F19.binds (ps := ["_law_ring"]) fun _ _ _ _ _ _ us hl => match us, hl with | [_], _ => rfl
  have g_law_twice_area : Fnd K mg "_law_twice_area" s_law_twice_area ["_law_ring"] := ⟨_, _, PySem.W.mg_of X G a19, F19, b19⟩
  have F20 := fun_mk (st := s_law_place) l20 c20 k20
  have b20 := F20.binds (ps := ["_law_bag_here", "_law_most"]) fun _ _ _ _ _ _ us hl => match us, hl with | [_, _], _ => rfl
  have g_law_place : Fnd K mg "_law_place" s_law_place ["_law_bag_here", "_law_most"] := ⟨_, _, PySem.W.mg_of X G a20, F20, b20⟩
  have F21 := fun_mk (st := s_law_step) l21 c21 k21
  have b21 := F21.binds (ps := ["_law_bag_here", "_law_most"]) fun _ _ _ _ _ _ us hl => match us, hl with | [_, _], _ => rfl
  have g_law_step : Fnd K mg "_law_step" s_law_step ["_law_bag_here", "_law_most"] := ⟨_, _, PySem.W.mg_of X G a21, F21, b21⟩
  have F22 := fun_mk (st := s_law_three) l22 c22 k22
  have b22 := F22.binds (ps := ["_law_bag_here", "_law_most"]) fun _ _ _ _ _ _ us hl => match us, hl with | [_, _], _ => rfl
  have g_law_three : Fnd K mg "_law_three" s_law_three ["_law_bag_here", "_law_most"] := ⟨_, _, PySem.W.mg_of X G a22, F22, b22⟩
  have F23 := fun_mk (st := s_law_bulging) l23 c23 k23
  have b23 := F23.binds (ps := ["_law_bag_here", "_law_most"]) fun _ _ _ _ _ _ us hl => match us, hl with | [_, _], _ => rfl
  have g_law_bulging : Fnd K mg "_law_bulging" s_law_bulging ["_law_bag_here", "_law_most"] := ⟨_, _, PySem.W.mg_of X G a23, F23, b23⟩
  have F24 := fun_mk (st := s_law_spot) l24 c24 k24
  have b24 := F24.binds (ps := ["_law_bag_here", "_law_most"]) fun _ _ _ _ _ _ us hl => match us, hl with | [_, _], _ => rfl
  have g_law_spot : Fnd K mg "_law_spot" s_law_spot ["_law_bag_here", "_law_most"] := ⟨_, _, PySem.W.mg_of X G a24, F24, b24⟩
  have F25 := fun_mk (st := s_law_mixed) l25 c25 k25
  have b25 := F25.binds (ps := ["_law_ring", "_law_bag_here"]) fun _ _ _ _ _ _ us hl => match us, hl with | [_, _], _ => rfl
  have g_law_mixed : Fnd K mg "_law_mixed" s_law_mixed ["_law_ring", "_law_bag_here"] := ⟨_, _, PySem.W.mg_of X G a25, F25, b25⟩
  have F26 := fun_mk (st := s_law_second) l26 c26 k26
  have b26 := F26.binds (ps := ["_law_ring", "_law_bag_here"]) fun _ _ _ _ _ _ us hl => match us, hl with | [_, _], _ => rfl
  have g_law_second : Fnd K mg "_law_second" s_law_second ["_law_ring", "_law_bag_here"] := ⟨_, _, PySem.W.mg_of X G a26, F26, b26⟩
  have F27 := fun_mk (st := s_law) l27 c27 k27
  have b27 := F27.binds (ps := ["_law_script"]) fun _ _ _ _ _ _ us hl => match us, hl with | [_], _ => rfl
  have g_law : Fnd K mg "law" s_law ["_law_script"] := ⟨_, _, PySem.W.mg_of X G a27, F27, b27⟩
  have B : Blts mg := ⟨PySem.W.mg_none_of X G z_len, PySem.W.mg_none_of X G z_abs, PySem.W.mg_none_of X G z_int, PySem.W.mg_none_of X G z_bool, PySem.W.mg_none_of X G z_tuple, PySem.W.mg_none_of X G z_isinstance, PySem.W.mg_none_of X G z_range, PySem.W.mg_none_of X G z_all, PySem.W.mg_none_of X G z_sum, PySem.W.mg_none_of X G z_list, PySem.W.mg_none_of X G z_ValueError, PySem.W.mg_none_of X G z_zip, PySem.W.mg_none_of X G z_str, PySem.W.mg_none_of X G z_enumerate⟩
  refine ⟨PySem.W.fnOf "law" "law" (defArgs s_law) (defBody s_law) (defScope s_law) .none kV27 dc27 pm27 an27 cd27 ct27, fun s v => .of_eq rfl, fun base _ _ => ?_⟩
  have q_law_cell := ok_law_cell (P := l.prog) (w := w) (base := base) B   g_law_cell 
  have q_bagC := ok_bagC (P := l.prog) (w := w) (base := base) B   g_law_bag 
  have q_digitC := ok_digitC (P := l.prog) (w := w) (base := base) B   g_law_digit 
  have q_ptC := ok_ptC (P := l.prog) (w := w) (base := base) B   g_law_point 
  have q_slidM := ok_slidM (P := l.prog) (w := w) (base := base) B   g_law_slid q_ptC
  have q_turnC := ok_turnC (P := l.prog) (w := w) (base := base) B   g_law_turned 
  have q_sideM := ok_sideM (P := l.prog) (w := w) (base := base) B   g_law_side 
  have q_isptC := ok_isptC (P := l.prog) (w := w) (base := base) B   g_law_is_point q_ptC
  have q_cvxM := ok_cvxM (P := l.prog) (w := w) (base := base) B   g_law_is_convex q_isptC q_sideM
  have q_wiM := ok_wiM (P := l.prog) (w := w) (base := base) B   g_law_within q_sideM
  have q_areaF := ok_areaF (P := l.prog) (w := w) (base := base) B   g_law_twice_area q_ptC
  have q_placeS := ok_placeS (P := l.prog) (w := w) (base := base) B   g_law_place q_digitC q_ptC
  have q_stepS := ok_stepS (P := l.prog) (w := w) (base := base) B   g_law_step q_digitC q_ptC
  have q_threeM := ok_threeM (P := l.prog) (w := w) (base := base) B   g_law_three q_placeS q_sideM
  have q_bulgS := ok_bulgS (P := l.prog) (w := w) (base := base) B   g_law_bulging q_threeM q_digitC q_placeS q_cvxM
  have q_spotS := ok_spotS (P := l.prog) (w := w) (base := base) B   g_law_spot q_digitC q_ptC
  have q_mixS := ok_mixS (P := l.prog) (w := w) (base := base) B   g_law_mixed q_digitC q_slidM q_ptC
  have q_secS := ok_secS (P := l.prog) (w := w) (base := base) B   g_law_second q_digitC q_stepS q_slidM q_turnC q_bulgS
  have q_greatest_divisor := ok_greatest_divisor (P := l.prog) (w := w) (base := base) B   g_greatest_divisor 
  have q_point := ok_point (P := l.prog) (w := w) (base := base) B   g_point q_greatest_divisor
  have q_crossed := ok_crossed (P := l.prog) (w := w) (base := base) B   g_crossed 
  have q_hand_of := ok_hand_of (P := l.prog) (w := w) (base := base) B   g_hand_of 
  have q_meet := ok_meet (P := l.prog) (w := w) (base := base) B   g_meet q_crossed q_point
  have q_cut_ringN := ok_cut_ringN (P := l.prog) (w := w) (base := base) B   g_cut_ring q_crossed q_hand_of q_meet
  have q_sides_of := ok_sides_of (P := l.prog) (w := w) (base := base) B   g_sides_of 
  have q_comN := ok_comN (P := l.prog) (w := w) (base := base) B   g_common q_sides_of q_cut_ringN
  exact ok_law B F27 q_bulgS q_bagC q_law_cell q_secS q_comN q_spotS q_mixS q_cvxM q_areaF q_wiM
theorem walk {l : PySem.W.OpenLaw} {q : Program} {loose : List Str} {XP : (Str → Option Value) → Heap → Prop} {YP : World → Heap → Prop} {d : DefRec} {K : Params → PySem.W.Frag} (hn : l.most = some 63) (hdf : d.params.defaults = [])
    (hY : ∀ (w : World) (h : Heap), YP w h → (K w.params).In h)
    (F : ∀ (w : World) (mg : Str → Option Value) (fa : Addr) (h : Heap), (K w.params).In h → h.Ns mainGlobals mg → mg d.name = some (.ref fa) →
      ∃ fd : FuncData, (∀ (s : Shared) (u : Value), BindsTo s fd ⟨[u], []⟩ [("_law_script", u)]) ∧ ∀ base : Heap, (K w.params).In base → base.Ns mainGlobals mg → FnOk l.prog w (K w.params) mg base CX0 7 fa fd ["_law_script"] (spLaw (K w.params))) :
    PySem.W.WalkO q loose XP YP l.row.toRowW d [] (fun f vs => PySem.call f vs) :=
  L2.walk_of (n := 63) (k := 7) (x := "_law_script") (CX := fun _ => CX0) (sp := fun w => spLaw (K w.params)) hn (by decide) hdf ⟨rfl, by decide, by decide⟩ hY F (fun _ _ a ns hl _ hS => ⟨a, ns, rfl, hS, hl, fun _ => rfl⟩) fun _ _ _ _ _ z => z
end Cut
open PySem PySem.W PyProof.Rows
set_option maxRecDepth 100000 in
set_option maxHeartbeats 0 in
theorem PySem.Challenge.cw_slidecut_k48_what_two_rings_have_in_comm_holds : PySem.Challenge.rw_slidecut_k48_what_two_rings_have_in_comm.Holds := by
  w_on; o_law; k_head; (case hw => w_witness2)
  k_fill
  refine Cut.walk (l := PySem.Challenge.rw_slidecut_k48_what_two_rings_have_in_comm) rfl rfl (fun w h Y => PySem.W.kIn_of Y) ?F
  case F =>
    intro w mg fa h KX G hmg
    refine' Cut.all_mk KX G hmg ?a1 ?l1 ?c1 ?k1 ?a2 ?l2 ?c2 ?k2 ?a3 ?l3 ?c3 ?k3 ?a4 ?l4 ?c4 ?k4 ?a5 ?l5 ?c5 ?k5 ?a6 ?l6 ?c6 ?k6 ?a7 ?l7 ?c7 ?k7 ?a8 ?l8 ?c8 ?k8 ?a9 ?l9 ?c9 ?k9 ?a10 ?l10 ?c10 ?k10 ?a11 ?l11 ?c11 ?k11 ?a12 ?l12 ?c12 ?k12 ?a13 ?l13 ?c13 ?k13 ?a14 ?l14 ?c14 ?k14 ?a15 ?l15 ?c15 ?k15 ?a16 ?l16 ?c16 ?k16 ?a17 ?l17 ?c17 ?k17 ?a18 ?l18 ?c18 ?k18 ?a19 ?l19 ?c19 ?k19 ?a20 ?l20 ?c20 ?k20 ?a21 ?l21 ?c21 ?k21 ?a22 ?l22 ?c22 ?k22 ?a23 ?l23 ?c23 ?k23 ?a24 ?l24 ?c24 ?k24 ?a25 ?l25 ?c25 ?k25 ?a26 ?l26 ?c26 ?k26 ?a27 ?l27 ?c27 ?k27 ?z_len ?z_abs ?z_int ?z_bool ?z_tuple ?z_isinstance ?z_range ?z_all ?z_sum ?z_list ?z_ValueError ?z_zip ?z_str ?z_enumerate 
    (case a1 => k_is); (case l1 => k_is); (case c1 => k_is); (case k1 => k_is)
    (case a2 => k_is); (case l2 => k_is); (case c2 => k_is); (case k2 => k_is)
    (case a3 => k_is); (case l3 => k_is); (case c3 => k_is); (case k3 => k_is)
    (case a4 => k_is); (case l4 => k_is); (case c4 => k_is); (case k4 => k_is)
    (case a5 => k_is); (case l5 => k_is); (case c5 => k_is); (case k5 => k_is)
    (case a6 => k_is); (case l6 => k_is); (case c6 => k_is); (case k6 => k_is)
    (case a7 => k_is); (case l7 => k_is); (case c7 => k_is); (case k7 => k_is)
    (case a8 => k_is); (case l8 => k_is); (case c8 => k_is); (case k8 => k_is)
    (case a9 => k_is); (case l9 => k_is); (case c9 => k_is); (case k9 => k_is)
    (case a10 => k_is); (case l10 => k_is); (case c10 => k_is); (case k10 => k_is)
    (case a11 => k_is); (case l11 => k_is); (case c11 => k_is); (case k11 => k_is)
    (case a12 => k_is); (case l12 => k_is); (case c12 => k_is); (case k12 => k_is)
    (case a13 => k_is); (case l13 => k_is); (case c13 => k_is); (case k13 => k_is)
    (case a14 => k_is); (case l14 => k_is); (case c14 => k_is); (case k14 => k_is)
    (case a15 => k_is); (case l15 => k_is); (case c15 => k_is); (case k15 => k_is)
    (case a16 => k_is); (case l16 => k_is); (case c16 => k_is); (case k16 => k_is)
    (case a17 => k_is); (case l17 => k_is); (case c17 => k_is); (case k17 => k_is)
    (case a18 => k_is); (case l18 => k_is); (case c18 => k_is); (case k18 => k_is)
    (case a19 => k_is); (case l19 => k_is); (case c19 => k_is); (case k19 => k_is)
    (case a20 => k_is); (case l20 => k_is); (case c20 => k_is); (case k20 => k_is)
    (case a21 => k_is); (case l21 => k_is); (case c21 => k_is); (case k21 => k_is)
    (case a22 => k_is); (case l22 => k_is); (case c22 => k_is); (case k22 => k_is)
    (case a23 => k_is); (case l23 => k_is); (case c23 => k_is); (case k23 => k_is)
    (case a24 => k_is); (case l24 => k_is); (case c24 => k_is); (case k24 => k_is)
    (case a25 => k_is); (case l25 => k_is); (case c25 => k_is); (case k25 => k_is)
    (case a26 => k_is); (case l26 => k_is); (case c26 => k_is); (case k26 => k_is)
    (case a27 => k_is); (case l27 => k_is); (case c27 => k_is); (case k27 => k_is)
    (case z_len => k_is)
    (case z_abs => k_is)
    (case z_int => k_is)
    (case z_bool => k_is)
    (case z_tuple => k_is)
    (case z_isinstance => k_is)
    (case z_range => k_is)
    (case z_all => k_is)
    (case z_sum => k_is)
    (case z_list => k_is)
    (case z_ValueError => k_is)
    (case z_zip => k_is)
    (case z_str => k_is)
    (case z_enumerate => k_is)
#print axioms PySem.Challenge.cw_slidecut_k48_what_two_rings_have_in_comm_holds