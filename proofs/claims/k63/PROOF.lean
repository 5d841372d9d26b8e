import PyProof.Rows.All
import Wide.All
import OpenK.AllK
import Wide.FinOn
import Lean
import PyProof.EqAt
import PyProof.EqKinds
import PyProof.TupleCall
import PyProof.Cells
import PyProof.SeqI3
import PyProof.Rows.SortWalk
import KE.KSortTup
import PyProof.DictItemsLoops
import PyProof.Rows.Range3
import PyProof.DictRoadsH
import PyProof.DictKinds
import PyProof.DictIter
import PyProof.DictWalks
import PyProof.NeKinds
import PyProof.ExcBaseAll.ValueError
import PyProof.ZipIter
import PyProof.ListCopy
import PyProof.CollectWalk
import KE.KIntText
import KE.KxPart
import PyProof.SliceStr2
import PyProof.Rows.StrFirst
import PyProof.StrLawsFirst
import KE.KxText
import PyProof.StrLawsIn
import PyProof.StrBlockI
import PyProof.Rows.StrNews
import PyProof.EnumMake
import PyProof.EnumFor
import PyProof.EnumStmt
import PyProof.Rows.SetFrom
import PyProof.MinMaxWalk
import PyProof.WalkInts
import PyProof.FactsAll.tuple_1
import PyProof.FactsAll.tuple_2
import PySem.Challenge.RW_slidecut_k63_plans_led_back
set_option Elab.async false
set_option linter.all false
namespace L3
open PySem PySem.W
def nsH (h:Heap) (name:Str):Option (Option Value):=match h.get? mainGlobals with
 | some ⟨_,_,.dict es _,_⟩=>(match es.toList.find? (·.key.isStr name) with
   | some e=>some (some e.val)
   | none=>if es.toList.any (·.refKey) then none else some none)
 | _=>none
def cdH (h:Heap) (cd:Value) (q:Str):Bool:=match cd with
 | .ref c=>(match h.get? c with
   | some ⟨_,_,.fields vs,_⟩=>(match vs.toList with | _ :: .str n _ :: _=>n == q | _=>false)
   | _=>false)
 | _=>false
def seeF (h:Heap) (x:Str):Option (Str×Str×Arguments×FuncBody×Scope×Addr×List (Str×Addr)×Value×Addr×Bool):=match nsH h x with
 | some (some (.ref f))=>(match h.get? f with
  | some ⟨_,_,.func fd,_⟩=>some (fd.name,fd.qualname,fd.params,fd.body,fd.scope,fd.globals,fd.closure,fd.defaults,fd.builtins,cdH h fd.code x)
  | _=>none)
 | _=>none
def dueF (x:Str) (st:Stmt):Option (Str×Str×Arguments×FuncBody×Scope×Addr×List (Str×Addr)×Value×Addr×Bool):=match st with
 | .FunctionDef _ a b _ _ _ sc _ _ _=>some (x,x,a,.stmts b,sc,mainGlobals,[],.none,builtinsNs,true)
 | _=>some (x,x,⟨[],[],none,[],[],none,[]⟩,.stmts [],{ kind:=.function,names:=[],isGenerator:=false,isCoroutine:=false },mainGlobals,[],.none,builtinsNs,true)
def seeT (h:Heap) (x:Str):Option (Str×Int×Int):=match nsH h x with
 | some (some (.ref p))=>(match h.get? p with
  | some ⟨.type "tuple", _,.seq its _,_⟩=>(match its.toList with | [.int i _,.int j _]=>some (x,i,j) | _=>none)
  | _=>none)
 | _=>none
def seeC (h:Heap) (x:Str):Option (Str×(Int ⊕ Str)):=match nsH h x with
 | some (some (.int i _))=>some (x,.inl i)
 | some (some (.str s _))=>some (x,.inr s)
 | _=>none
abbrev nF (x:Str) (s:Stmt):Str×Stmt:=(x,s)
structure Tabs where
 fs:List (Str×Stmt)
 bs:List Str
 ts:List (Str×Int×Int)
 cs:List (Str×(Int ⊕ Str))
abbrev Seen:Type:=List (Option (Str×Str×Arguments×FuncBody×Scope×Addr×List (Str×Addr)×Value×Addr×Bool))×List (Option (Option Value))×List (Option (Str×Int×Int))×List (Option (Str×(Int ⊕ Str)))
def obsH (t:Tabs) (s:Shared):Seen:=(t.fs.map fun p=>seeF s.heap p.1,t.bs.map fun b=>nsH s.heap b,t.ts.map fun p=>seeT s.heap p.1,t.cs.map fun p=>seeC s.heap p.1)
def valH (t:Tabs) (_:World):Seen:=(t.fs.map fun p=>dueF p.1 p.2,t.bs.map fun _=>some none,t.ts.map fun p=>some p,t.cs.map fun p=>some p)
theorem map_two {α β γ:Type} {E:Option α} {F:α→β×γ} {a:β×γ} (h1:E.map (fun s=>(F s).1)=some a.1) (h2:E.map (fun s=>(F s).2)=some a.2):E.map F=some a:=by
 cases E with
 | none=>cases h1
 | some x =>
  have e1:=Option.some.inj h1
  have e2:=Option.some.inj h2
  exact congrArg some (Prod.ext e1 e2)
theorem left_of {p q:Program} {loose:List Str} {Xt:Shared→Bool} {α:Type} {Yf:Shared→α} {Ya:World→α} {N:Nat} (h1:∀ w:World,(openEnds treeTable p w N).map (fun s=>(openSeen q loose (importedModules p.main.body) Xt true s).1)=some (openGood q loose).1)
  (h2:∀ w:World,(openEnds treeTable p w N).map (fun s=>(openSeen q loose (importedModules p.main.body) Xt true s).2)=some (openGood q loose).2) (h3:∀ w:World,(openEnds treeTable p w N).map Yf=some (Ya w)):LeftO p q loose Xt Yf Ya N :=
 fun w=>map_two (F:=fun s=>(openSeen q loose (importedModules p.main.body) Xt true s,Yf s)) (a:=(openGood q loose,Ya w)) (map_two (h1 w) (h2 w)) (h3 w)
end L3
namespace Cut
open PySem L3
def top (i:Nat):Stmt:=PySem.Challenge.pw_slidecut_k63_plans_led_back.main.body.getD i (.Pass ⟨0,0,0,0⟩)
abbrev s_greatest_divisor:Stmt:=top 1
abbrev s_slid:Stmt:=top 3
abbrev s_turned:Stmt:=top 4
abbrev s_crossed:Stmt:=top 5
abbrev s_hand_of:Stmt:=top 6
abbrev s_side:Stmt:=top 7
abbrev s_sides_of:Stmt:=top 9
abbrev s_led_point:Stmt:=top 11
abbrev s_led_ring:Stmt:=top 12
abbrev s_note_sides:Stmt:=top 13
abbrev s_is_even:Stmt:=top 14
abbrev s_part:Stmt:=top 15
abbrev s_is_triangle:Stmt:=top 16
abbrev s_is_plan:Stmt:=top 17
abbrev s_step_back:Stmt:=top 18
abbrev s_led_back:Stmt:=top 19
abbrev s_law_cell:Stmt:=top 21
abbrev s_law_bag:Stmt:=top 22
abbrev s_law_digit:Stmt:=top 23
abbrev s_law_point:Stmt:=top 24
abbrev s_law_slid:Stmt:=top 25
abbrev s_law_turned:Stmt:=top 26
abbrev s_law_side:Stmt:=top 27
abbrev s_law_is_point:Stmt:=top 28
abbrev s_law_is_convex:Stmt:=top 29
abbrev s_law_within:Stmt:=top 30
abbrev s_law_twice_area:Stmt:=top 31
abbrev s_law_added:Stmt:=top 32
abbrev s_law_place:Stmt:=top 33
abbrev s_law_three:Stmt:=top 34
abbrev s_law_bulging:Stmt:=top 35
abbrev s_law_amid:Stmt:=top 36
abbrev s_law_mixed:Stmt:=top 37
abbrev s_law_led:Stmt:=top 38
abbrev s_law_moves_well:Stmt:=top 39
abbrev s_law_stands:Stmt:=top 40
abbrev s_law_area_of:Stmt:=top 41
abbrev s_law_parts:Stmt:=top 42
abbrev s_law_spots:Stmt:=top 43
abbrev s_law_plan_right:Stmt:=top 44
abbrev s_law_fan:Stmt:=top 45
abbrev s_law_parted:Stmt:=top 46
abbrev s_law_spread:Stmt:=top 47
abbrev s_law_led_ring:Stmt:=top 48
abbrev s_law_copy:Stmt:=top 49
abbrev s_law:Stmt:=top 50
def tabs:Tabs:=⟨[nF "greatest_divisor" s_greatest_divisor,nF "slid" s_slid,nF "turned" s_turned,nF "crossed" s_crossed,nF "hand_of" s_hand_of,nF "side" s_side,nF "sides_of" s_sides_of,nF "led_point" s_led_point,nF "led_ring" s_led_ring,nF "note_sides" s_note_sides,nF "is_even" s_is_even,nF "part" s_part,nF "is_triangle" s_is_triangle,nF "is_plan" s_is_plan,nF "step_back" s_step_back,nF "led_back" s_led_back,nF "_law_cell" s_law_cell,nF "_law_bag" s_law_bag,nF "_law_digit" s_law_digit,nF "_law_point" s_law_point,nF "_law_slid" s_law_slid,nF "_law_turned" s_law_turned,nF "_law_side" s_law_side,nF "_law_is_point" s_law_is_point,nF "_law_is_convex" s_law_is_convex,nF "_law_within" s_law_within,nF "_law_twice_area" s_law_twice_area,nF "_law_added" s_law_added,nF "_law_place" s_law_place,nF "_law_three" s_law_three,nF "_law_bulging" s_law_bulging,nF "_law_amid" s_law_amid,nF "_law_mixed" s_law_mixed,nF "_law_led" s_law_led,nF "_law_moves_well" s_law_moves_well,nF "_law_stands" s_law_stands,nF "_law_area_of" s_law_area_of,nF "_law_parts" s_law_parts,nF "_law_spots" s_law_spots,nF "_law_plan_right" s_law_plan_right,nF "_law_fan" s_law_fan,nF "_law_parted" s_law_parted,nF "_law_spread" s_law_spread,nF "_law_led_ring" s_law_led_ring,nF "_law_copy" s_law_copy,nF "law" s_law],["len", "abs", "int", "bool", "tuple", "isinstance", "range", "all", "sum", "list", "ValueError", "zip", "str", "enumerate", "set", "max", "min", "sorted"],[],[]⟩
open PySem.W in
set_option maxRecDepth 100000 in
set_option maxHeartbeats 0 in
theorem said:(PySem.Challenge.rw_slidecut_k63_plans_led_back).wellSaid=true:=by kernel_rfl
open PySem.W in
set_option maxRecDepth 100000 in
set_option maxHeartbeats 0 in
theorem left1:∀ w:World,(openEnds treeTable (PySem.Challenge.rw_slidecut_k63_plans_led_back).row.prog w 20000).map (fun s=>(openSeen PySem.Challenge.pw_slidecut_k63_plans_led_back [] (importedModules (PySem.Challenge.rw_slidecut_k63_plans_led_back).row.prog.main.body) (fun s=>xlAt PySem.Challenge.pw_slidecut_k63_plans_led_back [] s && recOk (RowW.records (OpenRow.toRowW (PySem.Challenge.rw_slidecut_k63_plans_led_back).row)) s) true s).1)=some (openGood PySem.Challenge.pw_slidecut_k63_plans_led_back []).1:=fun w=>by kernel_rfl
open PySem.W in
set_option maxRecDepth 100000 in
set_option maxHeartbeats 0 in
theorem left2:∀ w:World,(openEnds treeTable (PySem.Challenge.rw_slidecut_k63_plans_led_back).row.prog w 20000).map (fun s=>(openSeen PySem.Challenge.pw_slidecut_k63_plans_led_back [] (importedModules (PySem.Challenge.rw_slidecut_k63_plans_led_back).row.prog.main.body) (fun s=>xlAt PySem.Challenge.pw_slidecut_k63_plans_led_back [] s && recOk (RowW.records (OpenRow.toRowW (PySem.Challenge.rw_slidecut_k63_plans_led_back).row)) s) true s).2)=some (openGood PySem.Challenge.pw_slidecut_k63_plans_led_back []).2:=fun w=>by kernel_rfl
open PySem.W in
set_option maxRecDepth 100000 in
set_option maxHeartbeats 0 in
theorem left3:∀ w:World,(openEnds treeTable (PySem.Challenge.rw_slidecut_k63_plans_led_back).row.prog w 20000).map (obsH tabs)=some (valH tabs w):=fun w=>by kernel_rfl
open PySem.W in
set_option maxRecDepth 100000 in
set_option maxHeartbeats 0 in
theorem left:LeftO (PySem.Challenge.rw_slidecut_k63_plans_led_back).row.prog PySem.Challenge.pw_slidecut_k63_plans_led_back [] (fun s=>xlAt PySem.Challenge.pw_slidecut_k63_plans_led_back [] s && recOk (RowW.records (OpenRow.toRowW (PySem.Challenge.rw_slidecut_k63_plans_led_back).row)) s) (obsH tabs) (valH tabs) 20000:=left_of (p:=(PySem.Challenge.rw_slidecut_k63_plans_led_back).row.prog) (q:=PySem.Challenge.pw_slidecut_k63_plans_led_back) (loose:=[]) (Xt:=(fun s=>xlAt PySem.Challenge.pw_slidecut_k63_plans_led_back [] s && recOk (RowW.records (OpenRow.toRowW (PySem.Challenge.rw_slidecut_k63_plans_led_back).row)) s)) (Yf:=obsH tabs) (Ya:=valH tabs) (N:=20000) left1 left2 left3
end Cut
set_option Elab.async false
set_option linter.all false
set_option maxRecDepth 100000
namespace L2
open PySem PySem.Spec PyProof.Rows
abbrev Key:=Sum Int Str
def keyIs:Key→Value→Bool
 | .inl k,v=>Value.isInt k v
 | .inr x,v=>Value.isStrOf x v
def keyH (w:World):Key→Int
 | .inl k=>hashInt k
 | .inr x=>hashStr w x
theorem keyIs_shape:∀ {k:Key} {v:Value},keyIs k v=true→(∃ i t,k=Sum.inl i∧v=Value.int i t)∨(∃ x t,k=Sum.inr x∧v=Value.str x t)
 | .inl i,v,h=>by
  obtain ⟨t,e⟩:=Value.isInt_shape (k:=i) (v:=v) h
  exact .inl ⟨i,t,rfl,e⟩
 | .inr x,v,h=>by
  obtain ⟨t,e⟩:=Value.isStrOf_shape (x:=x) (v:=v) h
  exact .inr ⟨x,t,rfl,e⟩
theorem key_ll (a b:Int):decide ((Sum.inl a:Key)=Sum.inl b)=(a == b):=by
 by_cases e:a=b
 ·subst e; simp
 ·have h:¬ (Sum.inl a:Key)=Sum.inl b:=fun q=>e (Sum.inl.inj q)
  rw [decide_eq_false h]
  exact (beq_eq_false_iff_ne.mpr e).symm
theorem key_rr (a b:Str):decide ((Sum.inr a:Key)=Sum.inr b)=decide (a=b):=by
 by_cases e:a=b
 ·subst e; simp
 ·have h:¬ (Sum.inr a:Key)=Sum.inr b:=fun q=>e (Sum.inr.inj q)
  rw [decide_eq_false h,decide_eq_false e]
theorem key_lr (a:Int) (b:Str):decide ((Sum.inl a:Key)=Sum.inr b)=false:=decide_eq_false (fun q=>nomatch q)
theorem key_rl (a:Str) (b:Int):decide ((Sum.inr a:Key)=Sum.inl b)=false:=decide_eq_false (fun q=>nomatch q)
def mixKind (prog:Program) (w:World):PySem.KeyKind prog w Key where
 is:=keyIs
 hash:=keyH w
 inj:=fun v a b ha hb=>by
  rcases keyIs_shape ha with ⟨i,t,rfl,rfl⟩ | ⟨x,t,rfl,rfl⟩
  ·rcases keyIs_shape hb with ⟨j,u,rfl,e⟩ | ⟨y,u,rfl,e⟩
   ·injection e with e1 _; rw [e1]
   ·exact nomatch e
  ·rcases keyIs_shape hb with ⟨j,u,rfl,e⟩ | ⟨y,u,rfl,e⟩
   ·exact nomatch e
   ·injection e with e1 _; rw [e1]
 byValue:=fun k v h=>by
  rcases keyIs_shape h with ⟨i,t,rfl,rfl⟩ | ⟨x,t,rfl,rfl⟩ <;> rfl
 pyHash:=fun hv h=>by
  rcases keyIs_shape hv with ⟨i,t,rfl,rfl⟩ | ⟨x,t,rfl,rfl⟩
  ·exact wpAny_pyHash_int h
  ·exact wpAny_pyHash_str h
 eqBool:=fun hu hv h=>by
  rcases keyIs_shape hu with ⟨i,t,rfl,rfl⟩ | ⟨x,t,rfl,rfl⟩
  ·rcases keyIs_shape hv with ⟨j,u,rfl,rfl⟩ | ⟨y,u,rfl,rfl⟩
   ·rw [key_ll] at h; exact wpAny_eqBool_int h
   ·rw [key_lr] at h; exact SeqAt.EqAt.int_str i t y u _ _ _ _ h
  ·rcases keyIs_shape hv with ⟨j,u,rfl,rfl⟩ | ⟨y,u,rfl,rfl⟩
   ·rw [key_rl] at h; exact SeqAt.EqAt.str_int x t j u _ _ _ _ h
   ·rw [key_rr] at h; exact wpAny_eqBool_str h
 «strs» := fun k x t v h=>by
  rcases keyIs_shape h with ⟨i,u,rfl,e⟩ | ⟨y,u,rfl,e⟩
  ·exact nomatch e
  ·injection e with e1 _
   subst e1
   cases v <;> rfl
end L2
namespace L2
open PySem PySem.Spec PyProof.Rows
inductive V where
 | non | bl (b:Bool) | int (i:Int) | str (x:Str) | byt (b:Array UInt8) | flt (b:UInt64) | ref (a:Addr) | ty (n:String)
 deriving DecidableEq
def RelV:V→Value→Prop
 | .non,u=>u=Value.none
 | .bl b,u=>u=Value.bool b
 | .int i,u=>∃ t,u=Value.int i t
 | .str x,u=>∃ t,u=Value.str x t
 | .byt b,u=>∃ t,u=Value.bytes b t
 | .flt b,u=>∃ t,u=Value.float b t
 | .ref a,u=>u=Value.ref a
 | .ty n,u=>u=Value.type n
abbrev Vals:List V→List Value→Prop:=Paired RelV
theorem Vals.length {xs:List V} {us:List Value} (r:Vals xs us):xs.length=us.length:=Paired.length r
theorem Vals.get:∀ {xs:List V} {us:List Value} {i:Nat} {x:V},Vals xs us→xs[i]?=some x→∃ u,us[i]?=some u∧RelV x u
 | _,_,_,_,.nil,e=>by simp at e
 | _,_,0,_,.cons r _,e=>by simp at e; subst e; exact ⟨_,rfl,r⟩
 | _,_,i + 1,x,.cons _ t,e=>by
  obtain ⟨u,h1,h2⟩:=Vals.get (i:=i) (x:=x) t (by simpa using e)
  exact ⟨u,by simpa using h1,h2⟩
theorem Vals.set {x:V} {u:Value} (r:RelV x u):∀ {xs:List V} {us:List Value} (i:Nat),Vals xs us→Vals (xs.set i x) (us.set i u)
 | _,_,_,.nil=>.nil
 | _,_,0,.cons _ t=>.cons r t
 | _,_,i + 1,.cons q t=>.cons q (Vals.set r i t)
theorem Vals.append:∀ {xs ys:List V} {us ws:List Value},Vals xs us→Vals ys ws→Vals (xs ++ ys) (us ++ ws)
 | _,_,_,_,.nil,s=>s
 | _,_,_,_,.cons r t,s=>.cons r (Vals.append t s)
theorem Vals.take:∀ {xs:List V} {us:List Value} (n:Nat),Vals xs us→Vals (xs.take n) (us.take n)
 | _,_,0,_=>.nil
 | _,_,_ + 1,.nil=>.nil
 | _,_,n + 1,.cons r t=>.cons r (Vals.take n t)
theorem Vals.drop:∀ {xs:List V} {us:List Value} (n:Nat),Vals xs us→Vals (xs.drop n) (us.drop n)
 | _,_,0,r=>r
 | _,_,_ + 1,.nil=>.nil
 | _,_,n + 1,.cons _ t=>Vals.drop n t
def RelO:Option V→Option Value→Prop
 | some v,some u=>RelV v u
 | none,none=>True
 | _,_=>False
def KV {κ:Type}:List (κ×V)→List (κ×Value)→Prop:=Paired fun (p:κ×V) (q:κ×Value)=>p.1=q.1∧RelV p.2 q.2
def kV:Key→V
 | .inl i=>.int i
 | .inr x=>.str x
inductive HO where
 | lst (xs:List V)
 | tup (xs:List V)
 | dK (kvs:List (Key×V)) | dT (kvs:List (List Key×V))
 | set (S:Int→Bool) (n:Nat)
 | ins (C dx:Addr) (fs:List (Str×V))
 | own (x:Addr)
 | xd (fs:List (Str×V))
 | met (f x:Addr)
 | rng (lo hi:Int)
 | frz (o:Obj) (u:HO)
 | tbl (ps:Array Value)
 | ext (φ:Heap→Prop)
abbrev Hp:=Addr→Option HO
def upd (H:Hp) (a:Addr) (o:HO):Hp:=fun b=>if b=a then some o else H b
theorem upd_same {H:Hp} {a:Addr} {o:HO}:upd H a o a=some o:=by unfold upd; rw [if_pos rfl]
theorem upd_ne {H:Hp} {a b:Addr} {o:HO} (h:b≠a):upd H a o b=H b:=by unfold upd; rw [if_neg h]
theorem ne_of_none {H:Hp} {a b:Addr} {o:HO} (h:H a=some o) (h':H b=none):a≠b:=by
 intro e; subst e; rw [h] at h'; cases h'
section
variable (P:Program) (w:World)
def ObjOk (H:Hp) (h:Heap) (a:Addr):HO→Prop
 | .lst xs=>xs.length≤sizeLine∧∃ (its:List Value) (n:Nat),Vals xs its∧h.get? a=some { cls:=.type "list", data:=.seq its.toArray n }
 | .tup xs=>xs.length≤sizeLine∧∃ its:List Value,Vals xs its∧IsTup h a its.toArray
 | .dK kvs=>kvs.length≤sizeLine∧(a == sysModules)=false∧∃ vs,KV kvs vs∧h.DictOf (mixKind P w) a vs
 | .dT kvs=>kvs.length≤sizeLine∧(a == sysModules)=false∧∃ xs:List (List Key×Addr×Value),
   Paired (fun (p:List Key×V) (q:List Key×Addr×Value)=>p.1=q.1∧H q.2.1=some (.tup (p.1.map kV))∧RelV p.2 q.2.2) kvs xs ∧
   ∃ o es ep,h.get? a=some o∧o.ExactDict∧o.data=.dict es ep∧es.toList=xs.map (entryOfKey (tupleKind (mixKind P w)))∧(xs.map (·.1)).Nodup
 | .set S n=>h.SetOf (intKind P w) a S n
 | .ins C dx fs=>H dx=some (.own a)∧fs.length≤1000∧dx≠a∧h.get? a=some (PySem.W.instObj C dx) ∧
   ∃ mA,h.Ns1 dx mA∧(∀ f,RelO (fs.lookup f) (mA f))∧PySem.Within mA (fs.map (·.1))
 | .own _=>∃ o,h.get? a=some o
 | .xd fs=>∃ mA,h.Ns1 a mA∧∀ f,RelO (fs.lookup f) (mA f)
 | .rng lo hi=>∃ t u v,h.get? a=some { cls:=.type "range", data:=.fields #[.int lo t,.int hi u,.int 1 v] }
 | .frz o u=>h.get? a=some o∧ObjOk H h a u
 | .tbl ps=>h.get? a=some { cls:=.none,data:=.fields ps }
 | .met f x=>h.get? a=some (PySem.W.methodObj (.ref f) (.ref x))
 | .ext φ=>φ h∧(∃ o,h.get? a=some o)∧∀ h1 h2:Heap,φ h1→(∀ o,h1.get? a=some o→h2.get? a=some o)→φ h2
def HOk (H:Hp) (h:Heap):Prop:=∀ a o,H a=some o→ObjOk P w H h a o
end
section
variable {P:Program} {w:World} {H H':Hp} {h h':Heap} {a:Addr} {o:HO}
theorem ObjOk.lt (x:ObjOk P w H h a o):a < h.objs.size:=by
 cases o with
 | lst xs=>obtain ⟨_,_,_,_,e⟩:=x; exact Heap.lt_size e
 | tup xs=>obtain ⟨_,_,_,p⟩:=x; exact p.lt
 | dK kvs=>obtain ⟨_,_,_,_,o,_,_,e,_⟩:=x; exact Heap.lt_size e
 | dT kvs=>obtain ⟨_,_,_,_,o,_,_,e,_⟩:=x; exact Heap.lt_size e
 | set S n=>obtain ⟨o,_,_,_,e,_⟩:=x; exact Heap.lt_size e
 | ins C dx fs=>obtain ⟨_,_,_,e,_⟩:=x; exact Heap.lt_size e
 | own y=>obtain ⟨_,e⟩:=x; exact Heap.lt_size e
 | xd fs=>obtain ⟨_,⟨_,_,_,e,_⟩,_⟩:=x; exact Heap.lt_size e
 | rng lo hi=>obtain ⟨_,_,_,e⟩:=x; exact Heap.lt_size e
 | frz ob u=>obtain ⟨e,_⟩:=x; exact Heap.lt_size e
 | tbl ps=>exact Heap.lt_size (show h.get? a=some _ from x)
 | met f y=>exact Heap.lt_size (show h.get? a=some _ from x)
 | ext φ=>obtain ⟨_,⟨_,e⟩,_⟩:=x; exact Heap.lt_size e
theorem Paired.mapP {α β:Type} {F G:α→β→Prop}:∀ {l₁:List α} {l₂:List β},Paired F l₁ l₂→(∀ a b,F a b→G a b)→Paired G l₁ l₂
 | _,_,.nil,_=>.nil
 | _,_,.cons r t,f=>.cons (f _ _ r) (Paired.mapP t f)
theorem ObjOk.stay (x:ObjOk P w H h a o) (k:∀ b u,(b=a∨H b=some (.own a))→h.get? b=some u→h'.get? b=some u)
  (ho:∀ b,H b=some (.own a)→H' b=some (.own a)) (ht:∀ b xs,H b=some (.tup xs)→H' b=some (.tup xs)):ObjOk P w H' h' a o:=by
 induction o with
 | lst xs=>obtain ⟨z,its,n,r,e⟩:=x; exact ⟨z,its,n,r,k _ _ (.inl rfl) e⟩
 | tup xs=>obtain ⟨z,its,r,ob,e,c⟩:=x; exact ⟨z,its,r,ob,k _ _ (.inl rfl) e,c⟩
 | dK kvs=>obtain ⟨z,y,vs,r,ob,es,ep,e,c⟩:=x; exact ⟨z,y,vs,r,ob,es,ep,k _ _ (.inl rfl) e,c⟩
 | dT kvs =>
  obtain ⟨z,y,xs,r,ob,es,ep,e,c⟩:=x
  exact ⟨z,y,xs,Paired.mapP r fun p q z=>⟨z.1,ht _ _ z.2.1,z.2.2⟩,ob,es,ep,k _ _ (.inl rfl) e,c⟩
 | set S n=>obtain ⟨ob,es,ep,t,e,c⟩:=x; exact ⟨ob,es,ep,t,k _ _ (.inl rfl) e,c⟩
 | ins C dx fs =>
  obtain ⟨d,z,ne,e,mA,⟨od,es,ep,e2,c⟩,r⟩:=x
  exact ⟨ho _ d,z,ne,k _ _ (.inl rfl) e,mA,⟨od,es,ep,k _ _ (.inr d) e2,c⟩,r⟩
 | own y=>obtain ⟨ob,e⟩:=x; exact ⟨ob,k _ _ (.inl rfl) e⟩
 | xd fs=>obtain ⟨mA,⟨od,es,ep,e,c⟩,r⟩:=x; exact ⟨mA,⟨od,es,ep,k _ _ (.inl rfl) e,c⟩,r⟩
 | rng lo hi=>obtain ⟨t,u,v,e⟩:=x; exact ⟨t,u,v,k _ _ (.inl rfl) e⟩
 | frz ob u ih=>obtain ⟨e,q⟩:=x; exact ⟨k _ _ (.inl rfl) e,ih q⟩
 | tbl ps =>
  have e:h.get? a=some { cls:=.none,data:=.fields ps }:=x
  show h'.get? a=some { cls:=.none,data:=.fields ps }
  exact k a _ (.inl rfl) e
 | met f y =>
  have e:h.get? a=some (PySem.W.methodObj (.ref f) (.ref y)):=x
  show h'.get? a=some (PySem.W.methodObj (.ref f) (.ref y))
  exact k a _ (.inl rfl) e
 | ext φ=>obtain ⟨p,⟨o,e⟩,st⟩:=x; exact ⟨st _ _ p fun o q=>k _ _ (.inl rfl) q,⟨o,k _ _ (.inl rfl) e⟩,st⟩
theorem HOk.lt (x:HOk P w H h) (e:H a=some o):a < h.objs.size:=(x a o e).lt
theorem HOk.fresh (x:HOk P w H h) (e:h.objs.size≤a):H a=none:=by
 cases q:H a with
 | none=>rfl
 | some u=>exact absurd (Nat.lt_of_lt_of_le (x.lt q) e) (Nat.lt_irrefl _)
theorem HOk.kept (x:HOk P w H h) (k:∀ b u,h.get? b=some u→h'.get? b=some u):HOk P w H h':=fun a o e =>
 (x a o e).stay (fun b u _ q=>k b u q) (fun _ q=>q) fun _ _ q=>q
theorem HOk.laid (x:HOk P w H h) (k:∀ b u,h.get? b=some u→h'.get? b=some u) (hp:h.objs.size≤a) (new:ObjOk P w (upd H a o) h' a o):HOk P w (upd H a o) h':=fun b u e=>by
 have hn:=x.fresh hp
 by_cases hb:b=a
 ·subst hb; rw [upd_same] at e; cases e; exact new
 ·rw [upd_ne hb] at e
  exact (x b u e).stay (fun c v _ q=>k c v q) (fun c q=>by rw [upd_ne (ne_of_none q hn)]; exact q) fun c xs q=>by rw [upd_ne (ne_of_none q hn)]; exact q
end
def Rd (H:Hp) (a:Addr) (u:HO):Prop:=H a=some u∨∃ o,H a=some (.frz o u)
theorem Rd.ok {P:Program} {w:World} {H:Hp} {h:Heap} {a:Addr} {u:HO} (r:Rd H a u) (x:HOk P w H h):ObjOk P w H h a u:=by
 rcases r with r | ⟨o,r⟩
 ·exact x a u r
 ·obtain ⟨_,q⟩:=x a _ r
  exact q
def Mut:Option HO→Prop
 | some (.lst _)=>True
 | some (.dK _)=>True
 | some (.dT _)=>True
 | some (.set _ _)=>True
 | some (.ins _ _ _)=>True
 | some (.ext _)=>True
 | _=>False
section
variable {P:Program} {w:World} {H:Hp} {h h':Heap} {x e:Addr} {o':HO}
theorem HOk.write (ok:HOk P w H h) (mu:Mut (H x)) (he:e=x∨H e=some (.own x)) (k:∀ b u,b≠e→h.get? b=some u→h'.get? b=some u) (heo:∃ u,h'.get? e=some u)
  (new:ObjOk P w (upd H x o') h' x o'):HOk P w (upd H x o') h':=fun b u q=>by
 have nown:∀ c y,H c=some (.own y)→c≠x:=fun c y r z=>by subst z; rw [r] at mu; exact mu
 have ntup:∀ c xs,H c=some (.tup xs)→c≠x:=fun c xs r z=>by subst z; rw [r] at mu; exact mu
 by_cases hb:b=x
 ·subst hb; rw [upd_same] at q; cases q; exact new
 ·rw [upd_ne hb] at q
  by_cases hbe:b=e
  ·have q':H b=some (.own x):=by
    rcases he with z | z
    ·exact absurd (hbe.trans z) hb
    ·rw [hbe]; exact z
   rw [q] at q'; cases q'
   obtain ⟨v,hv⟩:=heo
   exact ⟨v,by rw [hbe]; exact hv⟩
  ·refine (ok b u q).stay (fun c v hc r=>k c v ?_ r) (fun c r=>by rw [upd_ne (nown c b r)]; exact r) fun c xs r=>by rw [upd_ne (ntup c xs r)]; exact r
   rcases hc with rfl | hc
   ·exact hbe
   ·rintro rfl
    rcases he with z | z
    ·exact nown c b hc z
    ·rw [hc] at z; cases z; exact hb rfl
end
structure Un (fs ex:List Addr) (H H':Hp) (h h':Heap):Prop where
 keep:∀ b o,h.get? b=some o→H b=none→b ∉ fs→b ∉ ex→h'.get? b=some o
 slot:∀ b o,h.get? b=some o→H b=none→b∈fs→b ∉ ex→∃ sl,h'.get? b=some { o with slots:=sl }
 free:∀ b o,h.get? b=some o→H b=none→b ∉ ex→H' b=none
 there:∀ b o,h.get? b=some o→b ∉ ex→∃ o',h'.get? b=some o'
 tups:∀ b xs,H b=some (.tup xs)→H' b=some (.tup xs)
 frzs:∀ b o u,H b=some (.frz o u)→H' b=some (.frz o u)
 tbls:∀ b ps,H b=some (.tbl ps)→∃ more,H' b=some (.tbl (ps ++ more))
section
variable {fs fs' ex ex':List Addr} {H H1 H2:Hp} {h h1 h2 h':Heap} {a x e:Addr} {o:HO}
theorem Un.any (u:Un fs ex H H1 h h1) {b:Addr} {ob:Obj} (q:h.get? b=some ob) (n:H b=none) (hx:b ∉ ex):∃ sl,h1.get? b=some { ob with slots:=sl }:=by
 by_cases hb:b∈fs
 ·exact u.slot b ob q n hb hx
 ·exact ⟨ob.slots,u.keep b ob q n hb hx⟩
theorem Un.kept (k:∀ b u,h.get? b=some u→h'.get? b=some u):Un fs ex H H h h' :=
 ⟨fun b ob q _ _ _=>k b ob q,fun b ob q _ _ _=>⟨ob.slots,k b ob q⟩,fun _ _ _ n _=>n,fun b ob q _=>⟨ob,k b ob q⟩,fun _ _ q=>q,fun _ _ _ q=>q,fun _ ps q=>⟨#[],by rw [q]; simp⟩⟩
theorem Un.refl:Un fs ex H H h h:=Un.kept fun _ _ q=>q
theorem Un.laid (k:∀ b u,h.get? b=some u→h'.get? b=some u) (hp:h.objs.size≤a) (hn:H a=none):Un fs ex H (upd H a o) h h' where
 keep:=fun b u q _ _ _=>k b u q
 slot:=fun b u q _ _ _=>⟨u.slots,k b u q⟩
 free:=fun b u q n _=>by rw [upd_ne (Nat.ne_of_lt (Nat.lt_of_lt_of_le (Heap.lt_size q) hp))]; exact n
 there:=fun b u q _=>⟨u,k b u q⟩
 tups:=fun b xs q=>by rw [upd_ne (ne_of_none q hn)]; exact q
 frzs:=fun b u xs q=>by rw [upd_ne (ne_of_none q hn)]; exact q
 tbls:=fun b ps q=>⟨#[],by rw [upd_ne (ne_of_none q hn),q]; simp⟩
theorem Un.write (mu:Mut (H x)) (he:e=x∨H e=some (.own x)) (k:∀ b u,b≠e→h.get? b=some u→h'.get? b=some u) (heo:∃ u,h'.get? e=some u):Un fs ex H (upd H x o) h h':=by
 have hx:∀ b,H b=none→b≠x:=fun b n z=>by subst z; rw [n] at mu; exact mu
 have hb:∀ b,H b=none→b≠e:=fun b n z=>by
  subst z
  rcases he with r | r
  ·exact hx b n r
  ·rw [n] at r; cases r
 have hm:∀ b u,H b=some u→¬ Mut (some u)→b≠x:=fun b u q nm z=>by subst z; rw [q] at mu; exact nm mu
 refine ⟨fun b u q n _ _=>k b u (hb b n) q,fun b u q n _ _=>⟨u.slots,k b u (hb b n) q⟩,fun b u q n _=>by rw [upd_ne (hx b n)]; exact n,fun b u q _=>?_,
  fun b xs q=>by rw [upd_ne (hm b _ q fun z=>z)]; exact q,fun b u xs q=>by rw [upd_ne (hm b _ q fun z=>z)]; exact q,fun b ps q=>⟨#[],by rw [upd_ne (hm b _ q fun z=>z),q]; simp⟩⟩
 by_cases hbe:b=e
 ·subst hbe; exact heo
 ·exact ⟨u,k b u hbe q⟩
end
def trk (h:Heap) (H:Hp):List Addr:=(List.range h.objs.size).filter fun a=>(H a).isSome
def hidT (h:Heap) (H:Hp):Heap:=PySem.W.hideAll h (trk h H)
theorem hidT_size (h:Heap) (H:Hp):(hidT h H).objs.size=h.objs.size:=PySem.W.hideAll_size _ _
theorem hidT_get {h:Heap} {H:Hp} {b:Addr} {o:Obj} (e:h.get? b=some o) (n:H b=none):(hidT h H).get? b=some o :=
 PySem.W.hideAll_get _ e fun hm=>by
  have q:(H b).isSome=true:=(List.mem_filter.mp hm).2
  rw [n] at q; simp at q
theorem of_hidT {h:Heap} {H:Hp} {b:Addr} {o:Obj} (e:(hidT h H).get? b=some o):h.get? b=some o∧H b=none:=by
 have e':h.get? b=some o:=PySem.W.of_hideAll (trk h H) e
 refine ⟨e',?_⟩
 cases q:H b with
 | none=>rfl
 | some x =>
  have hm:b∈trk h H:=List.mem_filter.mpr ⟨List.mem_range.mpr (Heap.lt_size e'),by simp [q]⟩
  have z:(hidT h H).get? b=none:=PySem.W.hideAll_none (trk h H) hm
  rw [z] at e; cases e
end L2
namespace L2
open PySem PySem.Spec PyProof.Rows
structure Mod (K:PySem.W.Frag) (mg:Str→Option Value) (base:Heap):Prop where
 kin:K.In base
 glob:base.Ns mainGlobals mg
 blt:∃ mb,base.Ns builtinsNs mb∧∀ x:Str,x ≠ "__name__" → mb x=bootBuiltins x
 nolimit:base.NoLimit
structure Cx where
 prog:Program
 w:World
 K:PySem.W.Frag
 mg:Str→Option Value
 base:Heap
 A:Around
 N:List Str
 s₀:Shared
 H₀:Hp
 env:Env
 outer:List Env
 stack:List Env
 ex:List Addr
 fn:Str→Bool
 calm:Bool
 pn:List (Addr×Obj)
 xe:Value→Shared→Prop
def frs (l:List Env):List Addr:=l.filterMap (·.frame)
abbrev Cx.fs (X:Cx):List Addr:=frs X.outer
def Vis (sc:Scope) (x:Str):Prop:=sc.names.lookup x=some .local∨sc.names.lookup x=some .cell∨sc.names.lookup x=some .free
def Loc (sc:Scope) (x:Str):Prop:=sc.names.lookup x=some .local∨sc.names.lookup x=some .cell
def Look (env:Env) (h:Heap) (m:Str→Option Value) (x:Str) (u:Value):Prop :=
 (env.kindOf x=some .local∧m x=some u)∨((env.kindOf x=some .cell∨env.kindOf x=some .free)∧∃ c,env.cells.lookup x=some c∧h.IsCell c (some u))
structure Cx.Ok (X:Cx):Prop where
 mod:Mod X.K X.mg X.base
 kind:X.env.scope.kind=.function
 glob:X.env.globals=mainGlobals
 blt:X.env.builtins=builtinsNs
 above:X.s₀.heap.objs.size≤X.env.locals
 inj:∀ x y c,X.env.cells.lookup x=some c→X.env.cells.lookup y=some c→x=y
 has:∀ x,(X.env.kindOf x=some .cell∨X.env.kindOf x=some .free)→∃ c,X.env.cells.lookup x=some c
 cab:∀ x c,X.fn x=true→X.env.cells.lookup x=some c→X.s₀.heap.objs.size≤c
 hd:X.calm=true→X.A.handled=none
 frames:X.A.frames=some X.stack
 stk:X.stack=X.outer∨(X.stack=X.env :: X.outer∧X.env.frame=some X.env.locals)
 exf:∀ b∈X.ex,b≠X.env.locals∧∀ x c,X.env.cells.lookup x=some c→c≠b
 bs:∀ b o,X.base.get? b=some o→X.s₀.heap.get? b=some o∧X.H₀ b=none
 bsz:X.base.objs.size≤X.s₀.heap.objs.size
 noex:∀ b o,X.base.get? b=some o→b ∉ X.ex
 exfs:∀ b∈X.ex,b ∉ X.fs
 funs:X.s₀.heap.FunFrames X.base X.outer
 frf:∀ b∈X.fs,X.H₀ b=none
structure Inv (X:Cx) (pins:List (Addr×Obj)) (σ:List (Option V)) (H:Hp) (s:Shared):Prop where
 ok:X.Ok
 os:s.os=X.s₀.os
 bare:AllBare s.gens
 base:Un X.fs X.ex X.H₀ H X.s₀.heap s.heap
 loc:∃ m,s.heap.Ns X.env.locals m∧∀ (i:Nat) (x:Str) (v:V),X.N[i]?=some x→σ[i]?=some (some v)→Vis X.env.scope x→∃ u,RelV v u∧Look X.env s.heap m x u
 cell:∀ x c,X.env.cells.lookup x=some c→∃ v,s.heap.IsCell c v
 free:H X.env.locals=none
 freeC:∀ x c,X.env.cells.lookup x=some c→H c=none
 pin:∀ p∈X.pn ++ pins,s.heap.get? p.1=some p.2∧H p.1=none∧p.1≠X.env.locals∧p.1 ∉ X.fs∧∀ v,p.2.data≠.cell v
 hok:HOk X.prog X.w H s.heap
 len:σ.length=X.N.length
section
variable {X:Cx} {pins:List (Addr×Obj)} {σ:List (Option V)} {H H':Hp} {s:Shared} {h':Heap}
theorem Cx.Ok.nofr (ok:X.Ok) {b:Addr} {o:Obj} (e:X.base.get? b=some o):b ∉ X.fs:=fun hb=>by
 have:=(ok.funs.mem hb).1
 rw [e] at this; cases this
theorem Inv.bs (I:Inv X pins σ H s):∀ b o,X.base.get? b=some o→s.heap.get? b=some o∧H b=none:=fun b o e =>
 ⟨I.base.keep b o (I.ok.bs b o e).1 (I.ok.bs b o e).2 (I.ok.nofr e) (I.ok.noex b o e),I.base.free b o (I.ok.bs b o e).1 (I.ok.bs b o e).2 (I.ok.noex b o e)⟩
theorem Inv.bk (I:Inv X pins σ H s):∀ b o,X.base.get? b=some o→s.heap.get? b=some o:=fun b o e=>(I.bs b o e).1
theorem Inv.mod (I:Inv X pins σ H s):Mod X.K X.mg X.base:=I.ok.mod
theorem Inv.kIn (I:Inv X pins σ H s):X.K.In s.heap:=I.ok.mod.kin.keeps I.bk
theorem Inv.lt (I:Inv X pins σ H s):X.env.locals < s.heap.objs.size:=let ⟨_,hn,_⟩:=I.loc; hn.lt
theorem Inv.sz (I:Inv X pins σ H s):X.s₀.heap.objs.size≤s.heap.objs.size:=Nat.le_trans I.ok.above (Nat.le_of_lt I.lt)
theorem Inv.nofs (I:Inv X pins σ H s) {a:Addr} (h:s.heap.objs.size≤a):a ∉ X.fs:=fun hb=>by
 obtain ⟨_,o,ho,_⟩:=I.ok.funs.mem hb
 exact absurd (Nat.lt_of_lt_of_le (Heap.lt_size ho) (Nat.le_trans I.sz h)) (Nat.lt_irrefl _)
theorem Inv.cne (I:Inv X pins σ H s):∀ x c,X.env.cells.lookup x=some c→c≠X.env.locals:=fun x c e z=>by
 obtain ⟨v,o,ho,hd⟩:=I.cell x c e
 obtain ⟨m,⟨o',es,ep,ho',hd',_⟩,_⟩:=I.loc
 rw [z,ho'] at ho; cases ho; rw [hd'] at hd; cases hd
theorem Inv.funs (I:Inv X pins σ H s):s.heap.FunFrames X.base X.outer:=by
 have all:∀ (l:List Env),(∀ b∈frs l,b∈X.fs)→X.s₀.heap.FunFrames X.base l→s.heap.FunFrames X.base l:=by
  intro l
  induction l with
  | nil=>intro _ _; trivial
  | cons env r ih =>
   intro hs hl
   obtain ⟨hk,⟨L,o,hf,hn,ho,hd⟩,hr⟩:=hl
   have hL:L∈X.fs:=hs L (by unfold frs; rw [List.filterMap_cons,hf]; exact List.mem_cons_self)
   obtain ⟨sl,e⟩:=I.base.slot L o ho (I.ok.frf L hL) hL fun z=>I.ok.exfs L z hL
   exact ⟨hk,⟨L,_,hf,hn,e,hd⟩,ih (fun b hb=>hs b (by unfold frs; rw [List.filterMap_cons,hf]; exact List.mem_cons_of_mem _ hb)) hr⟩
 exact all X.outer (fun _ hb=>hb) I.ok.funs
theorem Inv.stack (I:Inv X pins σ H s):s.heap.FunFrames X.base X.stack:=by
 rcases I.ok.stk with e | ⟨e,hf⟩
 ·rw [e]; exact I.funs
 ·rw [e]
  obtain ⟨m,hn,_⟩:=I.loc
  refine .cons (by rw [I.ok.kind]; decide) hf hn ?_ I.funs
  exact Heap.get?_none_of_le (Nat.le_trans I.ok.bsz I.ok.above)
theorem Inv.stkSub (I:Inv X pins σ H s):∀ b∈frs X.stack,b∈X.env.locals :: X.fs:=fun b hb=>by
 rcases I.ok.stk with e | ⟨e,hf⟩
 ·rw [e] at hb; exact List.mem_cons_of_mem _ hb
 ·rw [e] at hb
  unfold frs at hb
  rw [List.filterMap_cons,hf] at hb
  exact hb
theorem Inv.stkFree (I:Inv X pins σ H s):∀ b∈frs X.stack,H b=none:=fun b hb=>by
 rcases List.mem_cons.mp (I.stkSub b hb) with e | hb
 ·rw [e]; exact I.free
 ·obtain ⟨_,o,ho,_⟩:=I.ok.funs.mem hb
  exact I.base.free b o ho (I.ok.frf b hb) fun z=>I.ok.exfs b z hb
theorem Inv.step {g':Array GenState} {t':Nat} {d':Drawn} {ch:List Addr} (I:Inv X pins σ H s)
  (hch:∀ b∈ch,(b∈X.ex∨X.s₀.heap.objs.size≤b)∧b≠X.env.locals∧(∀ x c,X.env.cells.lookup x=some c→c≠b)∧∀ p∈X.pn ++ pins,p.1≠b)
  (keep:∀ b o,b≠X.env.locals→b ∉ X.fs→b ∉ ch→s.heap.get? b=some o→H b=none→h'.get? b=some o)
  (slot:∀ b o,b≠X.env.locals→b∈X.fs→b ∉ ch→s.heap.get? b=some o→H b=none→∃ sl,h'.get? b=some { o with slots:=sl }) (free:∀ b o,b ∉ ch→s.heap.get? b=some o→H b=none→H' b=none)
  (there:∀ b o,b ∉ ch→s.heap.get? b=some o→∃ o',h'.get? b=some o')
  (tups:∀ b xs,H b=some (.tup xs)→H' b=some (.tup xs)) (frzs:∀ b o u,H b=some (.frz o u)→H' b=some (.frz o u)) (tbls:∀ b ps,H b=some (.tbl ps)→∃ more,H' b=some (.tbl (ps ++ more)))
  (ns:∀ m,s.heap.Ns X.env.locals m→h'.Ns X.env.locals m) (hok:HOk X.prog X.w H' h') (hg:AllBare g') :
  Inv X pins σ H' { s with heap:=h',gens:=g',drawn:=d',toks:=t' }:=by
 have neL:∀ b o,X.s₀.heap.get? b=some o→b≠X.env.locals:=fun b o e=>Nat.ne_of_lt (Nat.lt_of_lt_of_le (Heap.lt_size e) I.ok.above)
 have neC:∀ b o,X.s₀.heap.get? b=some o→b ∉ X.ex→b ∉ ch:=fun b o e hx hb=>by
  rcases (hch b hb).1 with z | z
  ·exact hx z
  ·exact absurd (Nat.lt_of_lt_of_le (Heap.lt_size e) z) (Nat.lt_irrefl _)
 have cellK:∀ x c,X.env.cells.lookup x=some c→∀ v,s.heap.IsCell c v→h'.IsCell c v:=fun x c e v ⟨o,ho,hd⟩=>by
  have nch:c ∉ ch:=fun z=>(hch c z).2.2.1 x c e rfl
  by_cases hc:c∈X.fs
  ·obtain ⟨sl,q⟩:=slot c o (I.cne x c e) hc nch ho (I.freeC x c e)
   exact ⟨_,q,hd⟩
  ·exact ⟨o,keep c o (I.cne x c e) hc nch ho (I.freeC x c e),hd⟩
 refine ⟨I.ok,I.os,hg,⟨fun b o e n hb hx=>?_,fun b o e n hb hx=>?_,fun b o e n hx=>?_,fun b o e hx=>?_,fun b xs e=>tups b xs (I.base.tups b xs e),fun b o xs e=>frzs b o xs (I.base.frzs b o xs e),fun b ps e=>?_⟩,?_,fun x c e=>?_,?_,fun x c e=>?_,fun p hp=>?_,hok,I.len⟩
 ·exact keep b o (neL b o e) hb (neC b o e hx) (I.base.keep b o e n hb hx) (I.base.free b o e n hx)
 ·obtain ⟨sl,e1⟩:=I.base.slot b o e n hb hx
  obtain ⟨sl',e2⟩:=slot b _ (neL b o e) hb (neC b o e hx) e1 (I.base.free b o e n hx)
  exact ⟨sl',e2⟩
 ·obtain ⟨o',e1⟩:=I.base.there b o e hx
  exact free b o' (neC b o e hx) e1 (I.base.free b o e n hx)
 ·obtain ⟨o',e1⟩:=I.base.there b o e hx
  exact there b o' (neC b o e hx) e1
 ·obtain ⟨m1,e1⟩:=I.base.tbls b ps e
  obtain ⟨m2,e2⟩:=tbls b _ e1
  exact ⟨m1 ++ m2,by rw [e2,Array.append_assoc]⟩
 ·obtain ⟨m,hn,hl⟩:=I.loc
  refine ⟨m,ns m hn,fun i x v e1 e2 e3=>?_⟩
  obtain ⟨u,r,l⟩:=hl i x v e1 e2 e3
  refine ⟨u,r,?_⟩
  rcases l with l | ⟨k,c,e,z⟩
  ·exact .inl l
  ·exact .inr ⟨k,c,e,cellK x c e _ z⟩
 ·obtain ⟨v,z⟩:=I.cell x c e
  exact ⟨v,cellK x c e v z⟩
 ·obtain ⟨m,⟨o,_,_,ho,_⟩,_⟩:=I.loc
  exact free _ o (fun z=>(hch _ z).2.1 rfl) ho I.free
 ·obtain ⟨v,o,ho,hd⟩:=I.cell x c e
  exact free c o (fun z=>(hch c z).2.2.1 x c e rfl) ho (I.freeC x c e)
 ·obtain ⟨e,n,ne,nf,d⟩:=I.pin p hp
  have nch:p.1 ∉ ch:=fun z=>(hch p.1 z).2.2.2 p hp rfl
  exact ⟨keep p.1 p.2 ne nf nch e n,free p.1 p.2 nch e n,ne,nf,d⟩
theorem Inv.un {t':Nat} (I:Inv X pins σ H s) (u:Un X.fs [] H H' s.heap h') (hok:HOk X.prog X.w H' h'):Inv X pins σ H' { s with heap:=h',toks:=t' }:=by
 obtain ⟨m,⟨o,es,ep,ho,r⟩,_⟩:=id I.loc
 obtain ⟨sl,hL⟩:=u.any ho I.free (by simp)
 exact I.step (g':=s.gens) (d':=s.drawn) (ch:=[]) (fun _ z=>nomatch z) (fun b o _ hb _ e n=>u.keep b o e n hb (by simp)) (fun b o _ hb _ e n=>u.slot b o e n hb (by simp)) (fun b o _ e n=>u.free b o e n (by simp)) (fun b o _ e=>u.there b o e (by simp)) u.tups u.frzs u.tbls (fun m' hm=>by
  obtain ⟨o',es',ep',ho',r'⟩:=hm
  rw [ho] at ho'; cases ho'
  exact ⟨_,es',ep',hL,r'⟩) hok I.bare
theorem Inv.call {g':Array GenState} {t':Nat} {d':Drawn} {ch:List Addr} (I:Inv X pins σ H s) (u:Un (frs X.stack) ch H H' s.heap h') (hok:HOk X.prog X.w H' h') (hg:AllBare g')
  (hch:∀ b∈ch,(b∈X.ex∨X.s₀.heap.objs.size≤b)∧b≠X.env.locals∧(∀ x c,X.env.cells.lookup x=some c→c≠b)∧∀ p∈X.pn ++ pins,p.1≠b) :
  Inv X pins σ H' { s with heap:=h',gens:=g',drawn:=d',toks:=t' }:=by
 obtain ⟨m,⟨o,es,ep,ho,r⟩,_⟩:=id I.loc
 obtain ⟨sl,hL⟩:=u.any ho I.free fun z=>(hch _ z).2.1 rfl
 exact I.step (ch:=ch) hch (fun b o hL hb hc e n=>u.keep b o e n (fun z=>(List.mem_cons.mp (I.stkSub b z)).elim hL hb) hc) (fun b o _ _ hc e n=>u.any e n hc) (fun b o hc e n=>u.free b o e n hc) (fun b o hc e=>u.there b o e hc) u.tups u.frzs u.tbls (fun m' hm=>by
  obtain ⟨o',es',ep',ho',r'⟩:=hm
  rw [ho] at ho'; cases ho'
  exact ⟨_,es',ep',hL,r'⟩) hok hg
theorem Inv.turned {t':Nat} {it:Addr} (I:Inv X pins σ H s) (k:∀ b o,b≠it→s.heap.get? b=some o→h'.get? b=some o) (hn:H it=none) (hL:it≠X.env.locals)
  (h1:it∈X.ex∨X.s₀.heap.objs.size≤it) (h2:∀ x c,X.env.cells.lookup x=some c→c≠it) (h3:∀ p∈X.pn ++ pins,p.1≠it):Inv X pins σ H { s with heap:=h',toks:=t' }:=by
 have nit:∀ b u,H b=some u→b≠it:=fun b u e z=>by rw [z,hn] at e; cases e
 refine I.step (g':=s.gens) (d':=s.drawn) (ch:=[it]) (fun b hb=>?_) (fun b o _ _ hc e _=>k b o (fun z=>hc (by simp [z])) e) (fun b o _ _ hc e _=>⟨o.slots,k b o (fun z=>hc (by simp [z])) e⟩) (fun _ _ _ _ n=>n)
  (fun b o hc e=>⟨o,k b o (fun z=>hc (by simp [z])) e⟩) (fun _ _ e=>e) (fun _ _ _ e=>e) (fun b ps e=>⟨#[],by rw [e]; simp⟩) (fun m hm=>?_) (fun b u e=>?_) I.bare
 ·have e:b=it:=by simpa using hb
  subst e
  exact ⟨h1,hL,h2,h3⟩
 ·obtain ⟨o,es,ep,ho,r⟩:=hm
  exact ⟨o,es,ep,k _ o (Ne.symm hL) ho,r⟩
 ·refine (I.hok b u e).stay (fun c v hc q=>k c v ?_ q) (fun _ q=>q) fun _ _ q=>q
  rcases hc with z | z
  ·rw [z]; exact nit b u e
  ·exact nit c _ z
theorem Inv.tok (I:Inv X pins σ H s) (t:Nat):Inv X pins σ H { s with toks:=t }:=I.un (h':=s.heap) (t':=t) Un.refl I.hok
theorem Inv.kept {t':Nat} (I:Inv X pins σ H s) (k:∀ b u,s.heap.get? b=some u→h'.get? b=some u):Inv X pins σ H { s with heap:=h',toks:=t' }:=I.un (Un.kept k) (I.hok.kept k)
theorem Inv.laid {a:Addr} {o:HO} {t':Nat} (I:Inv X pins σ H s) (k:∀ b u,s.heap.get? b=some u→h'.get? b=some u) (hp:s.heap.objs.size≤a) (new:ObjOk X.prog X.w (upd H a o) h' a o) :
  Inv X pins σ (upd H a o) { s with heap:=h',toks:=t' }:=I.un (Un.laid k hp (I.hok.fresh hp)) (I.hok.laid k hp new)
theorem Inv.write {x e:Addr} {o:HO} {t':Nat} (I:Inv X pins σ H s) (mu:Mut (H x)) (he:e=x∨H e=some (.own x)) (k:∀ b u,b≠e→s.heap.get? b=some u→h'.get? b=some u) (heo:∃ u,h'.get? e=some u)
  (new:ObjOk X.prog X.w (upd H x o) h' x o):Inv X pins σ (upd H x o) { s with heap:=h',toks:=t' }:=I.un (Un.write mu he k heo) (I.hok.write mu he k heo new)
theorem Inv.pins_of {pins':List (Addr×Obj)} (I:Inv X pins σ H s) (h:∀ p∈pins',s.heap.get? p.1=some p.2∧H p.1=none∧p.1≠X.env.locals∧p.1 ∉ X.fs∧∀ v,p.2.data≠.cell v):Inv X pins' σ H s :=
 ⟨I.ok,I.os,I.bare,I.base,I.loc,I.cell,I.free,I.freeC,fun p hp=>(List.mem_append.mp hp).elim (fun z=>I.pin p (List.mem_append_left _ z)) (h p),I.hok,I.len⟩
theorem nodup_ix {N:List Str} (hN:N.Nodup) {i j:Nat} {x:Str} (a:N[i]?=some x) (b:N[j]?=some x):i=j:=by
 obtain ⟨h1,e1⟩:=List.getElem?_eq_some_iff.mp a
 obtain ⟨h2,e2⟩:=List.getElem?_eq_some_iff.mp b
 exact (List.getElem_inj hN).mp (e1.trans e2.symm)
theorem store_ok2 {M:Model} {A:Around} {E:Value→Shared→Prop} {i:Nat} {x:Str} {v:V} {u:Value} {Q:Unit→Shared→Prop} (I:Inv X pins σ H s) (hN:X.N.Nodup) (hi:X.N[i]?=some x) (hx:Loc X.env.scope x) (r:RelV v u)
  (h:∀ s',Inv X pins (σ.set i (some v)) H s'→(∃ a,Heap.SameBut a s.heap s'.heap∧(a=X.env.locals∨X.env.cells.lookup x=some a))→Q () s') (hf:X.fn x=true∨X.env.scope.names.lookup x=some .local:=by first | exact .inl rfl | exact .inr rfl | assumption):wpAny M A (storeName X.env x u) Q E s:=by
 obtain ⟨m,hn,hl⟩:=id I.loc
 have hcls:(X.env.scope.kind == .class || (X.env.scope.kind == .module && X.env.locals != X.env.globals))=false:=by rw [I.ok.kind]; rfl
 have hiσ:i < σ.length:=by rw [I.len]; exact (List.getElem?_eq_some_iff.mp hi).1
 have cne:=I.cne
 have tracked:∀ {a:Addr} {h':Heap},(∃ o,s.heap.get? a=some o∧H a=none)→Heap.SameBut a s.heap h'→HOk X.prog X.w H h':=fun {a h'} ha hs b ob e=>by
  obtain ⟨_,_,hfree⟩:=ha
  refine (I.hok b ob e).stay (fun c w' hc q=>(hs.2 c ?_).trans q) (fun _ q=>q) fun _ _ q=>q
  rintro rfl
  rcases hc with rfl | hc
  ·rw [hfree] at e; cases e
  ·rw [hfree] at hc; cases hc
 rcases hx with hk | hk
 ·refine wpAny_storeName_local hk hn (fun h' hn' hs=>?_) hcls
  obtain ⟨oL,_,_,hoL,_⟩:=id hn
  refine h _ ⟨I.ok,I.os,I.bare,⟨fun b o e n hb hx=>?_,fun b o e n hb hx=>?_,I.base.free,fun b o e hx=>?_,I.base.tups,I.base.frzs,I.base.tbls⟩,⟨_,hn',fun j y v' e1 e2 e3=>?_⟩,fun y c e=>?_,I.free,I.freeC,fun p hp=>?_,tracked ⟨oL,hoL,I.free⟩ hs,by simpa using I.len⟩ ⟨_,hs,.inl rfl⟩
  ·exact (hs.2 b (Nat.ne_of_lt (Nat.lt_of_lt_of_le (Heap.lt_size e) I.ok.above))).trans (I.base.keep b o e n hb hx)
  ·obtain ⟨sl,e1⟩:=I.base.slot b o e n hb hx
   exact ⟨sl,(hs.2 b (Nat.ne_of_lt (Nat.lt_of_lt_of_le (Heap.lt_size e) I.ok.above))).trans e1⟩
  ·obtain ⟨o',e1⟩:=I.base.there b o e hx
   exact ⟨o',(hs.2 b (Nat.ne_of_lt (Nat.lt_of_lt_of_le (Heap.lt_size e) I.ok.above))).trans e1⟩
  ·by_cases hj:j=i
   ·subst hj
    rw [hi] at e1; cases e1
    rw [List.getElem?_set_self hiσ] at e2
    cases e2
    exact ⟨u,r,.inl ⟨hk,by simp⟩⟩
   ·rw [List.getElem?_set_ne (Ne.symm hj)] at e2
    obtain ⟨u',r',q⟩:=hl j y v' e1 e2 e3
    refine ⟨u',r',?_⟩
    rcases q with ⟨k,e⟩ | ⟨k,c,e,z⟩
    ·refine .inl ⟨k,?_⟩
     have:y≠x:=fun e=>hj (nodup_ix hN e1 (e ▸ hi))
     simp [this,e]
    ·exact .inr ⟨k,c,e,z.sameBut hs (cne y c e)⟩
  ·obtain ⟨w',z⟩:=I.cell y c e
   exact ⟨w',z.sameBut hs (cne y c e)⟩
  ·obtain ⟨e,n,ne,nf,d⟩:=I.pin p hp
   exact ⟨(hs.2 p.1 ne).trans e,n,ne,nf,d⟩
 ·have hfn:X.fn x=true:=by
   rcases hf with z | z
   ·exact z
   ·rw [z] at hk; cases hk
  obtain ⟨c,hc⟩:=I.ok.has x (.inl hk)
  obtain ⟨w',z⟩:=I.cell x c hc
  refine wpAny_storeName_cell I.ok.kind hk hc z (fun h' hc' hs=>?_)
  obtain ⟨oc,hoc,hocd⟩:=id z
  refine h { s with heap:=h' } ⟨I.ok,I.os,I.bare,⟨fun b o e n hb hx=>?_,fun b o e n hb hx=>?_,I.base.free,fun b o e hx=>?_,I.base.tups,I.base.frzs,I.base.tbls⟩,⟨m,hn.sameBut hs (Ne.symm (cne x c hc)),fun j y v' e1 e2 e3=>?_⟩,fun y c' e=>?_,I.free,I.freeC,fun p hp=>?_,tracked ⟨oc,hoc,I.freeC x c hc⟩ hs,by simpa using I.len⟩ ⟨c,hs,.inr hc⟩
  ·exact (hs.2 b (Nat.ne_of_lt (Nat.lt_of_lt_of_le (Heap.lt_size e) (I.ok.cab x c hfn hc)))).trans (I.base.keep b o e n hb hx)
  ·obtain ⟨sl,e1⟩:=I.base.slot b o e n hb hx
   exact ⟨sl,(hs.2 b (Nat.ne_of_lt (Nat.lt_of_lt_of_le (Heap.lt_size e) (I.ok.cab x c hfn hc)))).trans e1⟩
  ·obtain ⟨o',e1⟩:=I.base.there b o e hx
   exact ⟨o',(hs.2 b (Nat.ne_of_lt (Nat.lt_of_lt_of_le (Heap.lt_size e) (I.ok.cab x c hfn hc)))).trans e1⟩
  ·by_cases hj:j=i
   ·subst hj
    rw [hi] at e1; cases e1
    rw [List.getElem?_set_self hiσ] at e2
    cases e2
    exact ⟨u,r,.inr ⟨.inl hk,c,hc,hc'⟩⟩
   ·rw [List.getElem?_set_ne (Ne.symm hj)] at e2
    obtain ⟨u',r',q⟩:=hl j y v' e1 e2 e3
    refine ⟨u',r',?_⟩
    rcases q with q | ⟨k,c',e,z'⟩
    ·exact .inl q
    ·refine .inr ⟨k,c',e,z'.sameBut hs ?_⟩
     rintro rfl
     exact hj (nodup_ix hN e1 (I.ok.inj _ _ _ e hc ▸ hi))
  ·by_cases hcc:c'=c
   ·subst hcc; exact ⟨_,hc'⟩
   ·obtain ⟨w2,z2⟩:=I.cell y c' e
    exact ⟨w2,z2.sameBut hs hcc⟩
  ·obtain ⟨e,n,ne,nf,d⟩:=I.pin p hp
   refine ⟨(hs.2 p.1 ?_).trans e,n,ne,nf,d⟩
   intro q
   rw [q,hoc] at e
   have q':oc=p.2:=Option.some.inj e
   exact d w' (by rw [← q']; exact hocd)
theorem store_ok {M:Model} {A:Around} {E:Value→Shared→Prop} {i:Nat} {x:Str} {v:V} {u:Value} {Q:Unit→Shared→Prop} (I:Inv X pins σ H s) (hN:X.N.Nodup) (hi:X.N[i]?=some x) (hx:Loc X.env.scope x) (r:RelV v u)
  (h:∀ s',Inv X pins (σ.set i (some v)) H s'→Q () s') (hf:X.fn x=true∨X.env.scope.names.lookup x=some .local:=by first | exact .inl rfl | exact .inr rfl | assumption):wpAny M A (storeName X.env x u) Q E s :=
 store_ok2 I hN hi hx r (fun s' I' _=>h s' I') hf
theorem Inv.call' {s':Shared} {ch:List Addr} (I:Inv X pins σ H s) (ho:s'.os=s.os) (u:Un (frs X.stack) ch H H' s.heap s'.heap) (hok:HOk X.prog X.w H' s'.heap) (hg:AllBare s'.gens)
  (hch:∀ b∈ch,(b∈X.ex∨X.s₀.heap.objs.size≤b)∧b≠X.env.locals∧(∀ x c,X.env.cells.lookup x=some c→c≠b)∧∀ p∈X.pn ++ pins,p.1≠b):Inv X pins σ H' s':=by
 obtain ⟨h',g',d',t',o'⟩:=s'
 have e:o'=s.os:=ho
 subst e
 exact I.call (g':=g') (t':=t') (d':=d') u hok hg hch
end
abbrev XK:=Value→Option Addr→Hp→Prop
abbrev St:=List (Option V)
abbrev VK:=V→Hp→Prop
abbrev TE:=St→Hp→VK→Prop
abbrev TT:=St→Hp→(Bool→Hp→Prop)→Prop
abbrev TA:=St→Hp→(List V→Hp→Prop)→Prop
structure Ends where
 nx:St→Hp→Prop
 rt:VK
 bk:St→Hp→Prop:=fun _ _=>False
 ct:St→Hp→Prop:=fun _ _=>False
abbrev TS:=Ends→St→Hp→Prop
def EP (X:Cx) (pins:List (Addr×Obj)) (σ:St) (Q:VK) (u:Value) (s':Shared):Prop:=∃ v H',Inv X pins σ H' s'∧RelV v u∧Q v H'
def TP (X:Cx) (pins:List (Addr×Obj)) (σ:St) (Q:Bool→Hp→Prop) (b:Bool) (s':Shared):Prop:=∃ H',Inv X pins σ H' s'∧Q b H'
def AP (X:Cx) (pins:List (Addr×Obj)) (σ:St) (Q:List V→Hp→Prop) (us:List Value) (s':Shared):Prop:=∃ vs H',Inv X pins σ H' s'∧Vals vs us∧Q vs H'
def SP (X:Cx) (pins:List (Addr×Obj)) (D:Ends) (f:Flow) (s':Shared):Prop :=
 match f with
 | .next=>∃ σ' H',Inv X pins σ' H' s'∧D.nx σ' H'
 | .brk=>∃ σ' H',Inv X pins σ' H' s'∧D.bk σ' H'
 | .cont=>∃ σ' H',Inv X pins σ' H' s'∧D.ct σ' H'
 | .ret u=>∃ v σ' H',Inv X pins σ' H' s'∧RelV v u∧D.rt v H'
def PE (X:Cx) (e:Expr) (t:TE):Prop :=
 ∀ (pins:List (Addr×Obj)) (s:Shared) (σ:St) (H:Hp) (Q:VK),Inv X pins σ H s→t σ H Q→wpAny (model X.prog X.w) X.A (eval e X.env) (EP X pins σ Q) X.xe s
def PT (X:Cx) (e:Expr) (t:TT):Prop :=
 ∀ (pins:List (Addr×Obj)) (s:Shared) (σ:St) (H:Hp) (Q:Bool→Hp→Prop),Inv X pins σ H s→t σ H Q→wpAny (model X.prog X.w) X.A (isTrue e X.env (eval e X.env)) (TP X pins σ Q) X.xe s
def PW (X:Cx) (e:Expr) (t:TT):Prop :=
 ∀ (whole:Sem Value) (pins:List (Addr×Obj)) (s:Shared) (σ:St) (H:Hp) (Q:Bool→Hp→Prop),Inv X pins σ H s→t σ H Q→wpAny (model X.prog X.w) X.A (isTrue e X.env whole) (TP X pins σ Q) X.xe s
theorem PW.pt {X:Cx} {e:Expr} {t:TT} (h:PW X e t):PT X e t:=h _
def PA (X:Cx) (es:List Expr) (t:TA):Prop :=
 ∀ (pos:Pos) (pins:List (Addr×Obj)) (s:Shared) (σ:St) (H:Hp) (Q:List V→Hp→Prop),Inv X pins σ H s→t σ H Q→wpAny (model X.prog X.w) X.A (spliced (backTo pos (starEach es X.env))) (AP X pins σ Q) X.xe s
def PS (X:Cx) (st:Stmt) (t:TS):Prop :=
 ∀ (pins:List (Addr×Obj)) (s:Shared) (σ:St) (H:Hp) (D:Ends),Inv X pins σ H s→t D σ H→wpAny (model X.prog X.w) X.A (exec st X.env) (SP X pins D) X.xe s
def PSs (X:Cx) (st:List Stmt) (t:TS):Prop :=
 ∀ (pins:List (Addr×Obj)) (s:Shared) (σ:St) (H:Hp) (D:Ends),Inv X pins σ H s→t D σ H→wpAny (model X.prog X.w) X.A (execs st X.env) (SP X pins D) X.xe s
theorem thn {α:Type} {t:Sem α} {Q Q':α→Shared→Prop} {M:Model} {A:Around} {E:Value→Shared→Prop} {s:Shared} (h:wpAny M A t Q E s) (hQ:∀ a s,Q a s→Q' a s):wpAny M A t Q' E s:=wpAny_mono h hQ fun _ _ x=>x
end L2
namespace L2
open PySem PySem.Spec PyProof.Rows
section
variable {X:Cx}
def tVar (i:Nat):TE:=fun σ H Q=>∃ v,σ[i]?=some (some v)∧Q v H
def tC (v:V):TE:=fun _ H Q=>Q v H
theorem pe_var {i:Nat} {x:Str} {pos:Pos} (hN:X.N[i]?=some x) (hv:Vis X.env.scope x) (hd:(x == ("__debug__" : Str))=false:=by decide) (hcd:(x == ("__classdict__" : Str))=false:=by decide):PE X (.Name x pos) (tVar i):=by
 intro pins s σ H Q I h
 obtain ⟨v,e,h⟩:=h
 obtain ⟨m,hn,hl⟩:=I.loc
 obtain ⟨u,r,l⟩:=hl i x v hN e hv
 have fin:EP X pins σ Q u s:=⟨v,H,I,r,h⟩
 rcases l with ⟨hk,hm⟩ | ⟨hk,c,hc,hcell⟩
 ·exact wpAny_Name (wpAny_loadName_local I.ok.kind hk hn hm fin) hd
 ·rcases hk with hk | hk
  ·exact wpAny_Name (wpAny_loadName_cell I.ok.kind hk hc hcell fin) hd
  ·exact wpAny_Name (wpAny_loadName_free I.ok.kind hk hc hcell fin hcd) hd
theorem pe_int {i j pos}:PE X (.Constant (.int i) j pos) (tC (.int i)):=fun _ _ _ H _ I h=>wpAny_Constant_int ⟨.int i,H,I.tok _,⟨_,rfl⟩,h⟩
theorem pe_bl {b j pos}:PE X (.Constant (.bool b) j pos) (tC (.bl b)):=fun _ _ _ H _ I h=>Constant_bool ⟨.bl b,H,I,rfl,h⟩
def Gl (X:Cx) (x:Str):Prop:=X.env.kindOf x=some .globalImplicit
theorem ld_glob {E:Value→Shared→Prop} {pins:List (Addr×Obj)} {s:Shared} {σ:St} {H:Hp} {x:Str} {u:Value} {pos:Pos} {Q:Value→Shared→Prop} (I:Inv X pins σ H s) (hg:Gl X x) (hm:X.mg x=some u) (h:Q u s)
  (hd:(x == ("__debug__" : Str))=false:=by decide):wpAny (model X.prog X.w) X.A (eval (.Name x pos) X.env) Q E s :=
 Calls.Name_function_global I.ok.kind hg (Calls.loadGlobal_global (by rw [I.ok.glob]; exact I.mod.glob.keeps I.bk) hm h) hd
theorem ld_blt {E:Value→Shared→Prop} {pins:List (Addr×Obj)} {s:Shared} {σ:St} {H:Hp} {x:Str} {u:Value} {pos:Pos} {Q:Value→Shared→Prop} (I:Inv X pins σ H s) (hg:Gl X x) (hm:X.mg x=none) (hv:bootBuiltins x=some u) (h:Q u s)
  (hn:x ≠ "__name__" := by decide) (hd:(x == ("__debug__" : Str))=false:=by decide):wpAny (model X.prog X.w) X.A (eval (.Name x pos) X.env) Q E s:=by
 obtain ⟨mb,h1,h2⟩:=I.mod.blt
 exact Calls.Name_function_global I.ok.kind hg (Calls.loadGlobal_builtin (by rw [I.ok.glob]; exact I.mod.glob.keeps I.bk) hm (by rw [I.ok.blt]; exact h1.keeps I.bk) ((h2 x hn).trans hv) h) hd
theorem pe_bltn {x:Str} {v:V} {u:Value} {pos:Pos} (hg:Gl X x) (hm:X.mg x=none) (hv:bootBuiltins x=some u) (r:RelV v u) (hn:x ≠ "__name__" := by decide) (hd:(x == ("__debug__" : Str))=false:=by decide):PE X (.Name x pos) (tC v) :=
 fun _ _ _ H _ I h=>ld_blt I hg hm hv ⟨v,H,I,r,h⟩ hn hd
variable {a b:Expr} {ta tb:TE} {pos:Pos}
def tB (t:TE):TT:=fun σ H Q=>t σ H fun x H1=>∃ c,x=.bl c∧Q c H1
theorem pt_val {e:Expr} {t:TE} (h:PE X e t) (he:∀ whole,isTrue e X.env whole=(do let v ← whole; standAt e.pos; holding [v] (truthy v)):=by intro _; rfl):PT X e (tB t):=by
 intro pins s σ H Q I hw
 refine isTrue_plain (thn (h pins s σ H _ I hw) fun v s1 ⟨x,H1,I1,r1,q1⟩=>?_) (he _)
 obtain ⟨d,rfl,q⟩:=q1
 cases r1
 exact wpAny_truthy_bool ⟨H1,I1,q⟩
variable {tA tB':TT} {rest:List Expr}
def tAnd (t u:TT):TT:=fun σ H Q=>t σ H fun c H1=>if c=true then u σ H1 Q else Q false H1
def tOr (t u:TT):TT:=fun σ H Q=>t σ H fun c H1=>if c=true then Q true H1 else u σ H1 Q
def tNot (t:TT):TT:=fun σ H Q=>t σ H fun c H1=>Q (!c) H1
theorem pw_and1 (ha:PT X a tA):PW X (.BoolOp .And [a] pos) tA:=by
 intro wh pins s σ H Q I h
 refine isTrue_and (thn (ha pins s σ H Q I h) fun c s1 e=>?_)
 cases c with
 | true=>exact isTrue_and_nil e
 | false=>exact e
theorem pw_or1 (ha:PT X a tA):PW X (.BoolOp .Or [a] pos) tA:=by
 intro wh pins s σ H Q I h
 refine isTrue_or (thn (ha pins s σ H Q I h) fun c s1 e=>?_)
 cases c with
 | false=>exact isTrue_or_nil e
 | true=>exact e
theorem pw_and (ha:PT X a tA) (hb:PW X (.BoolOp .And (b :: rest) pos) tB'):PW X (.BoolOp .And (a :: b :: rest) pos) (tAnd tA tB'):=by
 intro wh pins s σ H Q I h
 refine isTrue_and (thn (ha pins s σ H _ I h) fun c s1 ⟨H1,I1,q1⟩=>?_)
 cases c with
 | true=>exact hb wh pins s1 σ H1 Q I1 q1
 | false=>exact ⟨H1,I1,q1⟩
theorem pw_or (ha:PT X a tA) (hb:PW X (.BoolOp .Or (b :: rest) pos) tB'):PW X (.BoolOp .Or (a :: b :: rest) pos) (tOr tA tB'):=by
 intro wh pins s σ H Q I h
 refine isTrue_or (thn (ha pins s σ H _ I h) fun c s1 ⟨H1,I1,q1⟩=>?_)
 cases c with
 | true=>exact ⟨H1,I1,q1⟩
 | false=>exact hb wh pins s1 σ H1 Q I1 q1
theorem pt_not (ha:PT X a tA):PT X (.UnaryOp .Not a pos) (tNot tA):=by
 intro pins s σ H Q I h
 exact isTrue_not (ha pins s σ H (fun c H1=>Q (!c) H1) I h)
def tAndV (ta tb:TE):TE:=fun σ H Q=>ta σ H fun x H1=>∃ c,x=.bl c∧if c=true then tb σ H1 Q else Q (.bl false) H1
theorem pe_one {op} {t:TE} (h:PE X a t):PE X (.BoolOp op [a] pos) t:=fun pins s σ H Q I hw=>BoolOp_one (h pins s σ H Q I hw)
theorem pe_and (ha:PE X a ta) (hb:PE X (.BoolOp .And (b :: rest) pos) tb):PE X (.BoolOp .And (a :: b :: rest) pos) (tAndV ta tb):=by
 intro pins s σ H Q I h
 refine BoolOp_and (thn (ha pins s σ H _ I h) fun v s1 ⟨x,H1,I1,r1,q1⟩=>?_)
 obtain ⟨c,rfl,q1⟩:=q1
 cases r1
 refine wpAny_truthy_bool ?_
 cases c with
 | true=>exact hb pins s1 σ H1 Q I1 q1
 | false=>exact ⟨.bl false,H1,I1,rfl,q1⟩
def tIf (t:TT) (ta tb:TE):TE:=fun σ H Q=>t σ H fun c H1=>if c=true then ta σ H1 Q else tb σ H1 Q
theorem pe_ifExp {c:Expr} (hc:PT X c tA) (ha:PE X a ta) (hb:PE X b tb):PE X (.IfExp c a b pos) (tIf tA ta tb):=by
 intro pins s σ H Q I h
 refine wpAny_IfExp (thn (hc pins s σ H _ I h) fun d s1 ⟨H1,I1,q1⟩=>?_)
 cases d with
 | true=>exact ha pins s1 σ H1 Q I1 q1
 | false=>exact hb pins s1 σ H1 Q I1 q1
end
end L2
namespace L2
open PySem PySem.Spec PyProof.Rows
def SqL (K:PySem.W.Frag) (H:Hp) (a:Addr) (xs:List V):Prop :=
 Rd H a (.lst xs) ∨
  ∃ (o:Obj) (its:Array Value) (n:Nat),K.lookup a=some o∧o.cls=.type "list" ∧ o.dict=none∧o.data=.seq its n∧its.size≤sizeLine∧Vals xs its.toList
def SqT (K:PySem.W.Frag) (H:Hp) (a:Addr) (xs:List V):Prop :=
 Rd H a (.tup xs) ∨
  ∃ (o:Obj) (its:Array Value) (n:Nat),K.lookup a=some o∧o.cls=.type "tuple" ∧ o.data=.seq its n∧its.size≤sizeLine∧Vals xs its.toList
def absV:Value→Option V
 | .none=>some .non
 | .bool b=>some (.bl b)
 | .int i _=>some (.int i)
 | .str x _=>some (.str x)
 | .bytes b _=>some (.byt b)
 | .float b _=>some (.flt b)
 | .ref a=>some (.ref a)
 | .type n=>some (.ty n)
 | _=>none
theorem RelV.abs {x:V} {u:Value} (r:RelV x u):absV u=some x:=by
 cases x with
 | non=>cases r; rfl
 | bl _=>cases r; rfl
 | int _=>obtain ⟨t,rfl⟩:=r; rfl
 | str _=>obtain ⟨t,rfl⟩:=r; rfl
 | byt _=>obtain ⟨t,rfl⟩:=r; rfl
 | flt _=>obtain ⟨t,rfl⟩:=r; rfl
 | ref _=>cases r; rfl
 | ty _=>cases r; rfl
theorem RelV.inj {x y:V} {u:Value} (r:RelV x u) (q:RelV y u):x=y:=Option.some.inj (r.abs.symm.trans q.abs)
theorem Vals.inj:∀ {xs ys:List V} {us:List Value},Vals xs us→Vals ys us→xs=ys
 | _,_,_,.nil,.nil=>rfl
 | _,_,_,.cons r t,.cons r' t'=>by rw [r.inj r',Vals.inj t t']
section
variable {X:Cx} {pins:List (Addr×Obj)} {σ:St} {H:Hp} {s:Shared} {a:Addr} {xs ys:List V}
theorem SqL.of {K:PySem.W.Frag} (h:H a=some (.lst xs)):SqL K H a xs:=.inl (.inl h)
theorem SqT.of {K:PySem.W.Frag} (h:H a=some (.tup xs)):SqT K H a xs:=.inl (.inl h)
theorem Inv.list (I:Inv X pins σ H s) (h:SqL X.K H a xs):∃ its:List Value,Vals xs its∧PlainL s.heap a its.toArray∧xs.length≤sizeLine:=by
 rcases h with h | ⟨o,its,n,hk,hc,hd,hs,hz,r⟩
 ·obtain ⟨z,its,n,r,e⟩:=h.ok I.hok
  exact ⟨its,r,⟨_,n,e,rfl,rfl,rfl⟩,z⟩
 ·refine ⟨its.toList,r,⟨o,n,I.kIn a o hk,hc,hd,by simpa using hs⟩,?_⟩
  have e:=r.length
  simp only [Array.length_toList] at e
  omega
theorem Inv.tuple (I:Inv X pins σ H s) (h:SqT X.K H a xs):∃ its:List Value,Vals xs its∧IsTup s.heap a its.toArray∧xs.length≤sizeLine:=by
 rcases h with h | ⟨o,its,n,hk,hc,hs,hz,r⟩
 ·obtain ⟨z,its,r,p⟩:=h.ok I.hok
  exact ⟨its,r,p,z⟩
 ·refine ⟨its.toList,r,⟨o,I.kIn a o hk,hc,n,by simpa using hs⟩,?_⟩
  have e:=r.length
  simp only [Array.length_toList] at e
  omega
theorem Inv.list_inj (I:Inv X pins σ H s) (h:SqL X.K H a xs) (h':SqL X.K H a ys):xs=ys:=by
 obtain ⟨its,r,⟨o,n,e,_,_,d⟩,_⟩:=I.list h
 obtain ⟨its',r',⟨o',n',e',_,_,d'⟩,_⟩:=I.list h'
 rw [e] at e'; cases e'
 rw [d] at d'
 injection d' with d1 _
 have:its=its':=by simpa using congrArg Array.toList d1
 subst this
 exact r.inj r'
theorem Inv.tuple_inj (I:Inv X pins σ H s) (h:SqT X.K H a xs) (h':SqT X.K H a ys):xs=ys:=by
 obtain ⟨its,r,⟨o,e,_,n,d⟩,_⟩:=I.tuple h
 obtain ⟨its',r',⟨o',e',_,n',d'⟩,_⟩:=I.tuple h'
 rw [e] at e'; cases e'
 rw [d] at d'
 injection d' with d1 _
 have:its=its':=by simpa using congrArg Array.toList d1
 subst this
 exact r.inj r'
end
abbrev Cx.wish (X:Cx) (E:Value→Shared→Prop):Cx:={ X with xe:=E }
abbrev Cx.nox (X:Cx):Cx:=X.wish fun _ _=>False
theorem Cx.Ok.wish {X:Cx} (ok:X.Ok) (E:Value→Shared→Prop):(X.wish E).Ok :=
 ⟨ok.mod,ok.kind,ok.glob,ok.blt,ok.above,ok.inj,ok.has,ok.cab,ok.hd,ok.frames,ok.stk,ok.exf,ok.bs,ok.bsz,ok.noex,ok.exfs,ok.funs,ok.frf⟩
theorem Cx.Ok.unwish {X:Cx} {E:Value→Shared→Prop} (ok:(X.wish E).Ok):X.Ok :=
 ⟨ok.mod,ok.kind,ok.glob,ok.blt,ok.above,ok.inj,ok.has,ok.cab,ok.hd,ok.frames,ok.stk,ok.exf,ok.bs,ok.bsz,ok.noex,ok.exfs,ok.funs,ok.frf⟩
section
variable {X:Cx} {pins:List (Addr×Obj)} {σ:St} {H:Hp} {s:Shared} {E:Value→Shared→Prop}
theorem Inv.wish (I:Inv X pins σ H s) (E:Value→Shared→Prop):Inv (X.wish E) pins σ H s:=⟨I.ok.wish E,I.os,I.bare,I.base,I.loc,I.cell,I.free,I.freeC,I.pin,I.hok,I.len⟩
theorem Inv.unwish (I:Inv (X.wish E) pins σ H s):Inv X pins σ H s:=⟨I.ok.unwish,I.os,I.bare,I.base,I.loc,I.cell,I.free,I.freeC,I.pin,I.hok,I.len⟩
theorem SP.unwish {D:Ends} {f:Flow} {s':Shared} (h:SP (X.wish E) pins D f s'):SP X pins D f s':=by
 cases f with
 | next=>obtain ⟨σ',H',I,q⟩:=h; exact ⟨σ',H',I.unwish,q⟩
 | brk=>obtain ⟨σ',H',I,q⟩:=h; exact ⟨σ',H',I.unwish,q⟩
 | cont=>obtain ⟨σ',H',I,q⟩:=h; exact ⟨σ',H',I.unwish,q⟩
 | ret u=>obtain ⟨v,σ',H',I,r,q⟩:=h; exact ⟨v,σ',H',I.unwish,r,q⟩
theorem PSs.nox {st:List Stmt} {t:TS} (h:PSs X.nox st t):PSs X st t:=fun pins s σ H D I hw =>
 wpAny_mono (h pins s σ H D (I.wish _) hw) (fun _ _ q=>q.unwish) fun _ _ z=>False.elim z
end
section
variable {X:Cx} {st:Stmt} {rest:List Stmt} {t u:TS} {e:Expr} {te:TE} {pos:Pos}
def tNext:TS:=fun D σ H=>D.nx σ H
def tSeq (t u:TS):TS:=fun D σ H=>t { D with nx:=u D } σ H
theorem pss_nil:PSs X [] tNext:=fun _ _ σ H _ I h=>wpAny_execs_nil ⟨σ,H,I,h⟩
theorem pss_cons (h1:PS X st t) (h2:PSs X rest u):PSs X (st :: rest) (tSeq t u):=by
 intro pins s σ H D I h
 refine wpAny_execs_cons (thn (h1 pins s σ H { D with nx:=u D } I h) fun f s1 q=>?_)
 cases f with
 | next =>
  obtain ⟨σ',H',I',q⟩:=q
  exact h2 pins s1 σ' H' D I' q
 | ret v=>exact q
 | brk=>exact q
 | cont=>exact q
theorem pss_one (h1:PS X st t):PSs X [st] t:=by
 intro pins s σ H D I h
 refine wpAny_execs_cons (thn (h1 pins s σ H D I h) fun f s1 q=>?_)
 cases f with
 | next=>exact wpAny_execs_nil q
 | ret v=>exact q
 | brk=>exact q
 | cont=>exact q
def tBreak:TS:=fun D σ H=>D.bk σ H
theorem ps_break:PS X (.Break pos) tBreak:=fun _ _ σ H _ I h=>wpAny_Break ⟨σ,H,I,h⟩
theorem Inv.quiet {pins:List (Addr×Obj)} {σ:St} {H:Hp} {s:Shared} (I:Inv X pins σ H s):interactive X.env=false:=by simp [interactive,I.ok.kind]
def tDrop (te:TE):TS:=fun D σ H=>te σ H fun _ H1=>D.nx σ H1
theorem ps_expr (he:PE X e te) (hs:swapsWith e none pos.line X.env=pure false:=by rfl):PS X (.Expr e pos) (tDrop te):=by
 intro pins s σ H D I h
 exact wpAny_Expr_any (thn (he pins s σ H _ I h) fun v s1 ⟨x,H1,I1,r1,q1⟩=>⟨σ,H1,I1,q1⟩) I.quiet hs
def tRet (te:TE):TS:=fun D σ H=>te σ H D.rt
theorem ps_ret (he:PE X e te):PS X (.Return (some e) pos) (tRet te):=by
 intro pins s σ H D I h
 exact wpAny_Return_some (thn (he pins s σ H _ I h) fun v s1 ⟨x,H1,I1,r1,q1⟩=>⟨x,σ,H1,I1,r1,q1⟩)
def tIfS (c:TT) (t u:TS):TS:=fun D σ H=>c σ H fun b H1=>if b=true then t D σ H1 else u D σ H1
theorem ps_if {c:Expr} {a b:List Stmt} {tc:TT} (hc:PT X c tc) (ha:PSs X a t) (hb:PSs X b u):PS X (.If c a b pos) (tIfS tc t u):=by
 intro pins s σ H D I h
 refine wpAny_If (thn (hc pins s σ H _ I h) fun d s1 ⟨H1,I1,q1⟩=>?_)
 cases d with
 | true=>exact ha pins s1 σ H1 D I1 q1
 | false=>exact hb pins s1 σ H1 D I1 q1
end
abbrev TG:=V→St→Hp→(St→Hp→Prop)→Prop
abbrev TGs:=List V→St→Hp→(St→Hp→Prop)→Prop
def PG (X:Cx) (target:Expr) (t:TG):Prop :=
 ∀ (pins:List (Addr×Obj)) (s:Shared) (σ:St) (H:Hp) (v:V) (u:Value) (Q:St→Hp→Prop),Inv X pins σ H s→RelV v u→t v σ H Q →
  wpAny (model X.prog X.w) X.A (assign target X.env u) (fun _ s'=>∃ σ' H',Inv X pins σ' H' s'∧Q σ' H') X.xe s
def PGs (X:Cx) (ts:List Expr) (t:TGs):Prop :=
 ∀ (pins:List (Addr×Obj)) (s:Shared) (σ:St) (H:Hp) (vs:List V) (us:List Value) (Q:St→Hp→Prop),Inv X pins σ H s→Vals vs us→t vs σ H Q →
  wpAny (model X.prog X.w) X.A (assignInOrder ((assignEach ts X.env).map (·.2)) us) (fun _ s'=>∃ σ' H',Inv X pins σ' H' s'∧Q σ' H') X.xe s
abbrev TSet:=V→V→V→Hp→(Hp→Prop)→Prop
def PSet (X:Cx) (t:TSet):Prop :=
 ∀ (pins:List (Addr×Obj)) (s:Shared) (σ:St) (H:Hp) (o i v:V) (ov iv u:Value) (Q:Hp→Prop),Inv X pins σ H s→RelV o ov→RelV i iv→RelV v u→t o i v H Q →
  wpAny (model X.prog X.w) X.A (setItem ov iv u) (fun _ s'=>∃ H',Inv X pins σ H' s'∧Q H') X.xe s
abbrev TIp:=V→V→Hp→VK→Prop
def PIp (X:Cx) (op:Operator) (t:TIp):Prop :=
 ∀ (pins:List (Addr×Obj)) (s:Shared) (σ:St) (H:Hp) (x y:V) (v u:Value) (Q:VK),Inv X pins σ H s→RelV x v→RelV y u→t x y H Q →
  wpAny (model X.prog X.w) X.A (inplaceOp op v u) (EP X pins σ Q) X.xe s
section
variable {X:Cx} {pos:Pos}
def gName (i:Nat):TG:=fun v σ H Q=>Q (σ.set i (some v)) H
theorem pg_name {i:Nat} {x:Str} (hN:X.N.Nodup) (hi:X.N[i]?=some x) (hx:Loc X.env.scope x) (hf:X.fn x=true∨X.env.scope.names.lookup x=some .local:=by first | exact .inl rfl | exact .inr rfl | assumption):PG X (.Name x pos) (gName i):=by
 intro pins s σ H v u Q I r h
 exact wpAny_assign_Name (store_ok I hN hi hx r (fun s' I'=>⟨_,H,I',h⟩) hf)
def gNil:TGs:=fun vs σ H Q=>vs=[]∧Q σ H
def gCons (t:TG) (u:TGs):TGs:=fun vs σ H Q=>∃ v r,vs=v :: r∧t v σ H fun σ' H'=>u r σ' H' Q
theorem pgs_nil:PGs X [] gNil:=by
 intro pins s σ H vs us Q I r h
 obtain ⟨e,h⟩:=h
 subst e
 cases r
 exact assignInOrder_nil ⟨σ,H,I,h⟩
theorem pgs_cons {e:Expr} {es:List Expr} {t:TG} {u:TGs} (h1:PG X e t) (h2:PGs X es u)
  (hs:(assignEach (e :: es) X.env).map (·.2)=assign e X.env :: (assignEach es X.env).map (·.2):=by rfl):PGs X (e :: es) (gCons t u):=by
 intro pins s σ H vs us Q I r h
 obtain ⟨v,vr,e1,h⟩:=h
 subst e1
 cases r with
 | cons r rr =>
  rw [hs]
  refine assignInOrder_cons (thn (h1 pins s σ H _ _ _ I r h) fun _ s1 ⟨σ1,H1,I1,q1⟩=>?_)
  exact h2 pins s1 σ1 H1 _ _ Q I1 rr q1
def gTup (K:PySem.W.Frag) (n:Nat) (t:TGs):TG:=fun v σ H Q=>∃ a xs,v=.ref a∧SqT K H a xs∧xs.length=n∧t xs σ H Q
theorem pg_tup {es:List Expr} {k:Nat} {t:TGs} {n:Nat} (hc:X.calm=true) (h:PGs X es t)
  (hn:(assignEach es X.env).length=n:=by rfl) (hst:(assignEach es X.env).findIdx? (·.1)=none:=by rfl):PG X (.Tuple es k pos) (gTup X.K n t):=by
 intro pins s σ H v u Q I r hw
 obtain ⟨a,xs,e1,hq,hl,hw⟩:=hw
 subst e1
 cases r
 obtain ⟨its,rv,ht,hz⟩:=I.tuple hq
 refine assign_Tuple_tuple (I.ok.hd hc) ht (by simp [hn,← hl,rv.length]) hst fun h' hx=>?_
 have I1:Inv X pins σ H { s with heap:=h' }:=I.kept (t':=s.toks) fun b o e=>hx b o (Nat.ne_of_lt (Heap.lt_size e)) e
 exact h pins _ σ H xs _ Q I1 (by simpa using rv) hw
def gSub (to ti:TE) (t:TSet):TG:=fun v σ H Q=>to σ H fun o H1=>ti σ H1 fun i H2=>t o i v H2 fun H3=>Q σ H3
theorem pg_sub {o i:Expr} {to ti:TE} {t:TSet} (ho:PE X o to) (hi:PE X i ti) (hs:PSet X t)
  (ha:∀ v,assign (.Subscript o i pos) X.env v=(do
   let ov ← holding [v] (eval o X.env)
   let iv ← holding [v,ov] (eval i X.env)
   standAt pos
   holding [v,ov,iv] (setItem ov iv v)
   release [v,ov,iv] []):=by intro _; rfl):PG X (.Subscript o i pos) (gSub to ti t):=by
 intro pins s σ H v u Q I r h
 rw [ha]
 refine wpAny_bind (wpAny_holding (thn (ho pins s σ H _ I h) fun ov s1 ⟨x,H1,I1,r1,q1⟩=>?_))
 refine wpAny_bind (wpAny_holding (thn (hi pins s1 σ H1 _ I1 q1) fun iv s2 ⟨y,H2,I2,r2,q2⟩=>?_))
 refine wpAny_bind (wpAny_standAt (wpAny_bind (wpAny_holding (thn (hs pins s2 σ H2 x y v ov iv u _ I2 r1 r2 r q2) fun _ s3 ⟨H3,I3,q3⟩=>?_))))
 exact wpAny_release ⟨σ,H3,I3,q3⟩
def tAsg (te:TE) (g:TG):TS:=fun D σ H=>te σ H fun x H1=>g x σ H1 D.nx
theorem ps_asg {tg e:Expr} {te:TE} {g:TG} (he:PE X e te) (hg:PG X tg g) (hs:swapsWithSole [tg] e pos.line X.env=pure false:=by rfl) (hw:swappedStores [tg] e X.env=pure none:=by rfl)
  (h1:(assignEach [tg] X.env).map (·.2)=[assign tg X.env]:=by rfl):PS X (.Assign [tg] e pos) (tAsg te g):=by
 intro pins s σ H D I h
 refine wpAny_Assign_stores (thn (he pins s σ H _ I h) fun v s1 ⟨x,H1,I1,r1,q1⟩=>?_) hs hw
 rw [h1]
 exact thn (hg pins s1 σ H1 x v _ I1 r1 q1) fun _ s2 q=>q
theorem ps_set {i:Nat} {x:Str} {e:Expr} {te:TE} {pos':Pos} (hN:X.N.Nodup) (hi:X.N[i]?=some x) (hx:Loc X.env.scope x) (he:PE X e te) (hs:swapsWith e (some (.Name x pos')) pos.line X.env=pure false:=by rfl) (hf:X.fn x=true∨X.env.scope.names.lookup x=some .local:=by first | exact .inl rfl | exact .inr rfl | assumption) :
  PS X (.Assign [.Name x pos'] e pos) (tAsg te (gName i)):=by
 intro pins s σ H D I h
 refine wpAny_Assign_Name (thn (he pins s σ H _ I h) fun v s1 ⟨y,H1,I1,r1,q1⟩=>?_) hs
 exact store_ok I1 hN hi hx r1 (fun s2 I2=>⟨_,H1,I2,q1⟩) hf
def tPar (i j:Nat) (ta:TA):TS:=fun D σ H=>ta σ H fun vs H1=>∃ v w,vs=[v,w]∧D.nx ((σ.set i (some v)).set j (some w)) H1
theorem ps_par {i j:Nat} {x y:Str} {a b:Expr} {ta:TA} {px py pt:Pos} {kt k2 pt2} (hc:X.calm=true) (hN:X.N.Nodup) (hi:X.N[i]?=some x) (hj:X.N[j]?=some y) (hij:i≠j)
  (hx:X.env.scope.names.lookup x=some .local) (hy:X.env.scope.names.lookup y=some .local) (ha:PA X [a,b] ta)
  (hw:swappedStores [.Tuple [.Name x px,.Name y py] kt pt] (.Tuple [a,b] k2 pt2) X.env=pure (some [x,y]))
  (hs:swapsWithSole [.Tuple [.Name x px,.Name y py] kt pt] (.Tuple [a,b] k2 pt2) pos.line X.env=pure false:=by rfl) :
  PS X (.Assign [.Tuple [.Name x px,.Name y py] kt pt] (.Tuple [a,b] k2 pt2) pos) (tPar i j ta):=by
 intro pins s σ H D I h
 rw [exec_Assign_arm]
 refine wpAny_bind (wpAny_standAt ?_)
 rw [hs]
 refine wpAny_bind (wpAny_pure ?_)
 rw [if_neg (by decide)]
 refine wpAny_bind (Tuple_ (thn (ha _ pins s σ H _ I h) fun us s1 ⟨vs,H1,I1,r1,q1⟩=>?_))
 obtain ⟨v,w,e1,q1⟩:=q1
 subst e1
 obtain ⟨u1,u2,rfl,rv,rw'⟩:∃ u1 u2,us=[u1,u2]∧RelV v u1∧RelV w u2:=by
  cases r1 with
  | cons p q =>
   cases q with
   | cons p' q' =>
    cases q'
    exact ⟨_,_,rfl,p,p'⟩
 refine wpAny_newObj_type ?_ (by show 2≤sizeLine; decide)
 have I2:Inv X pins σ H1 { s1 with heap:=s1.heap.push { cls:=.type "tuple", data:=.seq [u1,u2].toArray } }:=I1.kept (t':=s1.toks) fun b o e=>Heap.get?_push_of_some _ e
 rw [hw]
 refine wpAny_bind (wpAny_pure ?_)
 show wpAny (model X.prog X.w) X.A (do rule "assign.swapped-stores"; let items ← unpackItems (.ref s1.heap.objs.size) 2 none; assignInOrder [fun v=>bindName X.env y v,fun v=>bindName X.env x v] items.reverse; pure Flow.next) _ _ _
 refine wpAny_bind (wpAny_rule (wpAny_bind (unpackItems_tuple (items := #[u1,u2]) (I.ok.hd hc) (IsTup.new s1.heap _) fun h' hx'=>?_)))
 have I3:=I2.kept (h':=h') (t':=s1.toks) fun b o e=>hx' b o (Nat.ne_of_lt (Heap.lt_size e)) e
 show wpAny _ _ (assignInOrder [fun v=>bindName X.env y v,fun v=>bindName X.env x v] [u2,u1] >>= fun _=>pure Flow.next) _ _ _
 refine wpAny_bind (assignInOrder_cons (wpAny_bindName (store_ok I3 hN hj (.inl hy) rw' (fun s2 I4=>?_) (.inr hy))))
 refine assignInOrder_cons (wpAny_bindName (store_ok I4 hN hi (.inl hx) rv (fun s3 I5=>assignInOrder_nil (wpAny_pure ?_)) (.inr hx)))
 rw [List.set_comm _ _ (Ne.symm hij)] at I5
 exact ⟨_,H1,I5,q1⟩
def tAug (i:Nat) (te:TE) (ti:TIp):TS:=fun D σ H=>∃ x,σ[i]?=some (some x)∧te σ H fun y H1=>ti x y H1 fun z H2=>D.nx (σ.set i (some z)) H2
theorem ps_aug {i:Nat} {x:Str} {e:Expr} {te:TE} {op:Operator} {ti:TIp} {pos':Pos} (hN:X.N.Nodup) (hi:X.N[i]?=some x) (hx:Loc X.env.scope x) (he:PE X e te) (ho:PIp X op ti) (hf:X.fn x=true∨X.env.scope.names.lookup x=some .local:=by first | exact .inl rfl | exact .inr rfl | assumption) :
  PS X (.AugAssign (.Name x pos') op e pos) (tAug i te ti):=by
 intro pins s σ H D I h
 obtain ⟨v,e1,h⟩:=h
 obtain ⟨m,hn,hl⟩:=I.loc
 have vis:Vis X.env.scope x:=by rcases hx with k | k; exact .inl k; exact .inr (.inl k)
 obtain ⟨u,r,l⟩:=hl i x v hi e1 vis
 refine wpAny_AugAssign_Name ?_
 have go:wpAny (model X.prog X.w) X.A (eval e X.env) (fun w s₂=>wpAny (model X.prog X.w) X.A (inplaceOp op u w) (fun r s₃=>wpAny (model X.prog X.w) X.A (storeName X.env x r) (fun _=>SP X pins D .next) X.xe s₃) X.xe s₂) X.xe s:=by
  refine thn (he pins s σ H _ I h) fun w s1 ⟨y,H1,I1,r1,q1⟩=>?_
  refine thn (ho pins s1 σ H1 v y u w _ I1 r r1 q1) fun z s2 ⟨zv,H2,I2,r2,q2⟩=>?_
  exact store_ok I2 hN hi hx r2 (fun s3 I3=>⟨_,H2,I3,q2⟩) hf
 rcases l with ⟨hk,hm⟩ | ⟨hk,c,hc,hcell⟩
 ·exact wpAny_loadName_local I.ok.kind hk hn hm go
 ·rcases hk with hk | hk
  ·exact wpAny_loadName_cell I.ok.kind hk hc hcell go
  ·rcases hx with k | k
   ·have:X.env.scope.names.lookup x=some .free:=hk
    rw [k] at this; cases this
   ·have:X.env.scope.names.lookup x=some .free:=hk
    rw [k] at this; cases this
def ipI (f:Int→Int→Int):TIp:=fun x y H Q=>∃ i j,x=.int i∧y=.int j∧Q (.int (f i j)) H
theorem ip_add:PIp X .Add (ipI fun i j=>i + j):=by
 intro pins s σ H x y v u Q I r1 r2 h
 obtain ⟨i,j,e1,e2,q⟩:=h
 subst e1; subst e2
 obtain ⟨t,rfl⟩:=r1
 obtain ⟨t',rfl⟩:=r2
 exact iadd_int ⟨.int _,H,I.tok _,⟨_,rfl⟩,q⟩
end
section
variable {X:Cx} {pos:Pos}
def tWhile (c:TT) (tb:TS):TS:=fun D σ H=>∃ W:Nat→St→Hp→Prop,(∃ m,W m σ H)∧∀ m σ H,W m σ H →
 c σ H fun b H1=>if b=true then ∃ N:St→Hp→Prop,(∀ σ' H',N σ' H'→∃ m',m' < m∧W m' σ' H')∧tb { D with nx:=N,ct:=N,bk:=D.nx } σ H1 else D.nx σ H1
theorem ps_while {c:Expr} {body:List Stmt} {tc:TT} {tb:TS} (hp:PassesOwn (model X.prog X.w) X.A X.env X.xe) (hc:PT X c tc) (hb:PSs X body tb):PS X (.While c body [] pos) (tWhile tc tb):=by
 intro pins s σ H D I h
 obtain ⟨W,⟨m0,w0⟩,turn⟩:=h
 refine wpAny_While (codeAny_whileLoop (fun n s'=>∃ σ' H',Inv X pins σ' H' s'∧W n σ' H') ?_ m0 ⟨σ,H,I,w0⟩)
 rintro n s1 ⟨σ1,H1,I1,w1⟩
 refine wpAny_passesOwn hp (thn (hc pins s1 σ1 H1 _ I1 (turn n σ1 H1 w1)) fun b s2 ⟨H2,I2,q2⟩=>?_)
 cases b with
 | true =>
  obtain ⟨N,hN,q2⟩:=q2
  rw [if_pos rfl]
  refine wpAny_passesOwn hp (thn (hb pins s2 σ1 H2 _ I2 q2) fun f s3 q3=>?_)
  cases f with
  | next =>
   obtain ⟨σ3,H3,I3,n3⟩:=q3
   obtain ⟨m',hm,w3⟩:=hN σ3 H3 n3
   exact ⟨m',hm,σ3,H3,I3,w3⟩
  | cont =>
   obtain ⟨σ3,H3,I3,n3⟩:=q3
   obtain ⟨m',hm,w3⟩:=hN σ3 H3 n3
   exact ⟨m',hm,σ3,H3,I3,w3⟩
  | brk=>exact q3
  | ret v=>exact q3
 | false =>
  rw [if_neg Bool.false_ne_true]
  exact wpAny_execs_nil ⟨σ1,H2,I2,q2⟩
end
structure It where
 go:Nat→Hp→Prop
 yld:Nat→Hp→V→Hp→Prop
 stop:Nat→Hp→Prop
def FpOk (X:Cx) (pins:List (Addr×Obj)) (H:Hp) (b:Addr):Prop :=
 H b=none∧b≠X.env.locals∧b ∉ X.fs∧(b∈X.ex∨X.s₀.heap.objs.size≤b)∧(∀ x c,X.env.cells.lookup x=some c→c≠b)∧∀ p∈X.pn ++ pins,p.1≠b
theorem Inv.fpOk {X:Cx} {pins:List (Addr×Obj)} {σ:St} {H H':Hp} {s:Shared} {b:Addr} (I:Inv X pins σ H s) (hb:s.heap.objs.size≤b) (hn:H' b=none):FpOk X pins H' b:=by
 refine ⟨hn,Nat.ne_of_gt (Nat.lt_of_lt_of_le I.lt hb),I.nofs hb,.inr (Nat.le_trans I.sz hb),fun x c e z=>?_,fun p hp z=>?_⟩
 ·obtain ⟨v,q⟩:=I.cell x c e
  exact absurd (Nat.lt_of_lt_of_le q.lt (by rw [z]; exact hb)) (Nat.lt_irrefl _)
 ·exact absurd (Nat.lt_of_lt_of_le (Heap.lt_size (I.pin p hp).1) (by rw [z]; exact hb)) (Nat.lt_irrefl _)
structure Turn (P:Program) (w:World) (K:PySem.W.Frag) (tg:Expr) (J:It) (fp:List Addr) (it:Addr) (tn:Nat→Heap→Prop):Prop where
 mem:it∈fp
 obj:∀ i h,tn i h→∀ b∈fp,∃ o,h.get? b=some o∧∀ v,o.data≠.cell v
 keep:∀ i h h',tn i h→(∀ b∈fp,∀ o,h.get? b=some o→h'.get? b=some o)→tn i h'
 item:∀ (X:Cx),X.prog=P→X.w=w→X.K=K→X.calm=true→∀ (i:Nat) (pins:List (Addr×Obj)) (s:Shared) (σ:St) (H:Hp) (E:Value→Shared→Prop),Inv X pins σ H s→(∀ b∈fp,FpOk X pins H b)→tn i s.heap→J.go i H →
  wpAny (model P w) X.A (pyNext (.ref it)) (fun r s1=>∃ u,r=some u ∧
   wpAny (model P w) X.A (letOwnedTupleGo tg (.ref it) u) (fun _ s2=>∃ x H',Inv X pins σ H' s2∧RelV x u∧J.yld i H x H'∧tn (i + 1) s2.heap∧∀ b∈fp,H' b=none) E s1) E s
 done:∀ (X:Cx),X.prog=P→X.w=w→X.K=K→X.calm=true→∀ (i:Nat) (pins:List (Addr×Obj)) (s:Shared) (σ:St) (H:Hp) (E:Value→Shared→Prop),Inv X pins σ H s→(∀ b∈fp,FpOk X pins H b)→tn i s.heap→J.stop i H →
  wpAny (model P w) X.A (pyNext (.ref it)) (fun r s1=>r=none∧Inv X pins σ H s1) E s
 self:∀ (A:Around) (i:Nat) (s:Shared) (Q:Value→Shared→Prop) (E:Value→Shared→Prop),tn i s.heap→Q (.ref it) s→wpAny (model P w) A (pyIter (.ref it)) Q E s
abbrev TI:=St→Hp→(It→Hp→Prop)→Prop
def PIE (X:Cx) (pins:List (Addr×Obj)) (σ:St) (tg:Expr) (R:It→Hp→Prop) (itv:Value) (s2:Shared):Prop :=
 ∃ (it:Addr) (fp:List Addr) (tn:Nat→Heap→Prop) (J:It) (H':Hp),itv=.ref it∧Inv X pins σ H' s2∧Turn X.prog X.w X.K tg J fp it tn∧tn 0 s2.heap∧(∀ b∈fp,FpOk X pins H' b)∧R J H'
def PI (X:Cx) (tg iter:Expr) (wi:TI):Prop :=
 ∀ (pins:List (Addr×Obj)) (s:Shared) (σ:St) (H:Hp) (R:It→Hp→Prop),Inv X pins σ H s→wi σ H R →
  wpAny (model X.prog X.w) X.A (eval iter X.env) (fun v s1=>wpAny (model X.prog X.w) X.A (pyIter v) (PIE X pins σ tg R) X.xe s1) X.xe s
theorem go_of {M : Model} {A : Around} {E : Value → Shared → Prop} {s : Shared} {tg : Expr} {it : Addr} {u : Value} {o : Obj} {n : String} {vs : Array Value} {Q : Unit → Shared → Prop} (ho : s.heap.get? it = some o) (hc : o.cls = .type n) (hd : o.data = .fields vs)
    (hn : ["enumerate", "zip", "dict_itemiterator", "dict_reverseitemiterator", "odict_iterator", "itertools.zip_longest", "itertools.pairwise"].contains n = false) (hQ : Q () s) : wpAny M A (letOwnedTupleGo tg (.ref it) u) Q E s := by
  unfold letOwnedTupleGo
  cases tg <;> first
    | exact wpAny_pure hQ
    | (cases u <;> first
        | exact wpAny_pure hQ
        | (refine wpAny_bind (wpAny_load ho ?_)
           rw [hc, hd]
           show wpAny M A (if (["enumerate", "zip", "dict_itemiterator", "dict_reverseitemiterator", "odict_iterator", "itertools.zip_longest", "itertools.pairwise"].contains n && vs[0]? == some (rawInt _)) = true then _ else _) Q E s
           rw [if_neg (by intro h; rw [hn, Bool.false_and] at h; cases h)]
           exact wpAny_pure hQ))
def Itl (K:PySem.W.Frag) (a:Addr):It :=
 ⟨fun i H=>∃ xs x,SqL K H a xs∧xs[i]?=some x,fun i H x H'=>H'=H∧∀ xs,SqL K H a xs→xs[i]?=some x,fun i H=>∃ xs,SqL K H a xs∧xs.length≤i⟩
def Itt (K:PySem.W.Frag) (a:Addr):It :=
 ⟨fun i H=>∃ xs x,SqT K H a xs∧xs[i]?=some x,fun i H x H'=>H'=H∧∀ xs,SqT K H a xs→xs[i]?=some x,fun i H=>∃ xs,SqT K H a xs∧xs.length≤i⟩
def Itr (lo:Int) (n:Nat):It:=⟨fun i _=>i < n,fun i H x H'=>H'=H∧x=.int (lo + i),fun i _=>n≤i⟩
theorem turn_list {P:Program} {w:World} {K:PySem.W.Frag} {tg:Expr} (a it:Addr):Turn P w K tg (Itl K a) [it] it (fun i h=>h.IsListIter it a i) where
 mem:=by simp
 obj:=fun i h st b hb=>by
  have e:b=it:=by simpa using hb
  subst e
  obtain ⟨o,e,c,d⟩:=st
  exact ⟨o,e,fun v z=>by rw [d] at z; cases z⟩
 keep:=fun i h h' st k=>st.at fun o e=>k it (by simp) o e
 item:=by
  intro X hP hw hK hc i pins s σ H E I hf st hg
  subst hP hw hK
  obtain ⟨xs,x,hq,hx⟩:=hg
  obtain ⟨its,rv,p,hz⟩:=I.list hq
  obtain ⟨u,hu,ru⟩:=rv.get hx
  obtain ⟨f0,f1,f2,f3,f4,f5⟩:=hf it (by simp)
  refine wpAny_pyNext_list_item st p.isList (x:=u) (by simpa using hu) fun h' st' sb=>?_
  have I1:Inv X pins σ H { s with heap:=h' }:=I.turned (t':=s.toks) (fun b o hb e=>(sb.2 b hb).trans e) f0 f1 f3 f4 f5
  obtain ⟨o,e,c,d⟩:=id st'
  exact ⟨u,rfl,go_of (s:={ s with heap:=h' }) e c d (by decide) ⟨x,H,I1,ru,⟨rfl,fun ys hy=>by rw [I.list_inj hy hq]; exact hx⟩,st',fun b hb=>(hf b hb).1⟩⟩
 done:=by
  intro X hP hw hK hc i pins s σ H E I hf st hg
  subst hP hw hK
  obtain ⟨xs,hq,hx⟩:=hg
  obtain ⟨its,rv,p,hz⟩:=I.list hq
  obtain ⟨f0,f1,f2,f3,f4,f5⟩:=hf it (by simp)
  have hl:=rv.length
  exact wpAny_pyNext_list_end (I.ok.hd hc) st p.isList (by simp; omega) fun h' eb=>⟨rfl,I.turned (t':=s.toks) (fun b o hb e=>eb b o hb e) f0 f1 f3 f4 f5⟩
 self:=fun _ _ _ _ _ st h=>wpAny_pyIter_listiter st h
theorem turn_tuple {P:Program} {w:World} {K:PySem.W.Frag} {tg:Expr} (a it:Addr):Turn P w K tg (Itt K a) [it] it (fun i h=>h.IsTupleIter it a i) where
 mem:=by simp
 obj:=fun i h st b hb=>by
  have e:b=it:=by simpa using hb
  subst e
  obtain ⟨o,e,c,d⟩:=st
  exact ⟨o,e,fun v z=>by rw [d] at z; cases z⟩
 keep:=fun i h h' st k=>st.at fun o e=>k it (by simp) o e
 item:=by
  intro X hP hw hK hc i pins s σ H E I hf st hg
  subst hP hw hK
  obtain ⟨xs,x,hq,hx⟩:=hg
  obtain ⟨its,rv,p,hz⟩:=I.tuple hq
  obtain ⟨u,hu,ru⟩:=rv.get hx
  obtain ⟨f0,f1,f2,f3,f4,f5⟩:=hf it (by simp)
  refine wpAny_pyNext_tuple_item st (show s.heap.IsTuple a its.toArray from p) (x:=u) (by simpa using hu) fun h' st' sb=>?_
  have I1:Inv X pins σ H { s with heap:=h' }:=I.turned (t':=s.toks) (fun b o hb e=>(sb.2 b hb).trans e) f0 f1 f3 f4 f5
  obtain ⟨o,e,c,d⟩:=id st'
  exact ⟨u,rfl,go_of (s:={ s with heap:=h' }) e c d (by decide) ⟨x,H,I1,ru,⟨rfl,fun ys hy=>by rw [I.tuple_inj hy hq]; exact hx⟩,st',fun b hb=>(hf b hb).1⟩⟩
 done:=by
  intro X hP hw hK hc i pins s σ H E I hf st hg
  subst hP hw hK
  obtain ⟨xs,hq,hx⟩:=hg
  obtain ⟨its,rv,p,hz⟩:=I.tuple hq
  obtain ⟨f0,f1,f2,f3,f4,f5⟩:=hf it (by simp)
  have hl:=rv.length
  exact wpAny_pyNext_tuple_end (I.ok.hd hc) st (show s.heap.IsTuple a its.toArray from p) (by simp; omega) fun h' eb=>⟨rfl,I.turned (t':=s.toks) (fun b o hb e=>eb b o hb e) f0 f1 f3 f4 f5⟩
 self:=fun _ _ _ _ _ st h=>wpAny_pyIter_tupleiter st h
theorem turn_range {P:Program} {w:World} {K:PySem.W.Frag} {tg:Expr} (it:Addr) (lo:Int) (n:Nat):Turn P w K tg (Itr lo n) [it] it (fun i h=>IsRangeIter h it (lo + (i:Nat) * 1) ((n:Int) - (i:Nat)) 1) where
 mem:=by simp
 obj:=fun i h st b hb=>by
  have e:b=it:=by simpa using hb
  subst e
  exact ⟨_,st,fun v z=>by
   have z':Data.fields _=Data.cell v:=z
   cases z'⟩
 keep:=fun i h h' st k=>k it (by simp) _ st
 item:=by
  intro X hP hw hK hc i pins s σ H E I hf st hg
  subst hP hw hK
  obtain ⟨f0,f1,f2,f3,f4,f5⟩:=hf it (by simp)
  have W:=Walks.range (prog:=X.prog) (w:=X.w) (I.ok.hd hc) it lo 1 n
  refine W.item i s _ _ hg st fun v h' tk hv st' kk=>?_
  obtain ⟨t,rfl⟩:=hv
  have I1:Inv X pins σ H { s with heap:=h',toks:=tk }:=I.turned (fun b o hb e=>kk b o (by simpa using hb) e) f0 f1 f3 f4 f5
  refine ⟨_,rfl,go_of (s:={ s with heap:=h',toks:=tk }) (n := "range_iterator") st' rfl rfl (by decide) ⟨.int (lo + i),H,I1,⟨t,?_⟩,⟨rfl,rfl⟩,st',fun b hb=>(hf b hb).1⟩⟩
  rw [Int.mul_one]
 done:=by
  intro X hP hw hK hc i pins s σ H E I hf st hg
  subst hP hw hK
  obtain ⟨f0,f1,f2,f3,f4,f5⟩:=hf it (by simp)
  exact wpAny_pyNext_range_end (I.ok.hd hc) st (by have:n≤i:=hg; omega) fun h' eb=>⟨rfl,I.turned (t':=s.toks) (fun b o hb e=>eb b o hb e) f0 f1 f3 f4 f5⟩
 self:=fun _ _ _ _ _ st h=>wpAny_pyIter_rangeiter st h
end L2
namespace L2
open PySem PySem.Spec PyProof.Rows
section
variable {X:Cx} {tg:Expr}
def iList (K:PySem.W.Frag) (tl:TE):TI:=fun σ H R=>tl σ H fun x H1=>∃ a,x=.ref a∧(∃ xs,SqL K H1 a xs)∧R (Itl K a) H1
def iTup (K:PySem.W.Frag) (tl:TE):TI:=fun σ H R=>tl σ H fun x H1=>∃ a,x=.ref a∧(∃ xs,SqT K H1 a xs)∧R (Itt K a) H1
theorem pi_list {l:Expr} {tl:TE} (hl:PE X l tl):PI X tg l (iList X.K tl):=by
 intro pins s σ H R I h
 refine thn (hl pins s σ H _ I h) fun v s1 ⟨x,H1,I1,r1,q1⟩=>?_
 obtain ⟨a,e,⟨xs,hq⟩,q⟩:=q1
 subst e
 cases r1
 obtain ⟨its,rv,p,hz⟩:=I1.list hq
 refine wpAny_pyIter_list p.isList ?_
 refine ⟨s1.heap.objs.size,[s1.heap.objs.size],_,_,H1,rfl,I1.kept (t':=s1.toks) fun b o e=>Heap.get?_push_of_some _ e,turn_list a _,⟨_,Heap.get?_push_size _ rfl,rfl,rfl⟩,fun b hb=>?_,q⟩
 have e:b=s1.heap.objs.size:=by simpa using hb
 subst e
 exact I1.fpOk (Nat.le_refl _) (I1.hok.fresh (Nat.le_refl _))
theorem pi_tup {l:Expr} {tl:TE} (hl:PE X l tl):PI X tg l (iTup X.K tl):=by
 intro pins s σ H R I h
 refine thn (hl pins s σ H _ I h) fun v s1 ⟨x,H1,I1,r1,q1⟩=>?_
 obtain ⟨a,e,⟨xs,hq⟩,q⟩:=q1
 subst e
 cases r1
 obtain ⟨its,rv,p,hz⟩:=I1.tuple hq
 refine wpAny_pyIter_tuple (show s1.heap.IsTuple a its.toArray from p) ?_
 refine ⟨s1.heap.objs.size,[s1.heap.objs.size],_,_,H1,rfl,I1.kept (t':=s1.toks) fun b o e=>Heap.get?_push_of_some _ e,turn_tuple a _,⟨_,Heap.get?_push_size _ rfl,rfl,rfl⟩,fun b hb=>?_,q⟩
 have e:b=s1.heap.objs.size:=by simpa using hb
 subst e
 exact I1.fpOk (Nat.le_refl _) (I1.hok.fresh (Nat.le_refl _))
theorem range_it {pins:List (Addr×Obj)} {σ:St} {H:Hp} {s:Shared} {R:It→Hp→Prop} {E:Value→Shared→Prop} {lo hi:Int} {t u v:Tok} {tk:Nat} (I:Inv X pins σ H s) (h1 : -(2 ^ 62)≤lo) (h2:lo < 2 ^ 62) (h3 : -(2 ^ 62)≤hi) (h4:hi < 2 ^ 62)
  (q:R (Itr lo (hi - lo).toNat) H):wpAny (model X.prog X.w) X.A (pyIter (.ref s.heap.objs.size)) (PIE X pins σ tg R) E { s with heap:=s.heap.push { cls:=.type "range", data:=.fields #[.int lo t,.int hi u,.int 1 v] },toks:=tk }:=by
 refine wpAny_pyIter_range (IsRange.new ..) (small_one h1 h2 h3 h4) ?_
 have I1:Inv X pins σ H { s with heap:=s.heap.push { cls:=.type "range", data:=.fields #[.int lo t,.int hi u,.int 1 v] },toks:=tk }:=I.kept fun b o e=>Heap.get?_push_of_some _ e
 refine ⟨(s.heap.push { cls:=.type "range", data:=.fields #[.int lo t,.int hi u,.int 1 v] }).objs.size,[(s.heap.push { cls:=.type "range", data:=.fields #[.int lo t,.int hi u,.int 1 v] }).objs.size],_,_,H,rfl,
  I1.kept (t':=tk) fun b o e=>Heap.get?_push_of_some _ e,turn_range _ lo (hi - lo).toNat,?_,fun b hb=>?_,q⟩
 ·have e1:lo + ((0:Nat):Int) * 1=lo:=by simp
  have e2:(((hi - lo).toNat:Nat):Int) - ((0:Nat):Int)=Builtin.Range.rangeSize lo hi 1:=by rw [rangeSize_one]; split <;> omega
  show IsRangeIter _ _ (lo + ((0:Nat):Int) * 1) ((((hi - lo).toNat:Nat):Int) - ((0:Nat):Int)) 1
  rw [e1,e2]
  exact Heap.get?_push_size _ rfl
 ·have e:b=(s.heap.push { cls:=.type "range", data:=.fields #[.int lo t,.int hi u,.int 1 v] }).objs.size:=by simpa using hb
  subst e
  exact I1.fpOk (Nat.le_refl _) (I1.hok.fresh (Nat.le_refl _))
def iRng1 (ta:TA):TI:=fun σ H R=>ta σ H fun vs H1=>∃ j:Int,vs=[.int j] ∧ -(2 ^ 62)≤j∧j < 2 ^ 62∧R (Itr 0 j.toNat) H1
theorem pi_range1 {a:Expr} {ta:TA} {p pos:Pos} (hg:Gl X "range") (hm:X.mg "range" = none) (ha:PA X [a] ta) (hs:starEach [a] X.env=[(false,eval a X.env)]:=by rfl):PI X tg (.Call (.Name "range" p) [a] [] pos) (iRng1 ta):=by
 intro pins s σ H R I h
 refine Call_ (ld_blt I hg hm boot_range (PyProof.Rows.callWith_type1 (thn (ha pos pins s σ H _ I h) fun us s1 ⟨vs,H1,I1,r1,q1⟩=>?_) hs rfl))
 obtain ⟨j,e,q1,q2,q⟩:=q1
 subst e
 cases r1 with
 | cons r rr =>
  cases rr
  obtain ⟨t,rfl⟩:=r
  exact call_range_1 (range_it I1 (by omega) (by omega) q1 q2 (by simpa using q))
def tFor (wi:TI) (g:TG) (tb:TS):TS:=fun D σ H=>wi σ H fun J H1=>∃ W:Nat→Nat→St→Hp→Prop,(∃ m,W 0 m σ H1)∧∀ i m σ H,W i m σ H →
 (J.stop i H∧D.nx σ H)∨(J.go i H∧∃ N:St→Hp→Prop,(∀ σ' H',N σ' H'→∃ m',m' < m∧W (i + 1) m' σ' H')∧∀ x H',J.yld i H x H'→g x σ H' fun σ2 H2=>tb { D with nx:=N,ct:=N,bk:=D.nx } σ2 H2)
def pinsAt (fp:List Addr) (h:Heap):List (Addr×Obj):=fp.filterMap fun b=>(h.get? b).map fun o=>(b,o)
theorem mem_pinsAt {fp:List Addr} {h:Heap} {b:Addr} {o:Obj} (hb:b∈fp) (e:h.get? b=some o):(b,o)∈pinsAt fp h:=List.mem_filterMap.mpr ⟨b,hb,by rw [e]; rfl⟩
theorem of_pinsAt {fp:List Addr} {h:Heap} {p:Addr×Obj} (hp:p∈pinsAt fp h):p.1∈fp∧h.get? p.1=some p.2:=by
 obtain ⟨b,hb,e⟩:=List.mem_filterMap.mp hp
 cases q:h.get? b with
 | none=>rw [q] at e; cases e
 | some o =>
  rw [q] at e
  have e':(b,o)=p:=Option.some.inj e
  subst e'
  exact ⟨hb,q⟩
theorem Inv.pinned {pins:List (Addr×Obj)} {σ:St} {H:Hp} {s:Shared} {fp:List Addr} (I:Inv X pins σ H s) (hf:∀ b∈fp,FpOk X pins H b) (ho:∀ b∈fp,∃ o,s.heap.get? b=some o∧∀ v,o.data≠.cell v):Inv X (pins ++ pinsAt fp s.heap) σ H s :=
 I.pins_of fun p hp=>(List.mem_append.mp hp).elim (fun z=>I.pin p (List.mem_append_right _ z)) fun z=>by
  obtain ⟨hb,e⟩:=of_pinsAt z
  obtain ⟨f0,f1,f2,_⟩:=hf p.1 hb
  obtain ⟨o,e',d⟩:=ho p.1 hb
  rw [e] at e'; cases e'
  exact ⟨e,f0,f1,f2,d⟩
theorem Inv.unpinned {pins pl:List (Addr×Obj)} {σ:St} {H:Hp} {s:Shared} (I:Inv X (pins ++ pl) σ H s):Inv X pins σ H s:=I.pins_of fun p hp=>I.pin p (List.mem_append_right _ (List.mem_append_left _ hp))
theorem ps_for {iter:Expr} {body:List Stmt} {wi:TI} {g:TG} {tb:TS} {pos:Pos} (hp:PassesOwn (model X.prog X.w) X.A X.env X.xe) (hc:X.calm=true) (hi:PI X tg iter wi) (hg:PG X tg g) (hb:PSs X body tb)
  (hs:∀ x,foldedSetIterable iter X.env x=pure x:=by intro _; rfl):PS X (.For tg iter body [] pos) (tFor wi g tb):=by
 intro pins s σ H D I h
 refine wpAny_For (thn (hi pins s σ H _ I h) fun v s1 h1=>thn h1 fun itv s2 h2=>?_) hs
 obtain ⟨it,fp,tn,J,H2,e,I2,T,st2,f2,W,⟨m0,w0⟩,turn⟩:=h2
 subst e
 have stat:∀ {H':Hp},(∀ b∈fp,H' b=none)→∀ b∈fp,FpOk X pins H' b:=fun hn b hb=>⟨hn b hb,(f2 b hb).2⟩
 refine codeAny_forLoop_any (fun n s'=>∃ i σ' H',Inv X pins σ' H' s'∧tn i s'.heap∧(∀ b∈fp,H' b=none)∧W i n σ' H') ?_ m0 ⟨0,σ,H2,I2,st2,fun b hb=>(f2 b hb).1,w0⟩
 rintro n s3 ⟨i,σ3,H3,I3,st3,fr3,w3⟩
 rcases turn i n σ3 H3 w3 with ⟨stop,qn⟩ | ⟨go,N,hN,step⟩
 ·refine wpAny_passesOwn hp (thn (T.done X rfl rfl rfl hc i pins s3 σ3 H3 X.xe I3 (stat fr3) st3 stop) fun r s4 ⟨hr,I4⟩=>?_)
  subst hr
  exact wpAny_execs_nil ⟨σ3,H3,I4,qn⟩
 ·refine wpAny_passesOwn hp (thn (T.item X rfl rfl rfl hc i pins s3 σ3 H3 X.xe I3 (stat fr3) st3 go) fun r s4 ⟨u,hr,h4⟩=>?_)
  subst hr
  refine wpAny_passesOwn hp (thn h4 fun _ s5 ⟨x,H5,I5,r5,y5,st5,fr5⟩=>?_)
  have I5':=I5.pinned (stat fr5) (T.obj _ _ st5)
  refine wpAny_passesOwn hp (thn (hg _ s5 σ3 H5 x u _ I5' r5 (step x H5 y5)) fun _ s6 ⟨σ6,H6,I6,q6⟩=>?_)
  refine wpAny_passesOwn hp (thn (hb _ s6 σ6 H6 _ I6 q6) fun f s7 q7=>?_)
  have again:∀ {σ7:St} {H7:Hp},Inv X (pins ++ pinsAt fp s5.heap) σ7 H7 s7→N σ7 H7→∃ m,m < n∧∃ i σ' H',Inv X pins σ' H' s7∧tn i s7.heap∧(∀ b∈fp,H' b=none)∧W i m σ' H':=fun {σ7 H7} I7 n7=>by
   obtain ⟨m',hm,w7⟩:=hN σ7 H7 n7
   refine ⟨m',hm,i + 1,σ7,H7,I7.unpinned,T.keep _ _ _ st5 fun b hb o e=>(I7.pin (b,o) (List.mem_append_right _ (List.mem_append_right _ (mem_pinsAt hb e)))).1,fun b hb=>?_,w7⟩
   obtain ⟨o,e,d⟩:=T.obj _ _ st5 b hb
   exact (I7.pin (b,o) (List.mem_append_right _ (List.mem_append_right _ (mem_pinsAt hb e)))).2.1
  cases f with
  | next=>obtain ⟨σ7,H7,I7,n7⟩:=q7; exact again I7 n7
  | cont=>obtain ⟨σ7,H7,I7,n7⟩:=q7; exact again I7 n7
  | brk=>obtain ⟨σ7,H7,I7,q7⟩:=q7; exact ⟨σ7,H7,I7.unpinned,q7⟩
  | ret v=>obtain ⟨x7,σ7,H7,I7,r7,q7⟩:=q7; exact ⟨x7,σ7,H7,I7.unpinned,r7,q7⟩
end
end L2
namespace L2
open PySem PySem.Spec PyProof.Rows
abbrev R2:=V→V→Hp→VK→Prop
def OpR (X:Cx) (f:Value→Value→Sem Value) (r:R2):Prop :=
 ∀ (pins:List (Addr×Obj)) (s:Shared) (σ:St) (H:Hp) (x y:V) (v u:Value) (Q:VK),Inv X pins σ H s→RelV x v→RelV y u→r x y H Q →
  wpAny (model X.prog X.w) X.A (f v u) (EP X pins σ Q) X.xe s
def UnR (X:Cx) (f:Value→Sem Value) (r:V→Hp→VK→Prop):Prop :=
 ∀ (pins:List (Addr×Obj)) (s:Shared) (σ:St) (H:Hp) (x:V) (v:Value) (Q:VK),Inv X pins σ H s→RelV x v→r x H Q →
  wpAny (model X.prog X.w) X.A (f v) (EP X pins σ Q) X.xe s
def CallR (X:Cx) (f:Value) (r:List V→Hp→VK→Prop):Prop :=
 ∀ (pins:List (Addr×Obj)) (s:Shared) (σ:St) (H:Hp) (xs:List V) (us:List Value) (Q:VK),Inv X pins σ H s→Vals xs us→r xs H Q →
  wpAny (model X.prog X.w) X.A (call f us) (EP X pins σ Q) X.xe s
def TruR (X:Cx) (r:V→Hp→(Bool→Hp→Prop)→Prop):Prop :=
 ∀ (pins:List (Addr×Obj)) (s:Shared) (σ:St) (H:Hp) (x:V) (v:Value) (Q:Bool→Hp→Prop),Inv X pins σ H s→RelV x v→r x H Q →
  wpAny (model X.prog X.w) X.A (truthy v) (TP X pins σ Q) X.xe s
def tOp (r:R2) (ta tb:TE):TE:=fun σ H Q=>ta σ H fun x H1=>tb σ H1 fun y H2=>r x y H2 Q
def tUn (r:V→Hp→VK→Prop) (ta:TE):TE:=fun σ H Q=>ta σ H fun x H1=>r x H1 Q
def rI (C:Int→Int→Prop) (g:Int→Int→V):R2:=fun x y H Q=>∃ i j,x=.int i∧y=.int j∧C i j∧Q (g i j) H
def rI0 (g:Int→Int→V):R2:=fun x y H Q=>∃ i j,x=.int i∧y=.int j∧Q (g i j) H
def rU (g:Int→V):V→Hp→VK→Prop:=fun x H Q=>∃ i,x=.int i∧Q (g i) H
section
variable {X:Cx} {a b c:Expr} {ta tb tc:TE} {pos:Pos}
theorem binT (ha:PE X a ta) (hb:PE X b tb) {pins:List (Addr×Obj)} {s:Shared} {σ:St} {H:Hp} {R:V→V→Hp→Prop} (I:Inv X pins σ H s)
  (h:ta σ H fun x H1=>tb σ H1 fun y H2=>R x y H2) {Q:Value→Shared→Prop} {f:Value→Value→Sem Value}
  (hf:∀ v u s2 x y H2,Inv X pins σ H2 s2→RelV x v→RelV y u→R x y H2→wpAny (model X.prog X.w) X.A (f v u) Q X.xe s2) :
  wpAny (model X.prog X.w) X.A (eval a X.env) (fun v s₁=>wpAny (model X.prog X.w) X.A (eval b X.env) (fun u s₂=>wpAny (model X.prog X.w) X.A (f v u) Q X.xe s₂) X.xe s₁) X.xe s:=by
 refine thn (ha pins s σ H _ I h) fun v s1 ⟨x,H1,I1,r1,q1⟩=>?_
 refine thn (hb pins s1 σ H1 _ I1 q1) fun u s2 ⟨y,H2,I2,r2,q2⟩=>?_
 exact hf v u s2 x y H2 I2 r1 r2 q2
theorem pe_op {op:Operator} {r:R2} (ho:OpR X (binaryOp op) r) (ha:PE X a ta) (hb:PE X b tb):PE X (.BinOp a op b pos) (tOp r ta tb):=by
 intro pins s σ H Q I h
 exact wpAny_BinOp (binT ha hb I h fun v u s2 x y H2 I2 rx ry q=>ho pins s2 σ H2 x y v u Q I2 rx ry q)
theorem pe_un {op:UnaryOp} {r:V→Hp→VK→Prop} (ho:UnR X (unaryOp op) r) (ha:PE X a ta):PE X (.UnaryOp op a pos) (tUn r ta):=by
 intro pins s σ H Q I h
 exact UnaryOp_ (thn (ha pins s σ H _ I h) fun v s1 ⟨x,H1,I1,r1,q1⟩=>ho pins s1 σ H1 x v Q I1 r1 q1)
theorem opI {f:Value→Value→Sem Value} {C:Int→Int→Prop} {g:Int→Int→Int}
  (rule:∀ (i j:Int) (t u:Tok) (s:Shared) (Q:Value→Shared→Prop) (E:Value→Shared→Prop),C i j→Q (.int (g i j) s.toks) { s with toks:=s.toks + 1 }→wpAny (model X.prog X.w) X.A (f (.int i t) (.int j u)) Q E s) :
  OpR X f (rI C fun i j=>.int (g i j)):=by
 intro pins s σ H x y v u Q I rx ry h
 obtain ⟨i,j,rfl,rfl,hc,q⟩:=h
 obtain ⟨t,rfl⟩:=rx
 obtain ⟨t',rfl⟩:=ry
 exact rule i j t t' s _ _ hc ⟨.int (g i j),H,I.tok _,⟨_,rfl⟩,q⟩
theorem opI0 {f:Value→Value→Sem Value} {g:Int→Int→Int}
  (rule:∀ (i j:Int) (t u:Tok) (s:Shared) (Q:Value→Shared→Prop) (E:Value→Shared→Prop),Q (.int (g i j) s.toks) { s with toks:=s.toks + 1 }→wpAny (model X.prog X.w) X.A (f (.int i t) (.int j u)) Q E s) :
  OpR X f (rI0 fun i j=>.int (g i j)):=by
 intro pins s σ H x y v u Q I rx ry h
 obtain ⟨i,j,rfl,rfl,q⟩:=h
 obtain ⟨t,rfl⟩:=rx
 obtain ⟨t',rfl⟩:=ry
 exact rule i j t t' s _ _ ⟨.int (g i j),H,I.tok _,⟨_,rfl⟩,q⟩
theorem opB0 {f:Value→Value→Sem Value} {g:Int→Int→Bool}
  (rule:∀ (i j:Int) (t u:Tok) (s:Shared) (Q:Value→Shared→Prop) (E:Value→Shared→Prop),Q (.bool (g i j)) s→wpAny (model X.prog X.w) X.A (f (.int i t) (.int j u)) Q E s) :
  OpR X f (rI0 fun i j=>.bl (g i j)):=by
 intro pins s σ H x y v u Q I rx ry h
 obtain ⟨i,j,rfl,rfl,q⟩:=h
 obtain ⟨t,rfl⟩:=rx
 obtain ⟨t',rfl⟩:=ry
 exact rule i j t t' s _ _ ⟨.bl (g i j),H,I,rfl,q⟩
def CPow (i j:Int):Prop:=0≤j∧j≤1000000∧i.natAbs < 2 ^ 64
def CMul (i j:Int):Prop:=(-(2 ^ 64) < i∧i < 2 ^ 64)∨(-(2 ^ 64) < j∧j < 2 ^ 64)
theorem CMul.ok {i j:Int} (h:CMul i j):IntMulOk i j:=by
 rcases h with ⟨h1,h2⟩ | ⟨h1,h2⟩
 ·exact .of_left (intBits_le_64 h1 h2)
 ·exact .of_right (intBits_le_64 h1 h2)
theorem op_add:OpR X (binaryOp .Add) (rI0 fun i j=>.int (i + j)):=opI0 fun _ _ _ _ _ _ _ q=>add_int q
theorem op_sub:OpR X (binaryOp .Sub) (rI0 fun i j=>.int (i - j)):=opI0 fun _ _ _ _ _ _ _ q=>sub_int q
theorem op_mul:OpR X (binaryOp .Mult) (rI CMul fun i j=>.int (i * j)):=opI fun _ _ _ _ _ _ _ hc q=>mul_int q hc.ok
theorem op_mod:OpR X (binaryOp .Mod) (rI (fun _ j=>0 < j) fun i j=>.int (i % j)):=opI fun i j _ _ _ _ _ hc q=>by
 have h1:(0:Int) < j:=hc
 exact mod_int' (by omega) (by rw [Int.fmod_eq_emod_of_nonneg i (by omega)]; exact q)
theorem op_pow:OpR X (binaryOp .Pow) (rI CPow fun i j=>.int (i ^ j.toNat)):=opI fun _ _ _ _ _ _ _ hc q=>pow_int_small hc.1 hc.2.1 hc.2.2 q
theorem unI {f:Value→Sem Value} {g:Int→Int}
  (rule:∀ (i:Int) (t:Tok) (s:Shared) (Q:Value→Shared→Prop) (E:Value→Shared→Prop),Q (.int (g i) s.toks) { s with toks:=s.toks + 1 }→wpAny (model X.prog X.w) X.A (f (.int i t)) Q E s) :
  UnR X f (rU fun i=>.int (g i)):=by
 intro pins s σ H x v Q I rx h
 obtain ⟨i,rfl,q⟩:=h
 obtain ⟨t,rfl⟩:=rx
 exact rule i t s _ _ ⟨.int (g i),H,I.tok _,⟨_,rfl⟩,q⟩
theorem un_neg:UnR X (unaryOp .USub) (rU fun i=>.int (-i)):=unI fun _ _ _ _ _ q=>neg_int q
end
section
variable {X:Cx} {a b c:Expr} {ta tb tc:TE} {pos:Pos}
theorem fin_bl {pins:List (Addr×Obj)} {σ:St} {H:Hp} {s:Shared} {Q:VK} {k k':Bool} (I:Inv X pins σ H s) (q:Q (.bl k) H) (e:k=k'):EP X pins σ Q (.bool k') s:=by
 subst e
 exact ⟨.bl k,H,I,rfl,q⟩
theorem op_lt:OpR X (compareOp .Lt) (rI0 fun i j=>.bl (decide (i < j))):=opB0 fun _ _ _ _ _ _ _ q=>lt_int q
theorem op_le:OpR X (compareOp .LtE) (rI0 fun i j=>.bl (decide (i≤j))):=opB0 fun _ _ _ _ _ _ _ q=>le_int q
theorem op_gt:OpR X (compareOp .Gt) (rI0 fun i j=>.bl (decide (j < i))):=opB0 fun _ _ _ _ _ _ _ q=>gt_int q
theorem op_ge:OpR X (compareOp .GtE) (rI0 fun i j=>.bl (decide (j≤i))):=opB0 fun _ _ _ _ _ _ _ q=>ge_int q
theorem nomark (b:Expr) {op:CmpOp} (h:op≠.In:=by decide) (h2:op≠.NotIn:=by decide):behindInMarks op b=false:=by
 have e1:(op == CmpOp.In)=false:=by cases op <;> first | rfl | exact absurd rfl h
 have e2:(op == CmpOp.NotIn)=false:=by cases op <;> first | rfl | exact absurd rfl h2
 cases b <;> simp [behindInMarks,e1,e2]
theorem pe_cmpR {op:CmpOp} {r:R2} (ho:OpR X (compareOp op) r) (ha:PE X a ta) (hb:PE X b tb) (hm:behindInMarks op b=false):PE X (.Compare a [op] [b] pos) (tOp r ta tb):=by
 intro pins s σ H Q I h
 exact wpAny_Compare1 (binT ha hb I h fun v u s2 x y H2 I2 rx ry q=>ho pins s2 σ H2 x y v u Q I2 rx ry q) hm
def tTest (t:TE):TT:=fun σ H Q=>t σ H fun x H'=>∃ k,x=.bl k∧Q k H'
theorem pt_cmpR {op:CmpOp} {r:R2} (ho:OpR X (compareOp op) r) (ha:PE X a ta) (hb:PE X b tb) (hm:behindInMarks op b=false):PT X (.Compare a [op] [b] pos) (tTest (tOp r ta tb)):=by
 intro pins s σ H Q I h
 refine wpAny_isTrue_Compare1 (thn (ha pins s σ H _ I h) fun v s1 ⟨x,H1,I1,r1,q1⟩=>thn (hb pins s1 σ H1 _ I1 q1) fun u s2 ⟨y,H2,I2,r2,q2⟩ =>
  thn (ho pins s2 σ H2 x y v u _ I2 r1 r2 q2) fun c s3 ⟨z,H3,I3,r3,k,e,q3⟩=>?_) hm
 subst e
 cases r3
 exact wpAny_truthy_bool ⟨H3,I3,q3⟩
def TruV (K:PySem.W.Frag) (x:V) (H:Hp) (k:Bool):Prop :=
 match x with
 | .non=>k=false
 | .bl b=>k=b
 | .int i=>k=(i != 0)
 | .str y=>y.length≤sizeLine∧k=((y.length:Int) != 0)
 | .byt y=>y.size≤sizeLine∧k=((y.size:Int) != 0)
 | .ref p=>(∃ xs,SqL K H p xs∧k = !xs.isEmpty)∨(∃ xs,SqT K H p xs∧k = !xs.isEmpty)∨∃ kvs,H p=some (.dK kvs)∧k = !kvs.isEmpty
 | _=>False
theorem isEmpty_kv {κ:Type} {kvs:List (κ×V)} {vs:List (κ×Value)} (r:KV kvs vs):(!vs.isEmpty) = !kvs.isEmpty:=by
 cases r <;> rfl
theorem isEmpty_of {xs:List V} {its:List Value} (r:Vals xs its):(!its.toArray.isEmpty) = !xs.isEmpty:=by
 cases r <;> simp
theorem line63:(sizeLine:Nat) < 2 ^ 63:=by rw [sizeLine_eq]; decide
theorem tru_ok:TruR X (fun x H Q=>∃ k,TruV X.K x H k∧Q k H):=by
 intro pins s σ H x v Q I rx h
 obtain ⟨k,e,q⟩:=h
 have hl:=line63
 have hs:sizeLine=16777216:=sizeLine_eq
 cases x with
 | non =>
  cases rx
  have e':k=false:=e
  subst e'
  exact truthy_none ⟨H,I,q⟩
 | bl b =>
  cases rx
  have e':k=b:=e
  subst e'
  exact wpAny_truthy_bool ⟨H,I,q⟩
 | int i =>
  obtain ⟨t,rfl⟩:=rx
  have e':k=(i != 0):=e
  subst e'
  exact PySem.P.truthy_int ⟨H,I,q⟩
 | str y =>
  obtain ⟨t,rfl⟩:=rx
  obtain ⟨hy,e'⟩:y.length≤sizeLine∧k=((y.length:Int) != 0):=e
  subst e'
  exact PySem.P.truthy_str (by omega) ⟨H,I.tok _,q⟩
 | byt y =>
  obtain ⟨t,rfl⟩:=rx
  obtain ⟨hy,e'⟩:y.size≤sizeLine∧k=((y.size:Int) != 0):=e
  subst e'
  exact PySem.W.truthy_bytes (by omega) ⟨H,I.tok _,q⟩
 | ref p =>
  cases rx
  have e':(∃ xs,SqL X.K H p xs∧k = !xs.isEmpty)∨(∃ xs,SqT X.K H p xs∧k = !xs.isEmpty)∨∃ kvs,H p=some (.dK kvs)∧k = !kvs.isEmpty:=e
  rcases e' with ⟨xs,hx,e'⟩ | ⟨xs,hx,e'⟩ | ⟨kvs,hx,e'⟩
  ·subst e'
   obtain ⟨its,r,pl,hz⟩:=I.list hx
   have hlen:=r.length
   exact wpAny_truthy_list pl.isList (by simp only [List.size_toArray]; omega) ⟨H,I.tok _,by rw [isEmpty_of r]; exact q⟩
  ·subst e'
   obtain ⟨its,r,pl,hz⟩:=I.tuple hx
   have hlen:=r.length
   exact truthy_tuple pl (by simp only [List.size_toArray]; omega) ⟨H,I.tok _,by rw [isEmpty_of r]; exact q⟩
  ·subst e'
   obtain ⟨hz,hS,vs,r,m⟩:kvs.length≤sizeLine∧(p == sysModules)=false∧∃ vs,KV kvs vs∧s.heap.DictOf (mixKind X.prog X.w) p vs:=I.hok p _ hx
   have hlen:kvs.length=vs.length:=Paired.length r
   exact wpAny_truthy_dict hS m (by omega) ⟨H,I.tok _,by rw [isEmpty_kv r]; exact q⟩
 | _=>exact (show False from e).elim
theorem pt_truth (ha:PE X a ta) (he:∀ whole,isTrue a X.env whole=(do let v ← whole; standAt a.pos; holding [v] (truthy v))) :
  PT X a (fun σ H Q=>ta σ H fun x H'=>∃ k,TruV X.K x H' k∧Q k H'):=by
 intro pins s σ H Q I h
 exact isTrue_plain (thn (ha pins s σ H _ I h) fun v s1 ⟨x,H1,I1,r1,q1⟩=>tru_ok pins s1 σ H1 x v Q I1 r1 q1) (he _)
theorem vals1 {x:V} {us:List Value} (r:Vals [x] us):∃ u,us=[u]∧RelV x u:=by
 cases r with
 | cons r1 r2=>cases r2; exact ⟨_,rfl,r1⟩
theorem vals2 {x y:V} {us:List Value} (r:Vals [x,y] us):∃ u w',us=[u,w']∧RelV x u∧RelV y w':=by
 cases r with
 | cons r1 r2 =>
  cases r2 with
  | cons r3 r4=>cases r4; exact ⟨_,_,rfl,r1,r3⟩
theorem call_abs:CallR X (.builtin "abs") (fun xs H Q=>∃ i,xs=[.int i]∧Q (.int (if i < 0 then -i else i)) H):=by
 intro pins s σ H xs us Q I r h
 obtain ⟨i,rfl,q⟩:=h
 obtain ⟨u,rfl,t,rfl⟩:=vals1 r
 exact call_abs_int fun u tk=>⟨.int (if i < 0 then -i else i),H,I.tok _,⟨_,rfl⟩,q⟩
theorem call_int1:CallR X (.type "int") (fun xs H Q=>(∃ i,xs=[.int i]∧Q (.int i) H)∨∃ k,xs=[.bl k]∧Q (.int (if k then 1 else 0)) H):=by
 intro pins s σ H xs us Q I r h
 rcases h with ⟨i,rfl,q⟩ | ⟨k,rfl,q⟩
 ·obtain ⟨u,rfl,t,rfl⟩:=vals1 r
  exact call_int_int ⟨.int i,H,I,⟨_,rfl⟩,q⟩
 ·obtain ⟨u,rfl,r1⟩:=vals1 r
  cases r1
  exact call_int_bool ⟨.int (if k then 1 else 0),H,I.tok _,⟨_,rfl⟩,q⟩
end
end L2
namespace L2
open PySem PySem.Spec PyProof.Rows
structure ObjM (h:Heap) (x dx C:Addr) (mA:Str→Option Value):Prop where
 obj:h.get? x=some (PySem.W.instObj C dx)
 ns:h.Ns1 dx mA
 ne:dx≠x
theorem lookIn_ns {h:Heap} {dx:Addr} {mA:Str→Option Value} (n:h.Ns1 dx mA):∃ od,h.get? dx=some od∧∀ name,PySem.W.lookIn name od=some (mA name):=by
 obtain ⟨o,es,ep,ho,hd,hk,_,hm⟩:=n
 refine ⟨o,ho,fun name=>?_⟩
 have e:=hm name
 unfold nsFind findBy at e
 rw [← Array.find?_toList] at e
 unfold PySem.W.lookIn
 rw [hd]
 dsimp only
 split
 ·rename_i y q
  rw [q] at e
  exact congrArg some e
 ·rename_i q
  rw [q] at e
  have a:es.toList.any (·.refKey)=false:=by
   rw [List.any_eq_false]
   intro y hy
   obtain ⟨z,t,hkey⟩:=hk y (Array.mem_toList_iff.mp hy)
   simp [DictEntry.refKey,hkey]
  have a':¬ es.toList.any (·.refKey)=true:=by rw [a]; exact Bool.false_ne_true
  rw [if_neg a']
  exact congrArg some e
theorem ObjM.look {h:Heap} {x dx C:Addr} {mA:Str→Option Value} (I:ObjM h x dx C mA):∃ od,PySem.W.InstAt h x (PySem.W.instObj C dx) C (some od)∧∀ name,PySem.W.lookIn name od=some (mA name) :=
 let ⟨od,ho,hl⟩:=lookIn_ns I.ns
 ⟨od,⟨I.obj,rfl,rfl,ho⟩,hl⟩
section
variable {prog:Program} {w:World} {A:Around} {E:Value→Shared→Prop} {s:Shared} {K:PySem.W.Frag} {x dx C f:Addr} {mA:Str→Option Value} {name:Str} {v:Value}
end
section
variable {P:Program} {w:World} {H H':Hp} {h h':Heap} {a C dx:Addr} {fs fs':List (Str×V)}
theorem ins_get (hok:HOk P w H h) (e:H a=some (.ins C dx fs)):∃ mA,ObjM h a dx C mA∧(∀ f,RelO (fs.lookup f) (mA f))∧PySem.Within mA (fs.map (·.1))∧fs.length≤1000∧H dx=some (.own a):=by
 obtain ⟨d,z,ne,ob,mA,n,r,q⟩:=(show ObjOk P w H h a (.ins C dx fs) from hok a _ e)
 exact ⟨mA,⟨ob,n,ne⟩,r,q,z,d⟩
end
structure Cls (K:PySem.W.Frag) (C:Addr):Prop where
 pg:PySem.W.plainGet K C Str.empty=true
 hd:PySem.W.hasDictIn K C=true
 po:PySem.W.plainOver K C=true
 sa:PySem.W.findIn K (.ref C) "__setattr__" = some (some (.builtin "object.__setattr__"))
theorem Cls.get {K:PySem.W.Frag} {C:Addr} (c:Cls K C) (f:Str):PySem.W.plainGet K C f=true:=c.pg
section
variable {X:Cx} {pins:List (Addr×Obj)} {σ:St} {H:Hp} {s:Shared} {a C dx:Addr} {fs:List (Str×V)} {f:Str} {v:V} {A:Around} {E:Value→Shared→Prop}
end
section
variable {X:Cx} {o e value:Expr} {f:Str} {pos pos' tpos:Pos} {ta tv:TE}
end
section
variable {X:Cx} {pins:List (Addr×Obj)} {σ:St} {H:Hp} {s:Shared} {A:Around} {E:Value→Shared→Prop} {Q:Value→Shared→Prop} {c:Value} {b:Bool}
inductive TyOf (K:PySem.W.Frag) (H:Hp):V→Value→Prop where
 | non:TyOf K H .non (.type "NoneType")
 | bl (x:Bool):TyOf K H (.bl x) (.type "bool")
 | int (i:Int):TyOf K H (.int i) (.type "int")
 | str (x:Str):TyOf K H (.str x) (.type "str")
 | flt (x:UInt64):TyOf K H (.flt x) (.type "float")
 | lst {a:Addr} {xs:List V} (e:H a=some (.lst xs)):TyOf K H (.ref a) (.type "list")
 | frz {a:Addr} {o:Obj} {xs:List V} (e:H a=some (.frz o (.lst xs))):TyOf K H (.ref a) (.type "list")
 | tup {a:Addr} {xs:List V} (e:H a=some (.tup xs)):TyOf K H (.ref a) (.type "tuple")
 | dK {a:Addr} {kvs:List (Key×V)} (e:H a=some (.dK kvs)):TyOf K H (.ref a) (.type "dict")
 | dT {a:Addr} {kvs:List (List Key×V)} (e:H a=some (.dT kvs)):TyOf K H (.ref a) (.type "dict")
 | ins {a C dx:Addr} {fs:List (Str×V)} (e:H a=some (.ins C dx fs)) (cl:Cls K C) (ha:PySem.W.findIn K (.ref C) "__class__" = some (some (.builtin "object.__class__")))
   (hn:PySem.W.specialIn K (.builtin "object.__class__") "__get__" = some (some (.builtin "getset_descriptor.__get__"))) (htk:PySem.W.takesIn K (.builtin "object.__class__")=some true)
   (hm:PySem.W.mroIn K C (.type "object")=some true):TyOf K H (.ref a) (.ref C)
theorem isinst_ok {x:V} {u t:Value} (I:Inv X pins σ H s) (rx:RelV x u) (ty:TyOf X.K H x t) (e:PySem.W.kitOne X.K t c=some b) (h:∀ tk,Q (.bool b) { s with toks:=tk }) :
  wpAny (model X.prog X.w) A (call (.builtin "isinstance") [u,c]) Q E s:=by
 cases ty with
 | non=>cases (show u=Value.none from rx); exact PySem.W.kia_one PySem.W.kitx_none I.kIn True.intro e (fun z=>nomatch z) h
 | bl y=>cases (show u=Value.bool y from rx); exact PySem.W.kia_one PySem.W.kitx_bool I.kIn True.intro e (fun z=>nomatch z) h
 | int i=>obtain ⟨t,q⟩:=(show ∃ t,u=Value.int i t from rx); cases q; exact PySem.W.kia_one PySem.W.kitx_int I.kIn True.intro e (fun z=>nomatch z) h
 | str y=>obtain ⟨t,q⟩:=(show ∃ t,u=Value.str y t from rx); cases q; exact PySem.W.kia_one PySem.W.kitx_str I.kIn True.intro e (fun z=>nomatch z) h
 | flt y=>obtain ⟨t,q⟩:=(show ∃ t,u=Value.float y t from rx); cases q; exact PySem.W.kia_one PySem.W.kitx_float I.kIn True.intro e (fun z=>nomatch z) h
 | @lst a xs ea =>
  cases (show u=Value.ref a from rx)
  obtain ⟨_,_,n,_,h1⟩:=(show ObjOk X.prog X.w H s.heap a (.lst xs) from I.hok a _ ea)
  exact PySem.W.kia_one PySem.W.kitx_list I.kIn ⟨_,h1,rfl⟩ e (fun z=>nomatch z) h
 | @frz a ob xs ea =>
  cases (show u=Value.ref a from rx)
  obtain ⟨_,_,_,n,_,h1⟩:=(show ObjOk X.prog X.w H s.heap a (.frz ob (.lst xs)) from I.hok a _ ea)
  exact PySem.W.kia_one PySem.W.kitx_list I.kIn ⟨_,h1,rfl⟩ e (fun z=>nomatch z) h
 | @tup a xs ea =>
  cases (show u=Value.ref a from rx)
  obtain ⟨_,_,_,p⟩:=(show ObjOk X.prog X.w H s.heap a (.tup xs) from I.hok a _ ea)
  obtain ⟨o,h1,h2,_⟩:=p
  exact PySem.W.kia_one PySem.W.kitx_tuple I.kIn ⟨o,h1,h2⟩ e (fun z=>nomatch z) h
 | @dK a kvs ea =>
  cases (show u=Value.ref a from rx)
  obtain ⟨_,_,vs,_,p⟩:=(show ObjOk X.prog X.w H s.heap a (.dK kvs) from I.hok a _ ea)
  obtain ⟨o,es,ep,h1,h2,_⟩:=p
  exact PySem.W.kia_one PySem.W.kitx_dict I.kIn ⟨o,h1,h2.1⟩ e (fun z=>nomatch z) h
 | @dT a kvs ea =>
  cases (show u=Value.ref a from rx)
  obtain ⟨_,_,xs,_,o,es,ep,h1,h2,_⟩:=(show ObjOk X.prog X.w H s.heap a (.dT kvs) from I.hok a _ ea)
  exact PySem.W.kia_one PySem.W.kitx_dict I.kIn ⟨o,h1,h2.1⟩ e (fun z=>nomatch z) h
 | @ins a C dx fs ea cl ha hn htk hm =>
  cases (show u=Value.ref a from rx)
  obtain ⟨mA,O,_⟩:=ins_get I.hok ea
  obtain ⟨od,J,_⟩:=O.look
  exact PySem.W.kia_one (PySem.W.kitx_own (cl.get _) cl.hd ha hn htk hm) I.kIn J e (fun z=>nomatch z) h
end
end L2
namespace L2
open PySem PySem.Spec PyProof.Rows
structure Room (k:Nat) (A:Around):Prop where
 hd:A.handled=none
 dp:A.depth + 3 * k + 5 < recursionLimit
 un:A.units + 16 * k + 200 < cLine
theorem Room.mono {j k:Nat} {A:Around} (r:Room k A) (h:j≤k):Room j A:=⟨r.hd,by have:=r.dp; omega,by have:=r.un; omega⟩
theorem Room.deeper {k:Nat} {A:Around} (r:Room (k + 1) A) (env:Env):Room k (A.deeper env) :=
 ⟨r.hd,by have:=r.dp; show A.depth + 1 + 3 * k + 5 < _; omega,by have:=r.un; show A.units + 3 + 16 * k + 200 < _; omega⟩
theorem Room.depth {k:Nat} {A:Around} (r:Room k A):A.depth < recursionLimit:=by have:=r.dp; omega
theorem Room.units {k:Nat} {A:Around} (r:Room k A):A.units + 64 < cLine:=by have:=r.un; omega
def tNil:TA:=fun _ H Q=>Q [] H
def tCons (ta:TE) (tr:TA):TA:=fun σ H Q=>ta σ H fun x H1=>tr σ H1 fun xs H2=>Q (x :: xs) H2
section
variable {X:Cx} {e:Expr} {es:List Expr} {te:TE} {t:TA} {pos:Pos}
theorem pa_nil:PA X [] tNil:=fun _ _ _ _ H Q I h=>Calls.spliced_nil ⟨[],H,I,.nil,h⟩
theorem pa_cons (ha:PE X e te) (hr:PA X es t) (hs:starEach (e :: es) X.env=(false,eval e X.env) :: starEach es X.env:=by rfl):PA X (e :: es) (tCons te t):=by
 intro pos pins s σ H Q I h
 rw [hs]
 show wpAny _ _ (spliced ((false,eval e X.env) :: backTo pos (starEach es X.env))) _ _ s
 refine Calls.spliced_cons (thn (ha pins s σ H _ I h) fun u s1 ⟨x,H1,I1,r1,q1⟩=>?_)
 exact thn (hr pos pins s1 σ H1 _ I1 q1) fun us s2 ⟨xs,H2,I2,r2,q2⟩=>⟨x :: xs,H2,I2,.cons r1 r2,q2⟩
def tTup (t:TA):TE:=fun σ H Q=>t σ H fun xs H1=>xs.length≤sizeLine∧∀ p,H1 p=none→Q (.ref p) (upd H1 p (.tup xs))
def tLst (t:TA):TE:=fun σ H Q=>t σ H fun xs H1=>xs.length≤sizeLine∧∀ p,H1 p=none→Q (.ref p) (upd H1 p (.lst xs))
theorem pe_tup {x1} (h:PA X es t):PE X (.Tuple es x1 pos) (tTup t):=by
 intro pins s σ H Q I hq
 refine wpAny_Tuple_spliced (thn (h pos pins s σ H _ I hq) fun us s1 ⟨xs,H1,I1,r,z,q⟩=>⟨by rw [← r.length]; exact z,?_⟩)
 have hf:H1 s1.heap.objs.size=none:=I1.hok.fresh (Nat.le_refl _)
 refine ⟨.ref s1.heap.objs.size,upd H1 s1.heap.objs.size (.tup xs),I1.laid (t':=s1.toks) (fun b u e=>Heap.get?_push_of_some _ e) (Nat.le_refl _) ?_,rfl,q _ hf⟩
 exact ⟨z,us,r,⟨_,Heap.get?_push_size _ rfl,rfl,_,rfl⟩⟩
theorem pe_lst (h:PA X es t):PE X (.List es pos) (tLst t):=by
 intro pins s σ H Q I hq
 refine wpAny_List_spliced (thn (h pos pins s σ H _ I hq) fun us s1 ⟨xs,H1,I1,r,z,q⟩=>⟨by rw [← r.length]; exact z,?_⟩)
 have hf:H1 s1.heap.objs.size=none:=I1.hok.fresh (Nat.le_refl _)
 refine ⟨.ref s1.heap.objs.size,upd H1 s1.heap.objs.size (.lst xs),I1.laid (t':=s1.toks) (fun b u e=>Heap.get?_push_of_some _ e) (Nat.le_refl _) ?_,rfl,q _ hf⟩
 exact ⟨z,us,0,r,Heap.get?_push_size _ rfl⟩
end
abbrev Sp:=List V→Hp→VK→XK→Prop
abbrev CXT:=List Env→Hp→Shared→XK→Value→Shared→Prop
structure Env0 (P:Program) (w:World) (K:PySem.W.Frag) (mg:Str→Option Value) (base:Heap) (A:Around) (outer:List Env) (s:Shared) (H:Hp):Prop where
 frames:A.frames=some outer
 mod:Mod K mg base
 bs:∀ b o,base.get? b=some o→s.heap.get? b=some o∧H b=none
 bsz:base.objs.size≤s.heap.objs.size
 funs:s.heap.FunFrames base outer
 frf:∀ b∈frs outer,H b=none
 hok:HOk P w H s.heap
 bare:AllBare s.gens
def CE (outer:List Env) (P:Program) (w:World) (H:Hp) (s:Shared) (Q:VK) (u:Value) (s':Shared):Prop :=
 ∃ v H',s'.os=s.os∧AllBare s'.gens∧Un (frs outer) [] H H' s.heap s'.heap∧HOk P w H' s'.heap∧RelV v u∧Q v H'
def CR (CX:CXT) (outer:List Env) (P:Program) (w:World) (H:Hp) (s:Shared) (Q:VK) (E:XK) (r:Result) (s':Shared):Prop :=
 match r with
 | .ok (.ret u)=>CE outer P w H s Q u s'
 | .ok _=>False
 | .error e=>CX outer H s E e s'
structure FnOk (P:Program) (w:World) (K:PySem.W.Frag) (mg:Str→Option Value) (base:Heap) (CX:CXT) (k:Nat) (f:Addr) (fd:FuncData) (ps:List Str) (sp:Sp):Prop where
 len:∀ vs H Q E,sp vs H Q E→vs.length=ps.length
 run:∀ (A:Around) (outer:List Env) (s:Shared) (H:Hp) (args:Args) (us:List Value) (vs:List V) (Q:VK) (E:XK),Room k A→Env0 P w K mg base A outer s H→BindsTo s fd args (ps.zip us)→Vals vs us→sp vs H Q E →
  codeAny (model P w) A (.call (.ref f) args) (CR CX outer P w H s Q E) s
theorem FnOk.imp {P:Program} {w:World} {K:PySem.W.Frag} {mg:Str→Option Value} {base:Heap} {CX:CXT} {k:Nat} {f:Addr} {fd:FuncData} {ps:List Str} {sp sp':Sp} (F:FnOk P w K mg base CX k f fd ps sp)
  (h:∀ vs H Q E,sp' vs H Q E→sp vs H Q E):FnOk P w K mg base CX k f fd ps sp' :=
 ⟨fun vs H Q E q=>F.len vs H Q E (h _ _ _ _ q),fun A outer s H args us vs Q E hr he hb hv hs=>F.run A outer s H args us vs Q E hr he hb hv (h _ _ _ _ hs)⟩
section
variable {X:Cx} {pins:List (Addr×Obj)} {σ:St} {H:Hp} {s s':Shared}
theorem Inv.env0 (I:Inv X pins σ H s):Env0 X.prog X.w X.K X.mg X.base X.A X.stack s H :=
 ⟨I.ok.frames,I.ok.mod,I.bs,Nat.le_trans I.ok.bsz I.sz,I.stack,I.stkFree,I.hok,I.bare⟩
theorem Inv.after {Q:VK} {u:Value} (I:Inv X pins σ H s) (h:CE X.stack X.prog X.w H s Q u s'):EP X pins σ Q u s':=by
 obtain ⟨v,H',os,bare,un,hok,r,q⟩:=h
 obtain ⟨hh,g,d,t,os'⟩:=s'
 obtain rfl:os'=s.os:=os
 exact ⟨v,H',I.call (h':=hh) (g':=g) (d':=d) (t':=t) (ch:=[]) un hok bare (fun b z=>absurd z (by simp)),r,q⟩
end
def tCall (sp:Sp) (dvs:List V) (E:XK) (t:TA):TE:=fun σ H Q=>t σ H fun vs H1=>sp (vs ++ dvs) H1 Q E
def Binds (K:PySem.W.Frag) (fd:FuncData) (ps:List Str) (ds:List Value):Prop :=
 ∀ (s:Shared) (us:List Value),K.In s.heap→(us ++ ds).length=ps.length→BindsTo s fd ⟨us,[]⟩ (ps.zip (us ++ ds))
theorem Binds.all {K:PySem.W.Frag} {fd:FuncData} {ps:List Str} (h:∀ us:List Value,us.length=ps.length→bindArgs fd ⟨us,[]⟩=pure (ps.zip us)):Binds K fd ps []:=fun s us _ hl=>by
 rw [List.append_nil] at hl ⊢
 exact .of_eq (h us hl)
def Passes (CX:CXT) (X:Cx) (E:XK):Prop:=∀ (pins:List (Addr×Obj)) (σ:St) (H:Hp) (s:Shared) (e:Value) (s':Shared),Inv X pins σ H s→CX X.stack H s E e s'→X.xe e s'
section
variable {X:Cx} {CX:CXT} {k:Nat} {f C:Addr} {fd:FuncData} {ps:List Str} {sp:Sp} {dvs:List V} {ds:List Value} {E:XK} {x m:Str} {p pos apos:Pos} {e o:Expr} {es:List Expr} {ta:TE} {t:TA}
theorem run_fn {pins:List (Addr×Obj)} {σ:St} {H:Hp} {s:Shared} {Q:VK} {us:List Value} {vs:List V} (F:FnOk X.prog X.w X.K X.mg X.base CX k f fd ps sp) (hr:Room k X.A) (hb:Binds X.K fd ps ds) (hd:Vals dvs ds) (hx:Passes CX X E)
  (I:Inv X pins σ H s) (r:Vals vs us) (h:sp (vs ++ dvs) H Q E):wpAny (model X.prog X.w) X.A (call (.ref f) us) (EP X pins σ Q) X.xe s:=by
 have r2:Vals (vs ++ dvs) (us ++ ds):=r.append hd
 have hl:(us ++ ds).length=ps.length:=by rw [← r2.length]; exact F.len _ _ _ _ h
 refine wpAny_call (codeAny_mono (F.run X.A X.stack s H ⟨us,[]⟩ (us ++ ds) (vs ++ dvs) Q E hr I.env0 (hb s us I.kIn hl) r2 h) fun r s' hq=>?_)
 cases r with
 | error e=>exact hx pins σ H s e s' I hq
 | ok fl =>
  cases fl with
  | ret u=>exact I.after hq
  | next=>exact False.elim hq
  | brk=>exact False.elim hq
  | cont=>exact False.elim hq
theorem pe_call (F:FnOk X.prog X.w X.K X.mg X.base CX k f fd ps sp) (hr:Room k X.A) (hg:Gl X x) (hm:X.mg x=some (.ref f)) (hk:PySem.W.keepIn X.K (.ref f)=true) (hb:Binds X.K fd ps ds) (hd:Vals dvs ds) (hx:Passes CX X E)
  (ha:PA X (e :: es) t) (hdb:(x == ("__debug__" : Str))=false:=by decide) (he:starEach (e :: es) X.env=(false,eval e X.env) :: starEach es X.env:=by rfl) (hpl:(backTo pos (starEach es X.env)).any (·.1)=false:=by rfl) :
  PE X (.Call (.Name x p) (e :: es) [] pos) (tCall sp dvs E t):=by
 intro pins s σ H Q I h
 refine wpAny_Call_Name_kw (ld_glob I hg hm ?_ hdb)
 refine PySem.W.callWith_K (h₀:=X.base) I.ok.mod.kin hk (thn (ha pos pins s σ H _ I h) fun us s1 ⟨vs,H1,I1,r,q⟩=>⟨I1.kIn,?_⟩) he hpl
 exact run_fn F hr hb hd hx I1 r q
end
section
variable {X:Cx} {CX:CXT} {k:Nat} {f C:Addr} {fd:FuncData} {ps ks:List Str} {sp:Sp} {E:XK} {x m:Str} {p pos apos kpos:Pos} {e o:Expr} {es:List Expr} {kws:List Keyword} {te ta:TE} {t tk:TA} {nm:Option Str}
variable {g:List Value→List Value→List Value} {gV:List V→List V→List V}
end
structure FnScope (N P:List Str) (sc:Scope):Prop where
 kind:sc.kind=.function
 co:sc.isCoroutine=false
 gen:sc.isGenerator=false
 nd:N.Nodup
 pre:N.take P.length=P
 par:∀ x∈P,sc.names.lookup x=some .local∨sc.names.lookup x=some .cell
 nofree:∀ y∈sc.names,y.2≠.free
theorem bindL_out {kindOf:Str→Option NameKind} {x:Str}:∀ {binds:List (Str×Value)} {m:Str→Option Value},(∀ v,(x,v) ∉ binds)→bindL kindOf binds m x=m x
 | [],_,_=>rfl
 | (n,v) :: r,m,h=>by
  unfold bindL
  rw [bindL_out fun w hw=>h w (List.mem_cons_of_mem _ hw)]
  split
  ·have:x≠n:=by rintro rfl; exact h v List.mem_cons_self
   simp [this]
  ·rfl
theorem bindC_out {kindOf:Str→Option NameKind} {x:Str}:∀ {binds:List (Str×Value)} {m:Str→Option Value},(∀ v,(x,v) ∉ binds)→bindC kindOf binds m x=m x
 | [],_,_=>rfl
 | (n,v) :: r,m,h=>by
  unfold bindC
  rw [bindC_out fun w hw=>h w (List.mem_cons_of_mem _ hw)]
  split
  ·rfl
  ·have:x≠n:=by rintro rfl; exact h v List.mem_cons_self
   simp [this]
theorem bindL_get {kindOf:Str→Option NameKind} {x:Str} {v:Value}:∀ {P:List Str} {vs:List Value} {i:Nat} {m:Str→Option Value},P.Nodup→P[i]?=some x→vs[i]?=some v→kindOf x=some .local →
  bindL kindOf (P.zip vs) m x=some v
 | [],_,_,_,_,h,_,_=>by simp at h
 | _ :: _,[],_,_,_,_,h,_=>by simp at h
 | p :: P,w :: vs,0,m,nd,h1,h2,hk=>by
  simp at h1 h2; subst h1; subst h2
  show bindL kindOf ((p,w) :: P.zip vs) m p=_
  unfold bindL
  rw [bindL_out fun v hv=>(List.nodup_cons.mp nd).1 (List.of_mem_zip hv).1,if_pos hk]
  simp
 | p :: P,w :: vs,i + 1,m,nd,h1,h2,hk=>by
  show bindL kindOf ((p,w) :: P.zip vs) m x=_
  unfold bindL
  exact bindL_get (i:=i) (List.nodup_cons.mp nd).2 (by simpa using h1) (by simpa using h2) hk
theorem bindC_get {kindOf:Str→Option NameKind} {x:Str} {v:Value}:∀ {P:List Str} {vs:List Value} {i:Nat} {m:Str→Option Value},P.Nodup→P[i]?=some x→vs[i]?=some v→kindOf x≠some .local →
  bindC kindOf (P.zip vs) m x=some v
 | [],_,_,_,_,h,_,_=>by simp at h
 | _ :: _,[],_,_,_,_,h,_=>by simp at h
 | p :: P,w :: vs,0,m,nd,h1,h2,hk=>by
  simp at h1 h2; subst h1; subst h2
  show bindC kindOf ((p,w) :: P.zip vs) m p=_
  unfold bindC
  rw [bindC_out fun v hv=>(List.nodup_cons.mp nd).1 (List.of_mem_zip hv).1,if_neg hk]
  simp
 | p :: P,w :: vs,i + 1,m,nd,h1,h2,hk=>by
  show bindC kindOf ((p,w) :: P.zip vs) m x=_
  unfold bindC
  exact bindC_get (i:=i) (List.nodup_cons.mp nd).2 (by simpa using h1) (by simpa using h2) hk
def start (N:List Str) (vs:List V):St:=vs.map some ++ List.replicate (N.length - vs.length) none
def cxOf (CX:CXT) (P:Program) (w:World) (K:PySem.W.Frag) (mg:Str→Option Value) (base:Heap) (N:List Str) (qual:Str) (scope:Scope) (f:Addr) (cd:Value) (A:Around) (outer:List Env) (s:Shared) (H:Hp) (E:XK):Cx where
 prog:=P
 w:=w
 K:=K
 mg:=mg
 base:=base
 A:=A.deeper (envOfC qual scope s.heap.objs.size f cd)
 N:=N
 s₀:=s
 H₀:=H
 env:=envOfC qual scope s.heap.objs.size f cd
 outer:=outer
 stack:=envOfC qual scope s.heap.objs.size f cd :: outer
 ex:=[]
 calm:=true
 fn:=fun _=>true
 pn:=[]
 xe:=fun e s'=>wpAny (model P w) (A.deeper (envOfC qual scope s.heap.objs.size f cd)) (leaving (envOfC qual scope s.heap.objs.size f cd) e) (fun _ s''=>CX outer H s E e s'') (fun e' s''=>CX outer H s E e' s'') s'
theorem cell_has {sc:Scope} {n:Nat} {x:Str} (h:sc.names.lookup x=some .cell):∃ c,(cellsFrom n sc.names []).lookup x=some c:=by
 have q:=PySem.W.cellsFrom_some sc.names n [] (.inl h)
 exact Option.isSome_iff_exists.mp q
theorem inv_start {CX:CXT} {P:Program} {w:World} {K:PySem.W.Frag} {mg:Str→Option Value} {base:Heap} {N ps:List Str} {qual:Str} {scope:Scope} {f:Addr} {cd:Value} {A:Around} {outer:List Env} {s s1:Shared} {H:Hp} {E:XK} {us:List Value} {vs:List V}
  (S:FnScope N ps scope) (hd:A.handled=none) (e0:Env0 P w K mg base A outer s H) (hl:vs.length=ps.length) (r:Vals vs us)
  (x:InCallC s s.heap.objs.size (bindL (envOfC qual scope s.heap.objs.size f cd).kindOf (ps.zip us) fun _=>none) (cellsFrom (s.heap.objs.size + 1) scope.names []) (bindC (envOfC qual scope s.heap.objs.size f cd).kindOf (ps.zip us) fun _=>none) s1) :
  Inv (cxOf CX P w K mg base N qual scope f cd A outer s H E) [] (start N vs) H s1:=by
 have hpl:ps.length≤N.length:=by have:=congrArg List.length S.pre; rw [List.length_take] at this; omega
 obtain ⟨h1,tk,rfl,hk⟩:=x.done
 have noA:∀ b:Addr,b ∉ (cxOf CX P w K mg base N qual scope f cd A outer s H E).ex:=fun b z=>absurd (show b∈([]:List Addr) from z) (by simp)
 refine ⟨⟨e0.mod,S.kind,rfl,rfl,Nat.le_refl _,fun y z c h1 h2=>?_,fun y hy=>?_,fun y c _ h=>?_,fun _=>hd,Around.frames_deeper e0.frames,.inr ⟨rfl,rfl⟩,fun b z=>absurd z (noA b),e0.bs,e0.bsz,fun b _ _=>noA b,fun b z=>absurd z (noA b),e0.funs,e0.frf⟩,
  rfl,e0.bare,Un.kept hk,⟨_,x.toInCall.ns,fun i y v h1 h2 h3=>?_⟩,fun y c h=>⟨_,x.cell y c h⟩,e0.hok.fresh (Nat.le_refl _),fun y c h=>?_,fun p hp=>absurd (show p∈([]:List (Addr×Obj)) from hp) (by simp),e0.hok.kept hk,?_⟩
 ·exact name_of_addr x.apart (PySem.mem_of_lookup h1) (PySem.mem_of_lookup h2)
 ·have hy:scope.names.lookup y=some .cell∨scope.names.lookup y=some .free:=hy
  rcases hy with hy | hy
  ·exact cell_has hy
  ·exact absurd rfl (S.nofree _ (PySem.mem_of_lookup hy))
 ·exact Nat.le_of_lt (x.above y c (PySem.mem_of_lookup h))
 ·have hi:i < vs.length:=by
   unfold start at h2
   by_cases hi:i < vs.length
   ·exact hi
   ·rw [List.getElem?_append_right (by simpa using hi)] at h2
    rw [List.getElem?_replicate] at h2
    split at h2 <;> cases h2
  have ha:vs[i]?=some v:=by
   unfold start at h2
   rw [List.getElem?_append_left (by simpa using hi),List.getElem?_map] at h2
   cases e:vs[i]? with
   | none=>rw [e] at h2; cases h2
   | some a=>rw [e] at h2; cases h2; rfl
  obtain ⟨u,hu,rv⟩:=r.get ha
  have hp:ps[i]?=some y:=by
   rw [← S.pre,List.getElem?_take_of_lt (by omega)]; exact h1
  have ndP:ps.Nodup:=by rw [← S.pre]; exact S.nd.sublist (List.take_sublist _ _)
  refine ⟨u,rv,?_⟩
  rcases S.par y (List.mem_of_getElem? hp) with k | k
  ·exact .inl ⟨k,bindL_get ndP hp hu k⟩
  ·obtain ⟨c,e⟩:=cell_has (n:=s.heap.objs.size + 1) k
   refine .inr ⟨.inl k,c,e,?_⟩
   have q:=x.cell y c e
   rw [bindC_get ndP hp hu (by show scope.names.lookup y≠_; rw [k]; decide)] at q
   exact q
 ·exact e0.hok.fresh (Nat.le_of_lt (x.above y c (PySem.mem_of_lookup h)))
 ·unfold start
  show _=N.length
  rw [List.length_append,List.length_map,List.length_replicate]
  omega
theorem fn_of {CX:CXT} {P:Program} {w:World} {K:PySem.W.Frag} {mg:Str→Option Value} {base:Heap} {k:Nat} {f:Addr} {name qual:Str} {params:Arguments} {body:List Stmt} {scope:Scope} {dV kV doc pm cdv ct oc:Value} {an od:Option Addr}
  {osl:Array (Option Value)} {N ps:List Str} {sp:Sp} (lk:K.lookup f=some ⟨oc,od,.func (PySem.W.fnOf name qual params body scope dV kV doc pm an cdv ct),osl⟩) (hcd:PySem.W.codeIn K cdv qual=true) (S:FnScope N ps scope)
  (len:∀ vs H Q E,sp vs H Q E→vs.length=ps.length)
  (hbody:∀ (A:Around) (outer:List Env) (s:Shared) (H:Hp) (vs:List V) (Q:VK) (E:XK),Room k (A.deeper (envOfC qual scope s.heap.objs.size f cdv))→sp vs H Q E →
   ∃ t,PSs (cxOf CX P w K mg base N qual scope f cdv A outer s H E) body t∧t { nx:=fun _ H'=>Q .non H',rt:=Q } (start N vs) H) :
  FnOk P w K mg base CX (k + 1) f (PySem.W.fnOf name qual params body scope dV kV doc pm an cdv ct) ps sp:=by
 refine ⟨len,fun A outer s H args us vs Q E hr e0 hb r hsp=>?_⟩
 have hl:=len _ _ _ _ hsp
 have KX:K.In s.heap:=e0.mod.kin.keeps fun b o e=>(e0.bs b o e).1
 have lim:s.heap.NoLimit:=e0.mod.nolimit.keeps fun b o e=>(e0.bs b o e).1
 have hkind:∀ y∈ps.zip us,scope.names.lookup y.1=some .local∨(scope.names.lookup y.1=some .cell∧((cellsFrom (s.heap.objs.size + 1) scope.names []).lookup y.1).isSome=true):=fun ⟨n,v⟩ hy=>by
  rcases S.par n (List.of_mem_zip hy).1 with q | q
  ·exact .inl q
  ·exact .inr ⟨q,PySem.W.cellsFrom_some _ _ _ (.inl q)⟩
 refine codeAny_call_function hr.depth (KX _ _ lk) rfl S.co S.gen rfl (PySem.W.codeRec_of KX hcd) (hb _ _ _ _ ?_)
 refine wpAny_newFunctionEnv_cells S.kind hkind fun env he s1 x=>?_
 subst he
 refine ⟨lim.keeps x.toInCall.keep,codeAny_func ?_⟩
 obtain ⟨t,ht,hq⟩:=hbody A outer s H vs Q E (hr.deeper _) hsp
 have I:Inv (cxOf CX P w K mg base N qual scope f cdv A outer s H E) [] (start N vs) H s1:=inv_start S hr.hd e0 hl r x
 refine wpAny_mono (ht [] s1 (start N vs) H _ I hq) (fun fl s' hs=>?_) fun e s' hs=>hs
 have fin:∀ {σ':St} {H':Hp} {v:V} {u:Value},Inv (cxOf CX P w K mg base N qual scope f cdv A outer s H E) [] σ' H' s'→RelV v u→Q v H'→CE outer P w H s Q u s' :=
  fun {σ' H' v u} J rv q=>⟨v,H',J.os,J.bare,J.base,J.hok,rv,q⟩
 cases fl with
 | ret u =>
  obtain ⟨v,σ',H',J,rv,q⟩:=hs
  exact fin J rv q
 | next =>
  obtain ⟨σ',H',J,q⟩:=hs
  exact fin (v:=V.non) (u:=Value.none) J rfl q
 | brk =>
  obtain ⟨_,_,_,q⟩:=hs
  exact False.elim q
 | cont =>
  obtain ⟨_,_,_,q⟩:=hs
  exact False.elim q
end L2
namespace L2
open PySem PySem.Spec PyProof.Rows
section
variable {X:Cx} {x:Str} {p pos:Pos} {e:Expr} {es:List Expr} {t:TA} {id T:String} {r:List V→Hp→VK→Prop}
def tCB (r:List V→Hp→VK→Prop) (t:TA):TE:=fun σ H Q=>t σ H fun vs H1=>r vs H1 Q
theorem pe_callB (hc:CallR X (.builtin id) r) (hg:Gl X x) (hm:X.mg x=none) (hv:bootBuiltins x=some (.builtin id)) (ha:PA X (e :: es) t) (hn:x ≠ "__name__" := by decide) (hdb:(x == ("__debug__" : Str))=false:=by decide)
  (he:starEach (e :: es) X.env=(false,eval e X.env) :: starEach es X.env:=by rfl) (hpl:(backTo pos (starEach es X.env)).any (·.1)=false:=by rfl):PE X (.Call (.Name x p) (e :: es) [] pos) (tCB r t):=by
 intro pins s σ H Q I h
 refine wpAny_Call_Name_kw (ld_blt I hg hm hv ?_ hn hdb)
 exact PyProof.Rows.callWith_builtin1 (thn (ha pos pins s σ H _ I h) fun us s1 ⟨vs,H1,I1,r1,q1⟩=>hc pins s1 σ H1 vs us Q I1 r1 q1) he hpl
theorem pe_callTy (hc:CallR X (.type T) r) (hg:Gl X x) (hm:X.mg x=none) (hv:bootBuiltins x=some (.type T)) (ha:PA X (e :: es) t) (hn:x ≠ "__name__" := by decide) (hdb:(x == ("__debug__" : Str))=false:=by decide)
  (he:starEach (e :: es) X.env=(false,eval e X.env) :: starEach es X.env:=by rfl) (hpl:(backTo pos (starEach es X.env)).any (·.1)=false:=by rfl):PE X (.Call (.Name x p) (e :: es) [] pos) (tCB r t):=by
 intro pins s σ H Q I h
 refine wpAny_Call_Name_kw (ld_blt I hg hm hv ?_ hn hdb)
 exact PyProof.Rows.callWith_type1 (thn (ha pos pins s σ H _ I h) fun us s1 ⟨vs,H1,I1,r1,q1⟩=>hc pins s1 σ H1 vs us Q I1 r1 q1) he hpl
end
end L2
namespace HT
open PySem PyProof.Rows
section
open PySem.SeqAt
open PySem.AutoSeq1 (wpAny_loadPart')
open PySem.MeetsSeq PySem.MeetsSeq2 PySem.MeetsSeq3
end
section
variable {prog:Program} {w:World} {A:Around} {E:Value→Shared→Prop} {s:Shared}
def sIx (n d:Nat):Option Int→Nat
 | none=>d
 | some v=>if v < 0 then (v + (n:Int)).toNat else min v.toNat n
end
end HT
namespace L2
open PySem PySem.Spec PyProof.Rows
abbrev TO:=St→Hp→(Option Int→Hp→Prop)→Prop
def PO (X:Cx) (e:Option Expr) (t:TO):Prop :=
 ∀ (pins:List (Addr×Obj)) (s:Shared) (σ:St) (H:Hp) (Q:Option Int→Hp→Prop),Inv X pins σ H s→t σ H Q →
  wpAny (model X.prog X.w) X.A (evalPart e X.env) (fun u s'=>∃ o H',Inv X pins σ H' s'∧IsPart u o∧Q o H') X.xe s
def tNoPart:TO:=fun _ H Q=>Q none H
def tPart (t:TE):TO:=fun σ H Q=>t σ H fun x H1=>∃ i,x=.int i∧Q (some i) H1
theorem intsAre_of {ns:List Int}:∀ {us:List Value},Vals (ns.map V.int) us→IntsAre us ns:=by
 induction ns with
 | nil=>intro us r; rw [List.map_nil] at r; cases r; exact .nil
 | cons n ns ih =>
  intro us r
  rw [List.map_cons] at r
  cases r with
  | cons r1 r2 =>
   obtain ⟨t,e⟩:=r1
   subst e
   exact .cons n t (ih r2)
section
variable {X:Cx} {e:Expr} {te:TE} {lo hi:Option Expr} {tl th:TO} {pos p2:Pos}
theorem po_none:PO X none tNoPart:=by
 intro pins s σ H Q I h
 rw [evalPart_none]
 exact wpAny_pure ⟨none,H,I,.none,h⟩
theorem po_some (h:PE X e te):PO X (some e) (tPart te):=by
 intro pins s σ H Q I hw
 rw [evalPart_some]
 refine thn (h pins s σ H _ I hw) fun u s1 ⟨x,H1,I1,r1,q1⟩=>?_
 obtain ⟨i,rfl,q⟩:=q1
 obtain ⟨t,rfl⟩:=r1
 exact ⟨some i,H1,I1,.int i t,q⟩
def SlR (X:Cx) (r:V→Option Int→Option Int→Hp→VK→Prop):Prop :=
 ∀ (pins:List (Addr×Obj)) (s:Shared) (σ:St) (H:Hp) (x:V) (v vl vu:Value) (lo hi:Option Int) (sl:Addr) (Q:VK),Inv X pins σ H s→RelV x v→s.heap.IsSliceOf sl vl vu .none→IsPart vl lo→IsPart vu hi→r x lo hi H Q →
  ∃ T id,typeLookup (.type T) "__getitem__" = pure (some (.builtin id))∧s.TypeIs v T∧wpAny (model X.prog X.w) X.A (getItem v (.ref sl)) (EP X pins σ Q) X.xe s
def tSl (r:V→Option Int→Option Int→Hp→VK→Prop) (te:TE) (tl th:TO):TE:=fun σ H Q=>te σ H fun x H1=>tl σ H1 fun l H2=>th σ H2 fun u H3=>r x l u H3 Q
theorem pe_slice {r:V→Option Int→Option Int→Hp→VK→Prop} (hr:SlR X r) (he:PE X e te) (hl:PO X lo tl) (hu:PO X hi th):PE X (.Subscript e (.Slice lo hi none p2) pos) (tSl r te tl th):=by
 intro pins s σ H Q I h
 refine Subscript_ (thn (he pins s σ H _ I h) fun v s1 ⟨x,H1,I1,r1,q1⟩=>?_)
 refine wpAny_Slice (thn (hl pins s1 σ H1 _ I1 q1) fun vl s2 ⟨l,H2,I2,pl,q2⟩=>thn (hu pins s2 σ H2 _ I2 q2) fun vu s3 ⟨u,H3,I3,pu,q3⟩=>?_)
 rw [evalPart_none]
 refine wpAny_pure ?_
 have I4:Inv X pins σ H3 { s3 with heap:=s3.heap.push { cls:=.type "slice", data:=.fields #[vl,vu,.none] } }:=I3.kept (t':=s3.toks) fun b ob q=>Heap.get?_push_of_some _ q
 obtain ⟨T,id,hT,ht,hg⟩:=hr pins { s3 with heap:=s3.heap.push { cls:=.type "slice", data:=.fields #[vl,vu,.none] } } σ H3 x v vl vu l u s3.heap.objs.size Q I4 r1 (Heap.IsSliceOf.new ..) pl pu q3
 show wpAny (model X.prog X.w) X.A (subscriptTail e (.Slice lo hi none p2) v (.ref s3.heap.objs.size)) (EP X pins σ Q) X.xe { s3 with heap:=s3.heap.push { cls:=.type "slice", data:=.fields #[vl,vu,.none] } }
 exact tail_any (ops:=[.ref s3.heap.objs.size,v]) ht hT hg (by with_unfolding_all rfl)
def cutV (xs:List V) (lo hi:Option Int):List V:=(xs.drop (HT.sIx xs.length 0 lo)).take (HT.sIx xs.length xs.length hi - HT.sIx xs.length 0 lo)
theorem cutV_length (xs:List V) (lo hi:Option Int):(cutV xs lo hi).length≤xs.length:=by
 unfold cutV
 rw [List.length_take,List.length_drop]
 omega
end
end L2
namespace L2
open PySem PySem.Spec PyProof.Rows
def ixN (n:Nat) (i:Int):Option Nat:=if 0≤i then (if i < n then some i.toNat else none) else if -(n:Int)≤i then some (i + n).toNat else none
def atI {α:Type} (xs:List α) (i:Int):Option α:=(ixN xs.length i).bind fun j=>xs[j]?
theorem ixN_seq {n:Nat} {i:Int} {j:Nat} (h:ixN n i=some j):seqIndex? i n=some j∧j < n ∧ -(n:Int)≤i∧i < n:=by
 unfold ixN at h
 by_cases h0:0≤i
 ·rw [if_pos h0] at h
  by_cases h1:i < n
  ·rw [if_pos h1] at h
   have e:i.toNat=j:=Option.some.inj h
   exact ⟨by rw [seqIndex_of h0 h1,e],by omega,by omega,h1⟩
  ·rw [if_neg h1] at h; cases h
 ·rw [if_neg h0] at h
  by_cases h1 : -(n:Int)≤i
  ·rw [if_pos h1] at h
   have e:(i + n).toNat=j:=Option.some.inj h
   exact ⟨by rw [seqIndex_neg (by omega) h1,e],by omega,h1,by omega⟩
  ·rw [if_neg h1] at h; cases h
theorem atI_get {α:Type} {xs:List α} {i:Int} {v:α} (h:atI xs i=some v):∃ j,seqIndex? i xs.length=some j∧xs[j]?=some v∧j < xs.length ∧ -(xs.length:Int)≤i∧i < xs.length:=by
 unfold atI at h
 cases e:ixN xs.length i with
 | none=>rw [e] at h; cases h
 | some j =>
  rw [e] at h
  obtain ⟨h1,h2,h3,h4⟩:=ixN_seq e
  exact ⟨j,h1,h,h2,h3,h4⟩
def PlainIx (b:Expr):Prop:=∀ o i,subscripted b false o i=operate [o,i] (getItem o i)
def IxR (X:Cx) (r:R2):Prop :=
 ∀ (value slice:Expr) (pins:List (Addr×Obj)) (s:Shared) (σ:St) (H:Hp) (x y:V) (v u:Value) (Q:VK),Inv X pins σ H s→RelV x v→RelV y u→r x y H Q →
  subscripted slice false v u=operate [v,u] (getItem v u)→wpAny (model X.prog X.w) X.A (subscriptTail value slice v u) (EP X pins σ Q) X.xe s
def MtR (X:Cx) (id:String) (r:V→List V→Hp→VK→Prop):Prop :=
 ∀ (pins:List (Addr×Obj)) (s:Shared) (σ:St) (H:Hp) (x:V) (xs:List V) (v:Value) (us:List Value) (Q:VK),Inv X pins σ H s→RelV x v→Vals xs us→r x xs H Q →
  wpAny (model X.prog X.w) X.A (call (.builtin id) (v :: us)) (EP X pins σ Q) X.xe s
section
variable {X:Cx} {a b:Expr} {ta tb:TE} {pos:Pos}
theorem pe_ix {r:R2} (hr:IxR X r) (ha:PE X a ta) (hb:PE X b tb) (hs:PlainIx b):PE X (.Subscript a b pos) (tOp r ta tb):=by
 intro pins s σ H Q I h
 exact Subscript_ (binT ha hb I h fun v u s2 x y H2 I2 rx ry q=>hr a b pins s2 σ H2 x y v u Q I2 rx ry q (hs _ _))
def rIxL (K:PySem.W.Frag):R2:=fun x y H Q=>∃ p xs i v,x=.ref p∧y=.int i∧SqL K H p xs∧atI xs i=some v∧Q v H
def rIxT (K:PySem.W.Frag):R2:=fun x y H Q=>∃ p xs i v,x=.ref p∧y=.int i∧SqT K H p xs∧atI xs i=some v∧Q v H
theorem ix_list:IxR X (rIxL X.K):=by
 intro value slice pins s σ H x y v u Q I rx ry h hs
 obtain ⟨p,xs,i,z,rfl,rfl,hq,he,q⟩:=h
 cases rx
 obtain ⟨t,rfl⟩:=ry
 obtain ⟨its,r,pl,hz⟩:=I.list hq
 obtain ⟨j,h1,h2,h3,h4,h5⟩:=atI_get he
 obtain ⟨w,ew,rw'⟩:=r.get h2
 have hl:=r.length
 have hn:=line63
 have fin:EP X pins σ Q w s:=⟨z,H,I,rw',q⟩
 by_cases h0:0≤i
 ·have hj:i.toNat=j:=by
   rw [seqIndex_of h0 h5] at h1
   exact Option.some.inj h1
  exact item_listR pl.isList h0 (by omega) (by rw [hj]; simpa using ew) fin hs
 ·have hj:(i + (its.toArray.size:Int)).toNat=j:=by
   rw [seqIndex_neg (by omega) h4] at h1
   rw [List.size_toArray,← hl]
   exact Option.some.inj h1
  exact subscriptTail_builtinR (x:=w) pl.isList.typeIs slot_list_getitem.lookup
   (wpAny_getItem_list_neg (Q:=fun r s'=>r=w∧EP X pins σ Q r s') pl.isList (by omega) (by rw [List.size_toArray] <;> omega) (by omega) (by rw [hj]; simpa using ew) ⟨rfl,fin⟩) hs
theorem ix_tup:IxR X (rIxT X.K):=by
 intro value slice pins s σ H x y v u Q I rx ry h hs
 obtain ⟨p,xs,i,z,rfl,rfl,hq,he,q⟩:=h
 cases rx
 obtain ⟨t,rfl⟩:=ry
 obtain ⟨its,r,pl,hz⟩:=I.tuple hq
 obtain ⟨j,h1,h2,h3,h4,h5⟩:=atI_get he
 obtain ⟨w,ew,rw'⟩:=r.get h2
 have hl:=r.length
 have hn:=line63
 have fin:EP X pins σ Q w s:=⟨z,H,I,rw',q⟩
 exact subscriptTail_builtinR (x:=w) pl.typeIs slot_tuple_getitem.lookup
  (getItem_tuple (j:=j) (Q:=fun r s'=>r=w∧EP X pins σ Q r s') pl (by omega) (by omega) (by rw [List.size_toArray,← hl]; exact h1) (by simpa using ew) ⟨rfl,fin⟩) hs
theorem mapSeq_set (its:List Value) (n j:Nat) (u:Value):Obj.mapSeq (·.setIfInBounds j u) { cls:=.type "list", data:=.seq its.toArray n }={ cls:=.type "list", data:=.seq (its.set j u).toArray n }:=by
 simp [Obj.mapSeq]
theorem Inv.lst {pins:List (Addr×Obj)} {σ:St} {H:Hp} {s:Shared} {p:Addr} {xs:List V} (I:Inv X pins σ H s) (h:H p=some (.lst xs)) :
  ∃ (its:List Value) (n:Nat),Vals xs its∧s.heap.get? p=some { cls:=.type "list", data:=.seq its.toArray n }∧xs.length≤sizeLine:=by
 obtain ⟨z,its,n,r,e⟩:=I.hok p _ h
 exact ⟨its,n,r,e,z⟩
theorem Inv.lstUpd {pins:List (Addr×Obj)} {σ:St} {H:Hp} {s:Shared} {p:Addr} {xs ys:List V} {its its':List Value} {n n':Nat} {f:Obj→Obj} (I:Inv X pins σ H s) (h:H p=some (.lst xs))
  (ho:s.heap.get? p=some { cls:=.type "list", data:=.seq its.toArray n }) (hf:f { cls:=.type "list", data:=.seq its.toArray n }={ cls:=.type "list", data:=.seq its'.toArray n' }) (r:Vals ys its') (hz:ys.length≤sizeLine) (t:Nat) :
  Inv X pins σ (upd H p (.lst ys)) { s with heap:=s.heap.update p f,toks:=t }:=by
 have e:(s.heap.update p f).get? p=some { cls:=.type "list", data:=.seq its'.toArray n' }:=by
  rw [Heap.get?_update_self f ho (by rw [hf] <;> rfl),hf]
 refine I.write (x:=p) (e:=p) (by rw [h]; trivial) (.inl rfl) (fun b u hb q=>(Heap.get?_update_other _ _ (Ne.symm hb)).trans q) ⟨_,e⟩ ?_
 exact ⟨hz,its',n',r,e⟩
def rSetL:V→V→V→Hp→(Hp→Prop)→Prop:=fun o i v H Q=>∃ p xs k j,o=.ref p∧i=.int k∧H p=some (.lst xs)∧ixN xs.length k=some j∧Q (upd H p (.lst (xs.set j v)))
theorem set_list:PSet X rSetL:=by
 intro pins s σ H o i v ov iv u Q I ro ri rv h
 obtain ⟨p,xs,k,j,rfl,rfl,hp,hj,q⟩:=h
 cases ro
 obtain ⟨t,rfl⟩:=ri
 obtain ⟨its,n,r,ho,hz⟩:=I.lst hp
 obtain ⟨h1,h2,h3,h4⟩:=ixN_seq hj
 have hl:=r.length
 have hn:=line63
 have I':Inv X pins σ (upd H p (.lst (xs.set j v))) { s with heap:=s.heap.update p (Obj.mapSeq (·.setIfInBounds j u)) } :=
  I.lstUpd hp ho (mapSeq_set its n j u) (r.set rv j) (by rw [List.length_set]; exact hz) s.toks
 by_cases h0:0≤k
 ·have hk:k.toNat=j:=by
   rw [seqIndex_of h0 h4] at h1
   exact Option.some.inj h1
  exact PySem.W.ki_setAt ho h0 (by omega) (by rw [List.size_toArray,← hl]; exact h4) (by rw [hk]; exact ⟨_,I',q⟩)
 ·have hk:(k + (its.toArray.size:Int)).toNat=j:=by
   rw [seqIndex_neg (by omega) h3] at h1
   rw [List.size_toArray,← hl]
   exact Option.some.inj h1
  exact PySem.W.ki_setBack ho (by omega) (by rw [List.size_toArray,← hl]; exact h3) (by omega) (by rw [hk]; exact ⟨_,I',q⟩)
theorem slice_bounds (lo hi:Option Int) (n:Nat):(sliceBounds lo hi none n).1=((HT.sIx n 0 lo:Nat):Int)∧(sliceBounds lo hi none n).2.1=((HT.sIx n n hi:Nat):Int)∧(sliceBounds lo hi none n).2.2=1:=by
 refine ⟨?_,?_,rfl⟩
 ·cases lo with
  | none=>simp [sliceBounds,HT.sIx]
  | some i =>
   simp only [sliceBounds,HT.sIx,Option.getD_none,show (1:Int) > 0 by decide,if_true]
   by_cases h:i < 0
   ·simp only [h,if_true] <;> omega
   ·simp only [h,if_false] <;> omega
 ·cases hi with
  | none=>simp [sliceBounds,HT.sIx]
  | some i =>
   simp only [sliceBounds,HT.sIx,Option.getD_none,show (1:Int) > 0 by decide,if_true]
   by_cases h:i < 0
   ·simp only [h,if_true] <;> omega
   ·simp only [h,if_false] <;> omega
theorem slicePick_cut (its:List Value) (lo hi:Option Int):slicePick its.toArray lo hi none=((its.drop (HT.sIx its.length 0 lo)).take (HT.sIx its.length its.length hi - HT.sIx its.length 0 lo)).toArray:=by
 obtain ⟨h1,h2,h3⟩:=slice_bounds lo hi its.toArray.size
 unfold slicePick
 rw [h1,h2,h3]
 simp only [sliceRange_one,pick_run,List.size_toArray] <;> rfl
def rSlL (K:PySem.W.Frag):V→Option Int→Option Int→Hp→VK→Prop:=fun x lo hi H Q=>∃ a xs,x=.ref a∧SqL K H a xs∧∀ p,H p=none→Q (.ref p) (upd H p (.lst (cutV xs lo hi)))
theorem sl_list:SlR X (rSlL X.K):=by
 intro pins s σ H x v vl vu lo hi sl Q I rx hs pl pu h
 obtain ⟨a,xs,rfl,hx,q⟩:=h
 cases rx
 obtain ⟨its,r,ht,hz⟩:=I.list hx
 have hlen:=r.length
 refine ⟨"list", _,slot_list_getitem.lookup,ht.isList.typeIs,?_⟩
 refine wpAny_getItem_list_slice ht.isList hs pl pu .none (by simp) ?_ (by rw [List.size_toArray] <;> omega)
 rw [slicePick_cut,← hlen]
 refine ⟨.ref s.heap.objs.size,_,I.laid (t':=s.toks) (o:=.lst (cutV xs lo hi)) (fun b ob q=>Heap.get?_push_of_some _ q) (Nat.le_refl _) ?_,rfl,q _ (I.hok.fresh (Nat.le_refl _))⟩
 exact ⟨Nat.le_trans (cutV_length xs lo hi) hz,_,0,(r.drop (HT.sIx xs.length 0 lo)).take (HT.sIx xs.length xs.length hi - HT.sIx xs.length 0 lo),Heap.get?_push_size _ rfl⟩
theorem call_len_seq:CallR X (.builtin "len") (fun xs H Q=>∃ p ys,xs=[.ref p]∧(SqL X.K H p ys∨SqT X.K H p ys)∧Q (.int ys.length) H):=by
 intro pins s σ H xs us Q I r h
 obtain ⟨p,ys,rfl,hq,q⟩:=h
 obtain ⟨u,rfl,rx⟩:=vals1 r
 cases rx
 have hn:=line63
 rcases hq with hq | hq
 ·obtain ⟨its,r',pl,hz⟩:=I.list hq
  have hlen:=r'.length
  exact Calls.call_len_list pl.isList (by simp only [List.size_toArray] <;> omega) ⟨.int ys.length,H,I.tok _,⟨s.toks + 1,by rw [List.size_toArray,hlen]⟩,q⟩
 ·obtain ⟨its,r',pl,hz⟩:=I.tuple hq
  have hlen:=r'.length
  exact len_tuple pl (by simp only [List.size_toArray] <;> omega) ⟨.int ys.length,H,I.tok _,⟨s.toks + 1,by rw [List.size_toArray,hlen]⟩,q⟩
theorem call_list_of:CallR X (.type "list") (fun xs H Q=>∃ p ys,xs=[.ref p]∧(SqL X.K H p ys∨SqT X.K H p ys)∧∀ l,H l=none→Q (.ref l) (upd H l (.lst ys))):=by
 intro pins s σ H xs us Q I r h
 obtain ⟨p,ys,rfl,hq,q⟩:=h
 obtain ⟨u,rfl,rx⟩:=vals1 r
 cases rx
 have fin:∀ (its:List Value),Vals ys its→ys.length≤sizeLine→∀ (h':Heap) (c':Nat),(∀ b o',s.heap.get? b=some o'→h'.get? b=some o') →
   h'.get? s.heap.objs.size=some { cls:=.type "list", dict:=none,data:=.seq its.toArray c',slots := #[] }→EP X pins σ Q (.ref s.heap.objs.size) { s with heap:=h' }:=fun its r' hz h' c' kp e =>
  ⟨.ref s.heap.objs.size,_,I.laid (t':=s.toks) kp (Nat.le_refl _) (show ObjOk X.prog X.w _ h' _ (.lst ys) from ⟨hz,its,c',r',e⟩),rfl,q _ (I.hok.fresh (Nat.le_refl _))⟩
 rcases hq with hq | hq
 ·obtain ⟨its,r',pl,hz⟩:=I.list hq
  have hlen:=r'.length
  obtain ⟨o,ho,hc,n,hd⟩:=pl.isList
  exact call_list_seq p (.inl rfl) ho hc hd (fun h' c' kp e=>fin its r' hz h' c' kp e) (by simp only [List.size_toArray] <;> omega)
 ·obtain ⟨its,r',pl,hz⟩:=I.tuple hq
  have hlen:=r'.length
  obtain ⟨o,ho,hc,n,hd⟩:=pl
  exact call_list_seq p (.inr rfl) ho hc hd (fun h' c' kp e=>fin its r' hz h' c' kp e) (by simp only [List.size_toArray] <;> omega)
def tyV (K:PySem.W.Frag) (T:String) (x:V) (H:Hp):Prop:=match x with
 | .str _=>T = "str"
 | .int _=>T = "int"
 | .ref p=>(T = "list" ∧ ∃ xs,SqL K H p xs)∨(T = "tuple" ∧ ∃ o,K.lookup p=some o∧o.cls=.type "tuple" ∧ o.dict=none) ∨
   (T = "dict" ∧ ((∃ kvs,H p=some (.dK kvs))∨∃ kvs,H p=some (.dT kvs)))∨(T = "set" ∧ ∃ S n,H p=some (.set S n))
 | _=>False
theorem tyV_is {pins:List (Addr×Obj)} {σ:St} {H:Hp} {s:Shared} {T:String} {x:V} {v:Value} (I:Inv X pins σ H s) (r:RelV x v) (ty:tyV X.K T x H) :
  s.TypeIs v T∧∀ a,v=.ref a→∃ ob,s.heap.get? a=some ob∧ob.dict=none:=by
 cases x with
 | str z =>
  obtain ⟨t,rfl⟩:=r
  cases (show T = "str" from ty)
  exact ⟨typeIs_str s z t,fun _ e=>nomatch e⟩
 | int i =>
  obtain ⟨t,rfl⟩:=r
  cases (show T = "int" from ty)
  exact ⟨typeIs_int s i t,fun _ e=>nomatch e⟩
 | ref p =>
  cases r
  rcases ty with ⟨rfl,xs,hq⟩ | ⟨rfl,o,hk,hc,hd⟩ | ⟨rfl,hk⟩ | ⟨rfl,S,n,hk⟩
  ·obtain ⟨its,_,pl,_⟩:=I.list hq
   refine ⟨pl.isList.typeIs,fun a e=>?_⟩
   cases e
   obtain ⟨o,n,e,c,hd,_⟩:=pl
   exact ⟨o,e,hd⟩
  ·refine ⟨⟨o,I.kIn p o hk,hc⟩,fun a e=>?_⟩
   cases e
   exact ⟨o,I.kIn _ o hk,hd⟩
  ·have z:∃ o,s.heap.get? p=some o∧o.ExactDict:=by
    rcases hk with ⟨kvs,hk⟩ | ⟨kvs,hk⟩
    ·obtain ⟨_,_,_,_,o,_,_,e,ex,_⟩:=I.hok p _ hk
     exact ⟨o,e,ex⟩
    ·obtain ⟨_,_,_,_,o,_,_,e,ex,_⟩:=I.hok p _ hk
     exact ⟨o,e,ex⟩
   obtain ⟨o,e,ex⟩:=z
   refine ⟨⟨o,e,ex.1⟩,fun a e2=>?_⟩
   cases e2
   exact ⟨o,e,ex.2.1⟩
  ·obtain ⟨o,_,_,_,e,ex,_⟩:=I.hok p _ hk
   refine ⟨⟨o,e,ex.1⟩,fun a e2=>?_⟩
   cases e2
   exact ⟨o,e,ex.2.1⟩
 | _=>exact False.elim ty
def tBM0 (K:PySem.W.Frag) (T:String) (r:V→List V→Hp→VK→Prop) (to:TE):TE:=fun σ H Q=>to σ H fun x H1=>tyV K T x H1∧r x [] H1 Q
def tBM (K:PySem.W.Frag) (T:String) (r:V→List V→Hp→VK→Prop) (to:TE) (t:TA):TE:=fun σ H Q=>to σ H fun x H1=>tyV K T x H1∧t σ H1 fun xs H2=>r x xs H2 Q
variable {o e:Expr} {es:List Expr} {to:TE} {t:TA} {name:Str} {apos cpos:Pos} {T id:String} {r:V→List V→Hp→VK→Prop}
theorem pe_bm0 (pa:PlainAttrs T) (slot:Slot T name id) (hty:typeOf (.builtin id)=pure (.type "method_descriptor")) (hm:MtR X id r) (ho:PE X o to)
  (hbase:attributeBase o name X.env (eval o X.env)=eval o X.env:=by rfl) (hline:(apos.endLine == cpos.line)=true:=by rfl):PE X (.Call (.Attribute o name apos) [] [] cpos) (tBM0 X.K T r to):=by
 intro pins s σ H Q I h
 refine wpAny_Call_method0_late hbase hline (thn (ho pins s σ H _ I h) fun v s1 ⟨x,H1,I1,r1,ty,q1⟩=>?_)
 obtain ⟨h1,h2⟩:=tyV_is I1 r1 ty
 exact ⟨T,id,pa,slot,hty,h1,h2,Calls.callWith_builtin rfl (PySem.evalArgs_none (hm pins s1 σ H1 x [] v [] Q I1 r1 .nil q1))⟩
theorem pe_bm (pa:PlainAttrs T) (slot:Slot T name id) (hty:typeOf (.builtin id)=pure (.type "method_descriptor")) (hm:MtR X id r) (ho:PE X o to) (ha:PA X (e :: es) t)
  (hbase:attributeBase o name X.env (eval o X.env)=eval o X.env:=by rfl)
  (hfew:((backTo cpos (starEach (e :: es) X.env)).all (fun x => !x.1) && (backToKw cpos (keywordEach [] X.env)).all (fun x=>x.1.isSome)
   && decide ((e :: es).length + ([]:List Keyword).length + (if ([]:List Keyword).isEmpty then 0 else 1) < 30))=true:=by rfl)
  (hline:(apos.endLine == cpos.line)=true:=by rfl) (hs:starEach (e :: es) X.env=(false,eval e X.env) :: starEach es X.env:=by rfl) (hplain:(backTo cpos (starEach es X.env)).any (·.1)=false:=by rfl) :
  PE X (.Call (.Attribute o name apos) (e :: es) [] cpos) (tBM X.K T r to t):=by
 intro pins s σ H Q I h
 refine wpAny_Call_method_late hbase hfew hline rfl (thn (ho pins s σ H _ I h) fun v s1 ⟨x,H1,I1,r1,ty,q1⟩=>?_)
 obtain ⟨h1,h2⟩:=tyV_is I1 r1 ty
 refine ⟨T,id,pa,slot,hty,h1,h2,?_⟩
 have hA:=ha cpos pins s1 σ H1 _ I1 q1
 rw [hs] at hA ⊢
 refine Calls.callWith_builtin (by show (false || (backTo cpos (starEach es X.env)).any (·.1))=false; rw [hplain] <;> rfl) (Calls.evalArgs_plain ?_)
 exact thn hA fun us s2 ⟨vs,H2,I2,r2,q2⟩=>hm pins s2 σ H2 x vs v us Q I2 r1 r2 q2
end
end L2
namespace L2
open PySem PySem.Spec PyProof.Rows
def MtM (X:Cx) (id:String) (r:V→List V→Hp→VK→Prop):Prop :=
 ∀ (pins:List (Addr×Obj)) (s:Shared) (σ:St) (H:Hp) (x:V) (xs:List V) (v:Value) (us:List Value) (Q:VK),Inv X pins σ H s→RelV x v→Vals xs us→r x xs H Q →
  wpAny (model X.prog X.w) X.A (call (.builtin id) (v :: us)) (EP X pins σ Q) X.xe s
theorem Vals.one:∀ {x:V} {us:List Value},Vals [x] us→∃ u,us=[u]∧RelV x u
 | _,_,.cons r .nil=>⟨_,rfl,r⟩
theorem Vals.two:∀ {x y:V} {us:List Value},Vals [x,y] us→∃ u v,us=[u,v]∧RelV x u∧RelV y v
 | _,_,_,.cons r (.cons q .nil)=>⟨_,_,rfl,r,q⟩
theorem Vals.zero:∀ {us:List Value},Vals [] us→us=[]
 | _,.nil=>rfl
theorem Vals.reverse {xs:List V} {us:List Value} (h:Vals xs us):Vals xs.reverse us.reverse:=by
 induction h with
 | nil=>exact .nil
 | cons r t ih=>rw [List.reverse_cons,List.reverse_cons]; exact Vals.append ih (.cons r .nil)
section
variable {X:Cx} {pins:List (Addr×Obj)} {σ:St} {H:Hp} {s:Shared} {l b:Addr} {xs ys zs:List V}
theorem Inv.lset {its its':List Value} {n:Nat} {f:Array Value→Array Value} {t':Nat} (I:Inv X pins σ H s) (hH:H l=some (.lst xs))
  (e:s.heap.get? l=some { cls:=.type "list", data:=.seq its.toArray n }) (hf:f its.toArray=its'.toArray) (hv:Vals ys its') (hz:ys.length≤sizeLine) :
  Inv X pins σ (upd H l (.lst ys)) { s with heap:=s.heap.update l (Obj.mapSeq f),toks:=t' }:=by
 have q:=PySem.IsL.update e f
 rw [hf] at q
 refine I.write (x:=l) (e:=l) (by rw [hH]; exact trivial) (.inl rfl) (fun b' u hb hu=>(Heap.get?_update_other s.heap (Obj.mapSeq f) (Ne.symm hb)).trans hu) ⟨_,q⟩ ?_
 exact ⟨hz,its',_,hv,q⟩
theorem Inv.lnew {its:List Value} {t':Nat} (I:Inv X pins σ H s) (hv:Vals ys its) (hz:ys.length≤sizeLine) :
  Inv X pins σ (upd H s.heap.objs.size (.lst ys)) { s with heap:=s.heap.push { cls:=.type "list", data:=.seq its.toArray },toks:=t' } :=
 I.laid (fun _ _ q=>Heap.get?_push_of_some _ q) (Nat.le_refl _) ⟨hz,its,0,hv,Heap.get?_push_size _ rfl⟩
theorem Inv.fresh (I:Inv X pins σ H s):H s.heap.objs.size=none:=I.hok.fresh (Nat.le_refl _)
theorem Inv.lstM (I:Inv X pins σ H s) (hH:H l=some (.lst xs)):xs.length≤sizeLine∧∃ (its:List Value) (n:Nat),Vals xs its∧xs.length=its.length∧s.heap.get? l=some { cls:=.type "list", data:=.seq its.toArray n }:=by
 obtain ⟨z,its,n,r,e⟩:=I.hok l _ hH
 exact ⟨z,its,n,r,r.length,e⟩
end
section
variable {X:Cx}
def rAppend:V→List V→Hp→VK→Prop:=fun x vs H Q=>∃ l xs y,x=.ref l∧vs=[y]∧H l=some (.lst xs)∧xs.length < sizeLine∧Q .non (upd H l (.lst (xs ++ [y])))
theorem mt_append:MtM X "list.append" rAppend:=by
 intro pins s σ H x vs v us Q I rx rv h
 obtain ⟨l,xs,y,rfl,rfl,hH,hz,q⟩:=h
 cases rx
 obtain ⟨u,rfl,ru⟩:=rv.one
 obtain ⟨z,its,n,r,hl,e⟩:=I.lstM hH
 refine call_meets F.slot_list_append ⟨_,e,rfl⟩ F.entry_list_append (F.args_list_append_2 _ _) (PySem.list_append l its.toArray n u (by rw [List.size_toArray]; omega)) ⟨e,?_⟩
 refine ⟨.non,_,I.lset (its':=its ++ [u]) hH e (by simp) (r.append (.cons ru .nil)) ?_,rfl,q⟩
 rw [List.length_append,List.length_singleton]
 omega
def rClear:V→List V→Hp→VK→Prop:=fun x vs H Q=>∃ l xs,x=.ref l∧vs=[]∧H l=some (.lst xs)∧Q .non (upd H l (.lst []))
theorem mt_clear:MtM X "list.clear" rClear:=by
 intro pins s σ H x vs v us Q I rx rv h
 obtain ⟨l,xs,rfl,rfl,hH,q⟩:=h
 cases rx
 have hus:=rv.zero
 subst hus
 obtain ⟨z,its,n,r,hl,e⟩:=I.lstM hH
 refine call_meets F.slot_list_clear ⟨_,e,rfl⟩ F.entry_list_clear (F.args_list_clear_1 _) (AutoSeq1.list_clear_list_0 l its.toArray n (by rw [List.size_toArray]; omega)) ⟨e,?_⟩
 exact ⟨.non,_,I.lset (its':=[]) (ys:=[]) hH e rfl .nil (Nat.zero_le _),rfl,q⟩
def rCat:R2:=fun x y H Q=>∃ l b xs zs,x=.ref l∧y=.ref b∧H l=some (.lst xs)∧H b=some (.lst zs)∧xs.length + zs.length≤sizeLine∧∀ p,H p=none→Q (.ref p) (upd H p (.lst (xs ++ zs)))
theorem op_cat:OpR X (binaryOp .Add) rCat:=by
 intro pins s σ H x y v u Q I rx ry h
 obtain ⟨l,b,xs,zs,rfl,rfl,hH,hB,hz,q⟩:=h
 cases rx
 cases ry
 obtain ⟨z,its,n,r,hl,e⟩:=I.lstM hH
 obtain ⟨z2,its2,n2,r2,hl2,e2⟩:=I.lstM hB
 refine PySem.P.add_list e e2 ?_ (by rw [List.size_toArray,List.size_toArray]; omega)
 have ea:its.toArray ++ its2.toArray=(its ++ its2).toArray:=by simp
 rw [ea]
 exact ⟨.ref _,_,I.lnew (t':=s.toks) (r.append r2) (by rw [List.length_append]; omega),rfl,q _ I.fresh⟩
end
section
variable {prog:Program} {w:World} {A:Around} {E:Value→Shared→Prop} {s:Shared}
set_option maxRecDepth 100000 in
end
section
variable {X:Cx}
end
end L2
namespace Att
open PySem PySem.W PySem.Calls PyProof.Rows
theorem ints_of_wellAll {P:Params} {h:Heap}:∀ (ns:List Int) (vs:List Value),WellAll P h vs (ns.map WData.int)→IntsAre vs ns:=by
 intro ns
 induction ns with
 | nil =>
  intro vs w
  rw [List.map_nil] at w
  cases w
  exact .nil
 | cons n ns ih =>
  intro vs w
  rw [List.map_cons] at w
  cases w with
  | cons a b =>
   cases a
   exact .cons _ _ (ih _ b)
theorem script_of {l:OpenLaw} {n:Nat} (hn:l.most=some n) {P:Params} {h:Heap} {args:List WData} {vals:List Value}
  (hpre:l.row.toRowW.claim.pre args=true) (hwl:WellAll P h vals args) :
  ∃ a vs ns,vals=[Value.ref a]∧args=[WData.list (ns.map WData.int)]∧h.get? a=some { cls:=.type "list", data:=.seq vs.toArray }∧IntsAre vs ns∧ns.length≤n:=by
 have hsh:WShape.hasAll [] args [.list .int]=true:=(pre_splitW hpre).1
 have hc:l.pre.holds [] { args:=args }=true:=(pre_splitW hpre).2
 obtain ⟨d,r,rfl,h1,h2⟩:=hasAllW_cons hsh
 obtain rfl:=hasAllW_nil h2
 obtain ⟨xs,rfl,h3⟩:=hasW_list h1
 obtain ⟨ns,rfl⟩:=items_int h3
 have hlen:ns.length≤n:=by
  unfold OpenLaw.pre at hc
  have h4:(WTm.not (.lt (.lit (.int (n:Int))) (.len (.arg 0)))).holds [] { args:=[.list (ns.map .int)] }=true:=by
   have h4:=(holds_andW hc).1
   rw [hn] at h4
   exact h4
  have h5:=condW_of h4 (w_not (w_lt w_lit (w_len_list (w_arg rfl))))
  rw [List.length_map] at h5
  refine Nat.le_of_not_lt fun q=>?_
  have q':(n:Int) < ((ns.length:Nat):Int):=by omega
  first
   | (rw [decide_eq_true q'] at h5; exact absurd h5 (by decide))
   | (simp at h5; omega)
 cases hwl with
 | cons w1 w2 =>
  cases w2
  cases w1 with
  | list ho hall=>exact ⟨_,_,ns,rfl,rfl,ho,ints_of_wellAll ns _ hall,hlen⟩
theorem post_true (l:OpenLaw) (args:List WData):l.row.toRowW.claim.post args (.bool true) args=true :=
 postW_of (r:=l.row.toRowW) (X:=(true == true))
  (show WShape.has [] (.bool true) .bool=true by first | rfl | decide | simp [WShape.has,WShape.arms,WShape.armsAll])
  (show (WTm.eq .res (.lit (.bool true))).value [] { args:=args,res:=some (.bool true),after:=args }=some (.bool (true == true)) from w_eq_bool (w_res rfl) w_lit) rfl
theorem attach_call {l:OpenLaw} {n:Nat} {q:Program} {loose:List Str} {XP:(Str→Option Value)→Heap→Prop} {YP:World→Heap→Prop} {d:DefRec}
  (hn:l.most=some n) (hdf:d.params.defaults=[])
  (call:∀ (w:World) (s₀ s₁:Shared) (mg mb:Str→Option Value) (fa:Addr) (o:Obj) (pm cd doc:Value) (a:Addr) (vs:List Value) (ns:List Int),
   Ground q loose [] XP w s₀ mg mb s₁.heap→YP w s₁.heap →
   s₁.heap.get? fa=some o→o.data=.func (docDef d.name d.params d.body d.scope pm cd doc)→s₁.heap.CodeRec cd d.name→mg d.name=some (.ref fa) →
   s₁.heap.get? a=some { cls:=.type "list", data:=.seq vs.toArray }→IntsAre vs ns→ns.length≤n→s₁.gens = #[] →
   codeAny (model l.prog w) callerA (.call (.ref fa) ⟨[.ref a],[]⟩) (fun r s'=>r=.ok (.ret (.bool true))∧OldK s₁.heap s'.heap∧s'.os=s₁.os∧AllBare s'.gens) s₁) :
  WalkO q loose XP YP l.row.toRowW d [] (fun f vs=>PySem.call f vs):=by
 intro w s₀ s₁ mg mb G Y fa o pm cd doc dV kV ho hd hcd hD hmg hg args vals as hpre hlay hrd hwl hlo
 obtain rfl:dV=.none:=Dflts.none hD hdf
 obtain rfl:kV=.none:=Dflts.noKw hD
 obtain ⟨a,vs,ns,rfl,rfl,hobj,hints,hlen⟩:=script_of hn hpre hwl
 refine enter_call (codeAny_mono (call w s₀ s₁ mg mb fa o pm cd doc a vs ns G Y ho (fd_plain hd) hcd hmg hobj hints hlen hg) fun r s' hq=>?_)
 obtain ⟨rfl,h2,h3,h4⟩:=hq
 exact ⟨.inl ⟨.bool true,.bool true,[],rfl,fun _=>rfl,.bool true,post_true l _,fun _=>⟨List.Pairwise.nil,fun _ hm=>(nomatch hm)⟩⟩,h2,h3,h4⟩
section
variable {prog:Program} {w:World} {A:Around} {E:Value→Shared→Prop} {s:Shared} {K:Frag}
end
end Att
namespace L2
open PySem PySem.Spec PyProof.Rows
theorem vals_ints:∀ {vs:List Value} {ns:List Int},IntsAre vs ns→Vals (ns.map V.int) vs
 | _,_,.nil=>.nil
 | _,_,.cons n t h=>.cons ⟨t,rfl⟩ (vals_ints h)
def Only (H:Hp):Prop:=∀ b,H b=none∨∃ o xs,H b=some (.frz o (.lst xs))
theorem law_call {P:Program} {w:World} {K:PySem.W.Frag} {mg mb:Str→Option Value} {CX:CXT} {k:Nat} {fa a:Addr} {fd:FuncData} {x:Str} {sp:Sp} {s₁:Shared} {vs:List Value} {ns:List Int}
  (KX:K.In s₁.heap) (hns:s₁.heap.Ns mainGlobals mg) (hb:s₁.heap.Ns builtinsNs mb) (hbb:∀ x:Str,x ≠ "__name__" → mb x=bootBuiltins x) (hlim:s₁.heap.NoLimit) (hg:s₁.gens = #[])
  (ha:s₁.heap.get? a=some { cls:=.type "list", data:=.seq vs.toArray }) (hi:IntsAre vs ns) (hl:ns.length≤sizeLine) (hr:Room k callerA)
  (F:∀ base:Heap,K.In base→base.Ns mainGlobals mg→FnOk P w K mg base CX k fa fd [x] sp) (hbind:∀ (s:Shared) (u:Value),BindsTo s fd ⟨[u],[]⟩ [(x,u)])
  (hsp:∀ H:Hp,Only H→SqL K H a (ns.map V.int)→sp [.ref a] H (fun v _=>v=.bl true) fun _ _ _=>False)
  (hCX:∀ H e s',CX [] H s₁ (fun _ _ _=>False) e s'→False) :
  codeAny (model P w) callerA (.call (.ref fa) ⟨[.ref a],[]⟩) (fun r s'=>r=.ok (.ret (.bool true))∧OldK s₁.heap s'.heap∧s'.os=s₁.os∧AllBare s'.gens) s₁:=by
 have rv:=vals_ints hi
 have lenV:=hi.length
 have core:∀ H:Hp,Only H→SqL K H a (ns.map V.int)→HOk P w H s₁.heap→(∀ b,H b≠none→b=a)→(H a≠none→K.lookup a=none) →
   codeAny (model P w) callerA (.call (.ref fa) ⟨[.ref a],[]⟩) (fun r s'=>r=.ok (.ret (.bool true))∧OldK s₁.heap s'.heap∧s'.os=s₁.os∧AllBare s'.gens) s₁:=by
  intro H hO hS hok hA hK
  have base_of:∀ {b:Addr} {o:Obj},s₁.heap.get? b=some o→H b=none→(hidT s₁.heap H).get? b=some o:=fun e n=>hidT_get e n
  have noA:∀ {b:Addr} {o:Obj} {es:Array DictEntry} {ep:Nat},s₁.heap.get? b=some o→o.data=.dict es ep→H b=none:=fun {b o es ep} e d=>by
   cases q:H b with
   | none=>rfl
   | some u =>
    have e':b=a:=hA b (by rw [q]; simp)
    subst e'
    rw [ha] at e; cases e
    have d':Data.seq vs.toArray _=Data.dict es ep:=d
    cases d'
  have nsK:∀ {b:Addr} {m:Str→Option Value},s₁.heap.Ns b m→(hidT s₁.heap H).Ns b m:=fun {b m} ⟨o,es,ep,e,d,r⟩=>⟨o,es,ep,base_of e (noA e d),d,r⟩
  have hKb:K.In (hidT s₁.heap H):=fun b o e=>base_of (KX b o e) (by
   cases q:H b with
   | none=>rfl
   | some u =>
    have e':b=a:=hA b (by rw [q]; simp)
    subst e'
    rw [hK (by rw [q]; simp)] at e; cases e)
  have hM:Mod K mg (hidT s₁.heap H):=⟨hKb,nsK hns,⟨mb,nsK hb,hbb⟩,let ⟨mc,h1,h2⟩:=hlim; ⟨mc,nsK h1,h2⟩⟩
  have e0:Env0 P w K mg (hidT s₁.heap H) callerA [] s₁ H:=⟨rfl,hM,fun b o e=>of_hidT e,Nat.le_of_eq (hidT_size _ _),trivial,fun b hb=>absurd (show b∈([]:List Addr) from hb) (by simp),hok,.of_eq hg⟩
  refine codeAny_mono ((F _ hKb (nsK hns)).run callerA [] s₁ H ⟨[.ref a],[]⟩ [.ref a] [.ref a] _ _ hr e0 (hbind s₁ (.ref a)) (.cons rfl .nil) (hsp H hO hS)) fun r s' h=>?_
  cases r with
  | error e=>exact (hCX H e s' h).elim
  | ok fl =>
   cases fl with
   | next=>exact False.elim h
   | brk=>exact False.elim h
   | cont=>exact False.elim h
   | ret u =>
    obtain ⟨v,H',os,bare,un,hok',r',q⟩:=h
    have q':v=.bl true:=q
    subst q'
    obtain rfl:u=Value.bool true:=r'
    refine ⟨rfl,OldK.of_keep fun b o e=>?_,os,bare⟩
    cases q:H b with
    | none=>exact un.keep b o e q (by intro z; exact absurd (show b∈([]:List Addr) from z) (by simp)) (by simp)
    | some u =>
     rcases hO b with z | ⟨ob,xs,z⟩
     ·rw [q] at z; cases z
     ·have z2:=un.frzs b ob _ z
      obtain ⟨e1,_⟩:=hok b _ z
      obtain ⟨e2,_⟩:=hok' b _ z2
      rw [e] at e1; cases e1
      exact e2
 cases hk:K.lookup a with
 | some o =>
  have e:=KX a o hk
  rw [ha] at e
  cases e
  refine core (fun _=>none) (fun _=>.inl rfl) (.inr ⟨_,vs.toArray,_,hk,rfl,rfl,rfl,by rw [List.size_toArray,lenV]; exact hl,by simpa using rv⟩) (fun b u z=>by have z':(none:Option HO)=some u:=z; cases z') (fun b z=>absurd rfl z) fun z=>absurd rfl z
 | none =>
  refine core (fun b=>if b=a then some (.frz { cls:=.type "list", data:=.seq vs.toArray } (.lst (ns.map V.int))) else none) (fun b=>?_) (.inl (.inr ⟨{ cls:=.type "list", data:=.seq vs.toArray },if_pos rfl⟩)) (fun b u z=>?_) (fun b z=>?_) fun _=>hk
  ·by_cases hb:b=a
   ·exact .inr ⟨_,_,if_pos hb⟩
   ·exact .inl (if_neg hb)
  ·by_cases hb:b=a
   ·have z':=(if_pos hb).symm.trans z
    cases z'
    subst hb
    exact ⟨ha,by rw [List.length_map]; exact hl,vs,_,rv,ha⟩
   ·have z':=(if_neg hb).symm.trans z
    cases z'
  ·by_cases hb:b=a
   ·exact hb
   ·exact absurd (if_neg hb) z
end L2
namespace L2
open PySem PySem.Spec PyProof.Rows
end L2
namespace L2
open PySem PySem.Spec PyProof.Rows
def defArgs (s:Stmt):Arguments:=match s with
 | .FunctionDef _ a _ _ _ _ _ _ _ _=>a
 | _=>{ posonlyargs:=[],args:=[],vararg:=none,kwonlyargs:=[],kw_defaults:=[],kwarg:=none,defaults:=[] }
def defBody (s:Stmt):List Stmt:=match s with
 | .FunctionDef _ _ b _ _ _ _ _ _ _=>b
 | _=>[]
def defScope (s:Stmt):Scope:=match s with
 | .FunctionDef _ _ _ _ _ _ sc _ _ _=>sc
 | _=>{ kind:=.function,names:=[],isGenerator:=false,isCoroutine:=false }
abbrev CX0:CXT:=fun _ _ _ _ _ _=>False
abbrev E0:XK:=fun _ _ _=>False
theorem pass0 {X:Cx}:Passes CX0 X E0:=fun _ _ _ _ _ _ _ h=>h.elim
structure Fun (K:PySem.W.Frag) (x qual:Str) (st:Stmt) (f:Addr) (fd:FuncData):Prop where
 ex:∃ (oc:Value) (od:Option Addr) (kV doc pm:Value) (an:Option Addr) (cdv ct:Value) (osl:Array (Option Value)),
  fd=PySem.W.fnOf x qual (defArgs st) (defBody st) (defScope st) .none kV doc pm an cdv ct∧K.lookup f=some ⟨oc,od,.func fd,osl⟩∧PySem.W.codeIn K cdv qual=true
 kp:PySem.W.keepIn K (.ref f)=true
section
variable {P:Program} {w:World} {K:PySem.W.Frag} {mg:Str→Option Value} {base:Heap}
theorem Fun.ok {x qual:Str} {st:Stmt} {f:Addr} {fd:FuncData} {N ps:List Str} {k:Nat} {sp:Sp} (F:Fun K x qual st f fd) (S:FnScope N ps (defScope st)) (len:∀ vs H Q E,sp vs H Q E→vs.length=ps.length)
  (hbody:∀ (cdv:Value) (A:Around) (outer:List Env) (s:Shared) (H:Hp) (vs:List V) (Q:VK) (E:XK),Room k (A.deeper (envOfC qual (defScope st) s.heap.objs.size f cdv))→sp vs H Q E →
   ∃ t,PSs (cxOf CX0 P w K mg base N qual (defScope st) f cdv A outer s H E).nox (defBody st) t∧t { nx:=fun _ H'=>Q .non H',rt:=Q } (start N vs) H):FnOk P w K mg base CX0 (k + 1) f fd ps sp:=by
 obtain ⟨oc,od,kV,doc,pm,an,cdv,ct,osl,rfl,lk,hcd⟩:=F.ex
 refine fn_of lk hcd S len fun A outer s H vs Q E hr hsp=>?_
 obtain ⟨t,h,q⟩:=hbody cdv A outer s H vs Q E hr hsp
 exact ⟨t,h.nox,q⟩
theorem Fun.binds {x qual:Str} {st:Stmt} {f:Addr} {fd:FuncData} {ps:List Str} (F:Fun K x qual st f fd)
  (h:∀ (kV doc pm:Value) (an:Option Addr) (cdv ct:Value) (us:List Value),us.length=ps.length→bindArgs (PySem.W.fnOf x qual (defArgs st) (defBody st) (defScope st) .none kV doc pm an cdv ct) ⟨us,[]⟩=pure (ps.zip us)):Binds K fd ps []:=by
 obtain ⟨oc,od,kV,doc,pm,an,cdv,ct,osl,rfl,lk,hcd⟩:=F.ex
 exact .all (h kV doc pm an cdv ct)
theorem fun_mk {x qual:Str} {st:Stmt} {f:Addr} {oc:Value} {od an:Option Addr} {osl:Array (Option Value)} {kV doc pm cdv ct:Value} (l:K.lookup f=some ⟨oc,od,.func (PySem.W.fnOf x qual (defArgs st) (defBody st) (defScope st) .none kV doc pm an cdv ct),osl⟩)
  (c:PySem.W.codeIn K cdv qual=true) (k:PySem.W.keepIn K (.ref f)=true):Fun K x qual st f (PySem.W.fnOf x qual (defArgs st) (defBody st) (defScope st) .none kV doc pm an cdv ct):=⟨⟨oc,od,kV,doc,pm,an,cdv,ct,osl,rfl,l,c⟩,k⟩
end
section
variable {X:Cx}
theorem pv (i:Nat) {x:Str} {pos:Pos} (hN:X.N[i]?=some x:=by rfl) (hv:Vis X.env.scope x:=by first | exact Or.inl rfl | exact Or.inr (Or.inl rfl) | exact Or.inr (Or.inr rfl)) (hd:(x == ("__debug__" : Str))=false:=by decide)
  (hcd:(x == ("__classdict__" : Str))=false:=by decide):PE X (.Name x pos) (tVar i):=pe_var hN hv hd hcd
end
theorem iteF {A B:Prop} (h:B):if false=true then A else B:=by
 rw [if_neg Bool.false_ne_true]
 exact h
theorem iteT {A B:Prop} (h:A):if true=true then A else B:=by
 rw [if_pos rfl]
 exact h
def Same (H H':Hp):Prop:=∀ b o,H b=some o→H' b=some o
theorem Same.refl (H:Hp):Same H H:=fun _ _ h=>h
theorem Same.trans {H H1 H2:Hp} (a:Same H H1) (b:Same H1 H2):Same H H2:=fun c o h=>b c o (a c o h)
theorem Same.free {H H':Hp} (e:Same H H') {l:Addr} (h:H' l=Option.none):H l=Option.none:=by
 cases q:H l with
 | none=>rfl
 | some o =>
  rw [e l o q] at h
  cases h
theorem Same.seq {K:PySem.W.Frag} {H H':Hp} {a:Addr} {xs:List V} (e:Same H H') (h:SqL K H a xs):SqL K H' a xs:=by
 rcases h with (h | ⟨o,h⟩) | h
 ·exact .inl (.inl (e _ _ h))
 ·exact .inl (.inr ⟨o,e _ _ h⟩)
 ·exact .inr h
end L2
set_option maxHeartbeats 4000000
namespace L2
open PySem PySem.Spec PyProof.Rows
open PySem.Builtin.Int (intBits)
def CMulB (i j:Int):Prop:=intBits i≤9000∧intBits j≤9000
def CDivB (_ j:Int):Prop:=j≠0∧intBits j≤9000
theorem noPy_bits {x y:Int} (h:intBits y≤9000):Builtin.divisionGoesByPylong x y=false:=by
 by_cases h0:y=0
 ·subst h0; exact PyProof.noPylong_small (by decide)
 ·refine PyProof.noPylong_of_log2 ?_
  have q:=intBits_le_iff.mp h
  have hn:y.natAbs≠0:=by omega
  exact (Nat.log2_lt hn).mpr q
section
variable {X:Cx} {a b:Expr} {ta tb:TE} {pos:Pos}
theorem op_mulB:OpR X (binaryOp .Mult) (rI CMulB fun i j=>.int (i * j)):=opI fun _ _ _ _ _ _ _ hc q=>mul_int q (IntMulOk.of_le hc.1 hc.2 (by decide))
theorem op_fdivB:OpR X (binaryOp .FloorDiv) (rI CDivB fun i j=>.int (i.fdiv j)):=opI fun _ _ _ _ _ _ _ hc q=>floordiv_int hc.1 q (.inl (noPy_bits hc.2))
theorem op_eqI:OpR X (compareOp .Eq) (rI0 fun i j=>.bl (decide (i=j))):=opB0 fun _ _ _ _ _ _ _ q=>eq_int (by rw [Bool.beq_eq_decide_eq]; exact q)
theorem op_neI:OpR X (compareOp .NotEq) (rI0 fun i j=>.bl (!decide (i=j))):=opB0 fun _ _ _ _ _ _ _ q=>ne_int (by rw [bne,Bool.beq_eq_decide_eq]; exact q)
def ItsAt (H:Hp) (p:Addr) (xs:List V):Prop:=H p=some (.tup xs)∨H p=some (.lst xs)
def rIxF:R2:=fun x y H Q=>∃ p xs i v,x=.ref p∧y=.int i∧ItsAt H p xs∧atI xs i=some v∧Q v H
theorem ix_any:IxR X rIxF:=by
 intro value slice pins s σ H x y v u Q I rx ry h hs
 obtain ⟨p,xs,i,z,e1,e2,hq,he,q⟩:=h
 rcases hq with hq | hq
 ·exact ix_tup value slice pins s σ H x y v u Q I rx ry ⟨p,xs,i,z,e1,e2,SqT.of hq,he,q⟩ hs
 ·exact ix_list value slice pins s σ H x y v u Q I rx ry ⟨p,xs,i,z,e1,e2,SqL.of hq,he,q⟩ hs
theorem call_isinst:CallR X (.builtin "isinstance") (fun xs H Q=>∃ x t n b,xs=[x,.ty n]∧TyOf X.K H x t∧PySem.W.kitOne X.K t (.type n)=some b∧Q (.bl b) H):=by
 intro pins s σ H xs us Q I r h
 obtain ⟨x,t,n,b,rfl,ty,e,q⟩:=h
 obtain ⟨u,w',rfl,r1,r2⟩:=vals2 r
 cases r2
 exact isinst_ok I r1 ty e fun tk=>⟨.bl b,H,I.tok _,rfl,q⟩
structure Cal (P:Program) (w:World) (K:PySem.W.Frag) (mg:Str→Option Value) (base:Heap) (x:Str) (ps:List Str) (k:Nat) (sp:Sp):Prop where
 ex:∃ f fd,mg x=some (.ref f)∧PySem.W.keepIn K (.ref f)=true∧Binds K fd ps []∧FnOk P w K mg base CX0 k f fd ps sp
structure Fnd (K:PySem.W.Frag) (mg:Str→Option Value) (x:Str) (st:Stmt) (ps:List Str):Prop where
 ex:∃ f fd,mg x=some (.ref f)∧Fun K x x st f fd∧Binds K fd ps []
theorem Cal.imp {P:Program} {w:World} {K:PySem.W.Frag} {mg:Str→Option Value} {base:Heap} {x:Str} {ps:List Str} {k:Nat} {sp sp':Sp} (c:Cal P w K mg base x ps k sp) (h:∀ vs H Q E,sp' vs H Q E→sp vs H Q E):Cal P w K mg base x ps k sp':=by
 obtain ⟨f,fd,m,kp,b,F⟩:=c.ex
 exact ⟨f,fd,m,kp,b,F.imp h⟩
theorem pe_cal {x:Str} {ps:List Str} {j k:Nat} {sp:Sp} {p:Pos} {e:Expr} {es:List Expr} {t:TA} (c:Cal X.prog X.w X.K X.mg X.base x ps j sp) (hr:Room k X.A) (hg:Gl X x) (ha:PA X (e :: es) t) (hjk:j≤k:=by decide)
  (hdb:(x == ("__debug__" : Str))=false:=by decide) (he:starEach (e :: es) X.env=(false,eval e X.env) :: starEach es X.env:=by rfl) (hpl:(backTo pos (starEach es X.env)).any (·.1)=false:=by rfl) :
  PE X (.Call (.Name x p) (e :: es) [] pos) (tCall sp [] E0 t):=by
 obtain ⟨f,fd,m,kp,b,F⟩:=c.ex
 exact pe_call F (hr.mono hjk) hg m kp b .nil pass0 ha hdb he hpl
theorem Fnd.ok {P:Program} {w:World} {K:PySem.W.Frag} {mg:Str→Option Value} {base:Heap} {x:Str} {st:Stmt} {N ps:List Str} {k:Nat} {sp:Sp} (F:Fnd K mg x st ps) (S:FnScope N ps (defScope st)) (len:∀ vs H Q E,sp vs H Q E→vs.length=ps.length)
  (hbody:∀ (f:Addr) (cdv:Value) (A:Around) (outer:List Env) (s:Shared) (H:Hp) (vs:List V) (Q:VK) (E:XK),Room k (A.deeper (envOfC x (defScope st) s.heap.objs.size f cdv))→sp vs H Q E →
   ∃ t,PSs (cxOf CX0 P w K mg base N x (defScope st) f cdv A outer s H E).nox (defBody st) t∧t { nx:=fun _ H'=>Q .non H',rt:=Q } (start N vs) H):Cal P w K mg base x ps (k + 1) sp:=by
 obtain ⟨f,fd,m,Fu,b⟩:=F.ex
 exact ⟨f,fd,m,Fu.kp,b,Fu.ok S len (hbody f)⟩
end
theorem iteD {p:Prop} [Decidable p] {A B:Prop} (h1:p→A) (h2:¬ p→B):if decide p=true then A else B:=by
 by_cases h:p
 ·rw [decide_eq_true h]; exact h1 h
 ·rw [decide_eq_false h]; exact h2 h
theorem iteDn {p:Prop} [Decidable p] {A B:Prop} (h1:¬ p→A) (h2:p→B):if (!decide p)=true then A else B:=by
 by_cases h:p
 ·rw [decide_eq_true h]; exact h2 h
 ·rw [decide_eq_false h]; exact h1 h
def Ext (b:Addr) (H H':Hp):Prop:=∀ a o,a≠b→H a=some o→H' a=some o
theorem Ext.upd (b:Addr) (H:Hp) (o:HO):Ext b H (L2.upd H b o):=fun a u n h=>by rw [upd_ne n]; exact h
theorem same_new {H:Hp} {p:Addr} (h:H p=none) (o:HO):Same H (L2.upd H p o):=fun b u q=>by rw [upd_ne (ne_of_none q h)]; exact q
end L2
namespace L2
open PySem PySem.Spec PyProof.Rows
theorem HOk.but {P:Program} {w:World} {H:Hp} {h h':Heap} {C:Addr} (x:HOk P w H h) (n:H C=none) (k:∀ b u,b≠C→h.get? b=some u→h'.get? b=some u):HOk P w H h':=fun a o e =>
 (x a o e).stay (fun b u hb q=>k b u (by rcases hb with rfl | hb; exact ne_of_none e n; exact ne_of_none hb n) q) (fun _ q=>q) fun _ _ q=>q
theorem Un.but {fs ex:List Addr} {H H':Hp} {h h1 h2:Heap} {C:Addr} (u:Un fs ex H H' h h1) (hC:h.get? C=none) (k:∀ b u,b≠C→h1.get? b=some u→h2.get? b=some u):Un fs ex H H' h h2 where
 keep:=fun b o q n f e=>k b o (by rintro rfl; rw [hC] at q; cases q) (u.keep b o q n f e)
 slot:=fun b o q n f e=>by
  obtain ⟨sl,z⟩:=u.slot b o q n f e
  exact ⟨sl,k b _ (by rintro rfl; rw [hC] at q; cases q) z⟩
 free:=u.free
 there:=fun b o q e=>by
  obtain ⟨o',z⟩:=u.there b o q e
  exact ⟨o',k b _ (by rintro rfl; rw [hC] at q; cases q) z⟩
 tups:=u.tups
 frzs:=u.frzs
 tbls:=u.tbls
def compCx (X:Cx) (N:List Str) (scope:Scope) (cl:List (Str×Addr)) (C:Addr) (s:Shared) (H:Hp) (ex:List Addr):Cx :=
 { X with N:=N,s₀:=s,H₀:=H,env:=compEnvC scope cl C X.env,outer:=X.stack,ex:=ex,fn:=fun _=>false,pn:=[],xe:=fun _ _=>False }
def freeV (σ:St) (js:List Nat):St:=js.map fun j=>(σ[j]?).join
section
variable {X:Cx}
end
end L2
namespace L2
open PySem PySem.Spec PyProof.Rows
theorem Vals.getR:∀ {xs:List V} {us:List Value} {i:Nat} {u:Value},Vals xs us→us[i]?=some u→∃ x,xs[i]?=some x∧RelV x u
 | _,_,_,_,.nil,e=>by simp at e
 | _,_,0,_,.cons r _,e=>by simp at e; subst e; exact ⟨_,rfl,r⟩
 | _,_,i + 1,u,.cons _ t,e=>by
  obtain ⟨x,h1,h2⟩:=Vals.getR (i:=i) (u:=u) t (by simpa using e)
  exact ⟨x,by simpa using h1,h2⟩
section
variable {X:Cx}
theorem call_sum (hc:X.calm=true):CallR X (.builtin "sum") (fun xs H Q=>∃ (l:Addr) (ns:List Int),xs=[.ref l]∧H l=some (.lst (ns.map V.int))∧Q (.int ns.sum) H):=by
 intro pins s σ H xs us Q I r h
 obtain ⟨l,ns,rfl,hl,q⟩:=h
 obtain ⟨u,rfl,r1⟩:=vals1 r
 cases r1
 obtain ⟨its,rv,pl,hz⟩:=I.list (SqL.of hl)
 have hi:=intsAre_of rv
 obtain ⟨ws,hx⟩:=hi.allInts.items
 have hl':s.heap.IsList l (intItems ws):=hx ▸ pl.isList
 refine sum_intListG (I.ok.hd hc) hl' fun h' tk t' hk=>?_
 have e1:ns=ws.toList.map (·.1):=by
  rw [← nums_intItems,← hx]
  exact (show numsOf its.toArray.toList=ns from hi.numsOf).symm
 have e2:preSum (numAt ws) ws.size=ns.sum:=by
  rw [preSum_eq,List.take_of_length_le (by simp),e1]
 rw [e2]
 exact ⟨.int ns.sum,H,I.kept hk,⟨_,rfl⟩,q⟩
end
end L2
namespace L2
open PySem PySem.Spec PyProof.Rows PySem.W
section
variable {prog:Program} {w:World} {A:Around} {E:Value→Shared→Prop} {h:Heap} {g:Array GenState} {d:Drawn} {t:Nat} {os:OsState} {a C:Addr} {o:Obj} {K:PySem.W.Frag}
end
end L2
namespace L2
open PySem PySem.Spec PyProof.Rows PySem.W
section
variable {X:Cx}
end
end L2
namespace L2
open PySem PySem.Spec PyProof.Rows PySem.W
section
variable {X:Cx} {pins:List (Addr×Obj)} {σ:St} {H:Hp} {s:Shared}
end
end L2
namespace L2
open PySem PySem.Spec PyProof.Rows PySem.W
section
variable {X:Cx}
end
end L2
namespace L2
open PySem PySem.Spec PyProof.Rows PySem.W
section
variable {X:Cx} {pins:List (Addr×Obj)} {σ:St} {H:Hp} {s:Shared}
end
end L2
namespace Cut
open PySem
open PySem.Builtin.Int (intBits)
theorem bits_om {x:Int} (h1 : -(2 ^ 64) < x) (h2:x < 2 ^ 64):intBits x≤64:=intBits_le_64 h1 h2
theorem bits_of_abs {x t:Int} {n:Nat} (h:x.natAbs≤t.natAbs) (ht:intBits t≤n):intBits x≤n:=intBits_le_of_natAbs h ht
theorem gcd_step {x y:Int} (hx:0≤x) (hy:0 < y):Int.gcd y (x % y)=Int.gcd x y:=by
 obtain ⟨m,rfl⟩:=Int.eq_ofNat_of_zero_le hx
 obtain ⟨n,rfl⟩:=Int.eq_ofNat_of_zero_le (Int.le_of_lt hy)
 have e:((m:Int) % (n:Int))=((m % n:Nat):Int):=rfl
 rw [e]
 show Nat.gcd n (m % n)=Nat.gcd m n
 rw [Nat.gcd_comm m n,Nat.gcd_rec n m,Nat.gcd_comm]
theorem gcd_abs (a b:Int):Int.gcd (if a < 0 then -a else a) (if b < 0 then -b else b)=Int.gcd a b:=by
 have e:∀ z:Int,(if z < 0 then -z else z).natAbs=z.natAbs:=fun z=>by split <;> omega
 unfold Int.gcd
 rw [e,e]
theorem gcd_zero_left {x:Int} (h:0≤x):((Int.gcd x 0:Nat):Int)=x:=by
 rw [Int.gcd_zero_right]; omega
theorem gcd_pos {t b:Int} (hb:b≠0):0 < ((Int.gcd t b:Nat):Int):=by
 have:0 < Int.gcd t b:=Int.gcd_pos_of_ne_zero_right t hb
 omega
theorem dvd_co {k n m:Int} (h:k ∣ n * m) (g:Int.gcd k n=1):k ∣ m:=by
 have q:=Int.dvd_gcd_mul_iff_dvd_mul.mpr h
 rw [g] at q
 simpa using q
end Cut
namespace Cut
end Cut
namespace Cut
def Pt (x y z:Int):Prop:=0 < z∧Int.gcd (Int.gcd x y:Nat) z=1
theorem gcd3 (a b n:Int):Int.gcd (Int.gcd a n:Nat) b=Nat.gcd (Nat.gcd a.natAbs b.natAbs) n.natAbs:=by
 show Nat.gcd (Nat.gcd a.natAbs n.natAbs) b.natAbs=_
 rw [Nat.gcd_assoc,Nat.gcd_comm n.natAbs,← Nat.gcd_assoc]
theorem gcd3' (a b n:Int):Int.gcd (Int.gcd a b:Nat) n=Nat.gcd (Nat.gcd a.natAbs b.natAbs) n.natAbs:=rfl
theorem gcd3_pos {a b n:Int} (hn:n≠0):0 < ((Int.gcd (Int.gcd a n:Nat) b:Nat):Int):=by
 rw [gcd3]
 have:0 < Nat.gcd (Nat.gcd a.natAbs b.natAbs) n.natAbs:=Nat.gcd_pos_of_pos_right _ (by omega)
 omega
theorem gcd3_dvd (a b n:Int):((Int.gcd (Int.gcd a n:Nat) b:Nat):Int) ∣ a∧((Int.gcd (Int.gcd a n:Nat) b:Nat):Int) ∣ b∧((Int.gcd (Int.gcd a n:Nat) b:Nat):Int) ∣ n:=by
 rw [gcd3]
 have h1:=Nat.gcd_dvd_left (Nat.gcd a.natAbs b.natAbs) n.natAbs
 have h2:=Nat.gcd_dvd_right (Nat.gcd a.natAbs b.natAbs) n.natAbs
 refine ⟨?_,?_,?_⟩
 ·exact Int.ofNat_dvd_left.mpr (Nat.dvd_trans h1 (Nat.gcd_dvd_left _ _))
 ·exact Int.ofNat_dvd_left.mpr (Nat.dvd_trans h1 (Nat.gcd_dvd_right _ _))
 ·exact Int.ofNat_dvd_left.mpr h2
theorem pt_of {a b n g s:Int} (hn:n≠0) (hg:g=(Int.gcd (Int.gcd a n:Nat) b:Nat)) (hs:s=g∧0 < n∨s = -g∧n < 0) :
  Pt (a.fdiv s) (b.fdiv s) (n.fdiv s)∧a.fdiv s * n=a * n.fdiv s∧b.fdiv s * n=b * n.fdiv s∧(a.fdiv s).natAbs≤a.natAbs∧(b.fdiv s).natAbs≤b.natAbs∧(n.fdiv s).natAbs≤n.natAbs:=by
 have gp:0 < g:=by rw [hg]; exact gcd3_pos hn
 obtain ⟨d1,d2,d3⟩:=gcd3_dvd a b n
 rw [← hg] at d1 d2 d3
 have s0:s≠0:=by rcases hs with ⟨h,_⟩ | ⟨h,_⟩ <;> omega
 have dv:∀ z:Int,g ∣ z→s ∣ z:=fun z hz=>by
  rcases hs with ⟨h,_⟩ | ⟨h,_⟩ <;> rw [h]
  ·exact hz
  ·exact Int.neg_dvd.mpr hz
 obtain ⟨x,hx⟩:=dv a d1
 obtain ⟨y,hy⟩:=dv b d2
 obtain ⟨z,hz⟩:=dv n d3
 have ex:a.fdiv s=x:=by rw [hx]; exact Int.mul_fdiv_cancel_left x s0
 have ey:b.fdiv s=y:=by rw [hy]; exact Int.mul_fdiv_cancel_left y s0
 have ez:n.fdiv s=z:=by rw [hz]; exact Int.mul_fdiv_cancel_left z s0
 refine ⟨⟨?_,?_⟩,?_,?_,PySem.natAbs_fdiv_le a s,PySem.natAbs_fdiv_le b s,PySem.natAbs_fdiv_le n s⟩
 ·rw [ez]
  rcases hs with ⟨h,hp⟩ | ⟨h,hp⟩
  ·rw [hz,h] at hp
   exact Int.pos_of_mul_pos_right hp gp
  ·rw [hz,h] at hp
   have:0 < g * z:=by rw [Int.neg_mul] at hp; omega
   exact Int.pos_of_mul_pos_right this gp
 ·rw [ex,ey,ez,gcd3']
  rw [gcd3,hx,hy,hz,Int.natAbs_mul,Int.natAbs_mul,Int.natAbs_mul,Nat.gcd_mul_left,Nat.gcd_mul_left] at hg
  have sn:s.natAbs=g.toNat:=by rcases hs with ⟨h,_⟩ | ⟨h,_⟩ <;> omega
  have pos:0 < s.natAbs:=by omega
  have q:s.natAbs * Nat.gcd (Nat.gcd x.natAbs y.natAbs) z.natAbs=s.natAbs * 1:=by omega
  exact Nat.eq_of_mul_eq_mul_left pos q
 ·rw [ex,ez]
  have h1:x * n=x * (s * z):=by rw [← hz]
  have h2:a * z=s * x * z:=by rw [← hx]
  rw [h1,h2,← Int.mul_assoc,Int.mul_comm x s]
 ·rw [ey,ez]
  have h1:y * n=y * (s * z):=by rw [← hz]
  have h2:b * z=s * y * z:=by rw [← hy]
  rw [h1,h2,← Int.mul_assoc,Int.mul_comm y s]
theorem pt_dvd {x y z x' y' z':Int} (g:Int.gcd (Int.gcd x y:Nat) z=1) (e1:x * z'=x' * z) (e2:y * z'=y' * z):z ∣ z':=by
 have d1:z.natAbs ∣ x.natAbs * z'.natAbs:=⟨x'.natAbs,by rw [← Int.natAbs_mul,e1,Int.natAbs_mul,Nat.mul_comm]⟩
 have d2:z.natAbs ∣ y.natAbs * z'.natAbs:=⟨y'.natAbs,by rw [← Int.natAbs_mul,e2,Int.natAbs_mul,Nat.mul_comm]⟩
 have d3:z.natAbs ∣ z.natAbs * z'.natAbs:=⟨z'.natAbs,rfl⟩
 have q:=Nat.dvd_gcd (Nat.dvd_gcd d1 d2) d3
 rw [Nat.gcd_mul_right,Nat.gcd_mul_right] at q
 rw [gcd3'] at g
 rw [g,Nat.one_mul] at q
 exact Int.natAbs_dvd_natAbs.mp q
theorem pt_uniq {x y z x' y' z':Int} (h:Pt x y z) (h':Pt x' y' z') (e1:x * z'=x' * z) (e2:y * z'=y' * z):x=x'∧y=y'∧z=z':=by
 have d1:=pt_dvd h.2 e1 e2
 have d2:=pt_dvd h'.2 e1.symm e2.symm
 have ez:z=z':=Int.dvd_antisymm (Int.le_of_lt h.1) (Int.le_of_lt h'.1) d1 d2
 subst ez
 have nz:z≠0:=Int.ne_of_gt h.1
 exact ⟨Int.eq_of_mul_eq_mul_right nz e1,Int.eq_of_mul_eq_mul_right nz e2,rfl⟩
theorem gcd3_bits {a b n:Int} {k:Nat} (hn:n≠0) (h:PySem.Builtin.Int.intBits n≤k):PySem.Builtin.Int.intBits ((Int.gcd (Int.gcd a n:Nat) b:Nat):Int)≤k:=by
 refine PySem.intBits_le_of_natAbs ?_ h
 exact Nat.le_of_dvd (by omega) (Int.natAbs_dvd_natAbs.mpr (gcd3_dvd a b n).2.2)
theorem one_ne {u v:Int} (hu:0 < u) (hv:0 < v):u * v≠0:=Int.ne_of_gt (Int.mul_pos hu hv)
end Cut
namespace Cut
theorem pt_neg {x y z:Int} (h:Pt x y z):Pt (-x) (-y) z:=by
 refine ⟨h.1,?_⟩
 have g:=h.2
 rw [gcd3'] at g ⊢
 rw [Int.natAbs_neg,Int.natAbs_neg]
 exact g
end Cut
namespace L3
open PySem L2
open PySem.Builtin.Int (intBits)
inductive D where
 | non | bl (b:Bool) | int (i:Int) | str (x:Str) | ty (n:String) | tup (xs:List D) | lst (xs:List D) | scr (ns:List Int) | ktup (xs:List D) | dct (b:Bool) (ks:List (List (List Int))) (ds:List D)
inductive Cn where
 | l (ds:List D) | d (b:Bool) (t:Option Addr) (ks:List (List (List Int))) (ds:List D)
instance:Coe (List D) Cn:=⟨Cn.l⟩
inductive Dp where
 | ll (a:Addr) (as:List Addr) (dss:List (List D)) | dl (b:Bool) (a:Addr) (ks:List (List (List Int))) (as:List Addr) (dss:List (List D))
def Dp.adr:Dp→Addr
 | .ll a _ _=>a
 | .dl _ a _ _ _=>a
def Dp.ins:Dp→List Addr
 | .ll _ as _=>as
 | .dl _ _ _ as _=>as
inductive Sl where
 | no | val (d:D) | own (c:Cn) | bag | new (d:D) | pin (v:V) (d:D) | deep (c:Dp)
def hashK (b:Bool) (k:List (List Int)):Int :=
 if b then reduceHash (Builtin.Tuple.tupleHashOf (k.map fun ks=>reduceHash (Builtin.Tuple.tupleHashOf (ks.map hashInt)))) else reduceHash (Builtin.Tuple.tupleHashOf ((k.headD []).map hashInt))
def keyD (b:Bool) (k:List (List Int)):D:=if b then .tup (k.map fun ks=>.tup (ks.map D.int)) else .tup ((k.headD []).map D.int)
def entK (b:Bool):List (List (List Int))→List Addr→List Value→List DictEntry
 | k :: ks,a :: as,u :: us=>⟨hashK b k,.ref a,u⟩ :: entK b ks as us
 | _,_,_=>[]
def DicO (b:Bool) (a:Addr) (ep:Nat) (ks:List (List (List Int))) (as:List Addr) (vs:List V):HO:=.ext fun h=>ks.length≤sizeLine∧as.length=ks.length∧vs.length=ks.length∧(a == sysModules)=false ∧
 ∃ us:List Value,Vals vs us∧∃ o es,h.get? a=some o∧o.ExactDict∧o.data=.dict es ep∧es.toList=entK b ks as us∧ks.Nodup
mutual
inductive Rep (K:PySem.W.Frag) (B:Hp):V→D→Prop where
 | non:Rep K B .non .non
 | bl (b:Bool):Rep K B (.bl b) (.bl b)
 | int (i:Int):Rep K B (.int i) (.int i)
 | str (x:Str):Rep K B (.str x) (.str x)
 | ty (n:String):Rep K B (.ty n) (.ty n)
 | tup {a:Addr} {vs:List V} {ds:List D} (h:B a=some (.tup vs)) (r:Reps K B vs ds):Rep K B (.ref a) (.tup ds)
 | lst {a:Addr} {vs:List V} {ds:List D} (h:B a=some (.lst vs)) (r:Reps K B vs ds):Rep K B (.ref a) (.lst ds)
 | scr {a:Addr} {ns:List Int} (h:SqL K B a (ns.map V.int)):Rep K B (.ref a) (.scr ns)
 | ktup {a:Addr} {vs:List V} {ds:List D} (h:SqT K B a vs) (r:Reps K B vs ds):Rep K B (.ref a) (.ktup ds)
 | dct {a:Addr} {b:Bool} {ep:Nat} {ks:List (List (List Int))} {as:List Addr} {vs:List V} {ds:List D} (h:B a=some (DicO b a ep ks as vs)) (hk:Reps K B (as.map V.ref) (ks.map (keyD b))) (hb:b=false→∀ k∈ks,∃ l,k=[l]) (r:Reps K B vs ds):Rep K B (.ref a) (.dct b ks ds)
inductive Reps (K:PySem.W.Frag) (B:Hp):List V→List D→Prop where
 | nil:Reps K B [] []
 | cons {v:V} {d:D} {vs:List V} {ds:List D} (h:Rep K B v d) (r:Reps K B vs ds):Reps K B (v :: vs) (d :: ds)
end
theorem sameT {K:PySem.W.Frag} {H H':Hp} {a:Addr} {xs:List V} (e:Same H H') (h:SqT K H a xs):SqT K H' a xs:=by
 rcases h with (h | ⟨o,h⟩) | h
 ·exact .inl (.inl (e _ _ h))
 ·exact .inl (.inr ⟨o,e _ _ h⟩)
 ·exact .inr h
section
variable {K:PySem.W.Frag} {B B':Hp}
mutual
theorem Rep.mono (s:Same B B'):∀ {v:V} {d:D},Rep K B v d→Rep K B' v d
 | _,_,.non=>.non
 | _,_,.bl b=>.bl b
 | _,_,.int i=>.int i
 | _,_,.str x=>.str x
 | _,_,.ty n=>.ty n
 | _,_,.tup h r=>.tup (s _ _ h) (Reps.mono s r)
 | _,_,.lst h r=>.lst (s _ _ h) (Reps.mono s r)
 | _,_,.scr h=>.scr (s.seq h)
 | _,_,.ktup h r=>.ktup (sameT s h) (Reps.mono s r)
 | _,_,.dct h hk hb r=>.dct (s _ _ h) (Reps.mono s hk) hb (Reps.mono s r)
theorem Reps.mono (s:Same B B'):∀ {vs:List V} {ds:List D},Reps K B vs ds→Reps K B' vs ds
 | _,_,.nil=>.nil
 | _,_,.cons h r=>.cons (Rep.mono s h) (Reps.mono s r)
end
theorem Reps.length:∀ {vs:List V} {ds:List D},Reps K B vs ds→vs.length=ds.length
 | _,_,.nil=>rfl
 | _,_,.cons _ r=>by rw [List.length_cons,List.length_cons,r.length]
theorem Reps.get:∀ {vs:List V} {ds:List D} {i:Nat} {d:D},Reps K B vs ds→ds[i]?=some d→∃ v,vs[i]?=some v∧Rep K B v d
 | _,_,_,_,.nil,e=>by simp at e
 | _,_,0,_,.cons h _,e=>by simp at e; subst e; exact ⟨_,rfl,h⟩
 | _,_,i + 1,d,.cons _ r,e=>by
  obtain ⟨v,h1,h2⟩:=Reps.get (i:=i) (d:=d) r (by simpa using e)
  exact ⟨v,by simpa using h1,h2⟩
theorem Reps.getV:∀ {vs:List V} {ds:List D} {i:Nat} {v:V},Reps K B vs ds→vs[i]?=some v→∃ d,ds[i]?=some d∧Rep K B v d
 | _,_,_,_,.nil,e=>by simp at e
 | _,_,0,_,.cons h _,e=>by simp at e; subst e; exact ⟨_,rfl,h⟩
 | _,_,i + 1,v,.cons _ r,e=>by
  obtain ⟨d,h1,h2⟩:=Reps.getV (i:=i) (v:=v) r (by simpa using e)
  exact ⟨d,by simpa using h1,h2⟩
theorem Reps.append:∀ {vs ws:List V} {ds es:List D},Reps K B vs ds→Reps K B ws es→Reps K B (vs ++ ws) (ds ++ es)
 | _,_,_,_,.nil,s=>s
 | _,_,_,_,.cons h r,s=>.cons h (Reps.append r s)
theorem Reps.take:∀ {vs:List V} {ds:List D} (n:Nat),Reps K B vs ds→Reps K B (vs.take n) (ds.take n)
 | _,_,0,_=>.nil
 | _,_,_ + 1,.nil=>.nil
 | _,_,n + 1,.cons h r=>.cons h (Reps.take n r)
theorem Reps.drop:∀ {vs:List V} {ds:List D} (n:Nat),Reps K B vs ds→Reps K B (vs.drop n) (ds.drop n)
 | _,_,0,r=>r
 | _,_,_ + 1,.nil=>.nil
 | _,_,n + 1,.cons _ r=>Reps.drop n r
theorem Reps.ints:∀ (ns:List Int),Reps K B (ns.map V.int) (ns.map D.int)
 | []=>.nil
 | n :: r=>.cons (.int n) (Reps.ints r)
end
def Bag (H:Hp) (b:Addr):Prop:=∃ x y:Int,H b=some (.lst [.int x,.int y])∧0≤x∧0≤y∧y < 2147483647
def MutAt (σ:St) (ρ:List Sl) (i:Nat) (a:Addr):Prop:=(σ[i]?=some (some (.ref a))∧(ρ[i]?=some .bag∨∃ ds,ρ[i]?=some (.own ds)))∨∃ c,ρ[i]?=some (.deep c)∧a∈c.adr :: c.ins
structure Wd (R:Hp) (W:Addr→Prop) (B H:Hp):Prop where
 fr:∀ a o,R a=some o→¬ W a→H a=some o
 bh:Same B H
 wb:∀ a,W a→B a=none
 wh:∀ a,W a→Bag H a
 wr:∀ a,W a→R a≠none
open Classical in
noncomputable def mixB (R:Hp) (W:Addr→Prop) (B:Hp):Hp:=fun a=>match R a with
 | some (.lst vs)=>if W a then B a else some (.lst vs)
 | _=>B a
theorem mixB_mono {R:Hp} {W:Addr→Prop} {B B':Hp} (s:Same B B'):Same (mixB R W B) (mixB R W B'):=fun a o h=>by
 unfold mixB at h ⊢
 split at h
 ·split at h
  ·rename_i z; rw [if_pos z]; exact s a o h
  ·rename_i z; rw [if_neg z]; exact h
 ·exact s a o h
def CnOk (K:PySem.W.Frag) (B H:Hp) (a:Addr):Cn→Prop
 | .l ds=>∃ vs,H a=some (.lst vs)∧Reps K B vs ds
 | .d b t ks ds=>∃ ep as vs,(∀ c,t=some c→c=a)∧H a=some (DicO b a ep ks as vs)∧Reps K B (as.map V.ref) (ks.map (keyD b))∧(b=false→∀ k∈ks,∃ l,k=[l])∧Reps K B vs ds
theorem CnOk.mono {K:PySem.W.Frag} {B B' H H':Hp} {a:Addr} {c:Cn} (h:CnOk K B H a c) (s:Same B B') (e:H' a=H a):CnOk K B' H' a c:=by
 cases c with
 | l ds=>obtain ⟨vs,h1,h2⟩:=h; exact ⟨vs,by rw [e]; exact h1,h2.mono s⟩
 | d b t ks ds=>obtain ⟨ep,as,vs,h0,h1,h2,h3,h4⟩:=h; exact ⟨ep,as,vs,h0,by rw [e]; exact h1,h2.mono s,h3,h4.mono s⟩
theorem CnOk.ne {K:PySem.W.Frag} {B H:Hp} {a:Addr} {c:Cn} (h:CnOk K B H a c):H a≠none:=by
 cases c with
 | l ds=>obtain ⟨vs,h1,h2⟩:=h; rw [h1]; simp
 | d b t ks ds=>obtain ⟨ep,as,vs,_,h1,_⟩:=h; rw [h1]; simp
structure InOk (K:PySem.W.Frag) (B H:Hp) (as:List Addr) (dss:List (List D)):Prop where
 len:as.length=dss.length
 at_:∀ (i:Nat) (a:Addr) (ds:List D),as[i]?=some a→dss[i]?=some ds→∃ vs,H a=some (.lst vs)∧Reps K B vs ds
theorem InOk.mono {K:PySem.W.Frag} {B B' H H':Hp} {as:List Addr} {dss:List (List D)} (h:InOk K B H as dss) (s:Same B B') (e:∀ a∈as,H' a=H a):InOk K B' H' as dss :=
 ⟨h.len,fun i a ds h1 h2=>by
  obtain ⟨vs,q1,q2⟩:=h.at_ i a ds h1 h2
  exact ⟨vs,by rw [e a (List.mem_of_getElem? h1)]; exact q1,q2.mono s⟩⟩
theorem InOk.ne {K:PySem.W.Frag} {B H:Hp} {as:List Addr} {dss:List (List D)} (h:InOk K B H as dss) {a:Addr} (m:a∈as):H a≠none:=by
 obtain ⟨i,hi⟩:=List.getElem?_of_mem m
 have lt:i < as.length:=by
  by_cases z:i < as.length
  ·exact z
  ·rw [List.getElem?_eq_none (by omega)] at hi; cases hi
 obtain ⟨vs,q1,_⟩:=h.at_ i a _ hi (List.getElem?_eq_getElem (by rw [← h.len]; exact lt))
 rw [q1]; simp
def DpO (K:PySem.W.Frag) (B H:Hp):Dp→Prop
 | .ll a as dss=>H a=some (.lst (as.map V.ref))∧InOk K B H as dss
 | .dl b a ks as dss=>∃ ep kas,H a=some (DicO b a ep ks kas (as.map V.ref))∧Reps K B (kas.map V.ref) (ks.map (keyD b))∧(b=false→∀ k∈ks,∃ l,k=[l])∧InOk K B H as dss
structure DpOk (K:PySem.W.Frag) (R B H:Hp) (c:Dp):Prop where
 fr:∀ a∈c.adr :: c.ins,R a=none∧B a=none
 nd:(c.adr :: c.ins).Nodup
 ok:DpO K B H c
theorem DpO.mono {K:PySem.W.Frag} {B B' H H':Hp} {c:Dp} (h:DpO K B H c) (s:Same B B') (e:∀ a∈c.adr :: c.ins,H' a=H a):DpO K B' H' c:=by
 cases c with
 | ll a as dss=>exact ⟨by rw [e a List.mem_cons_self]; exact h.1,h.2.mono s fun x m=>e x (List.mem_cons_of_mem _ m)⟩
 | dl b a ks as dss =>
  obtain ⟨ep,kas,h1,h2,h3,h4⟩:=h
  exact ⟨ep,kas,by rw [e a List.mem_cons_self]; exact h1,h2.mono s,h3,h4.mono s fun x m=>e x (List.mem_cons_of_mem _ m)⟩
theorem DpO.ne {K:PySem.W.Frag} {B H:Hp} {c:Dp} (h:DpO K B H c) {a:Addr} (m:a∈c.adr :: c.ins):H a≠none:=by
 cases c with
 | ll b as dss =>
  rcases List.mem_cons.mp m with e | m
  ·rw [show a=b from e,h.1]; simp
  ·exact h.2.ne m
 | dl b p ks as dss =>
  obtain ⟨ep,kas,h1,h2,h3,h4⟩:=h
  rcases List.mem_cons.mp m with e | m
  ·rw [show a=p from e,h1]; simp
  ·exact h4.ne m
def SlOk (K:PySem.W.Frag) (R:Hp) (W:Addr→Prop) (B H:Hp) (o:Option V):Sl→Prop
 | .no=>True
 | .val d=>∃ v,o=some v∧Rep K B v d
 | .own c=>∃ a,o=some (.ref a)∧R a=none∧B a=none∧CnOk K B H a c
 | .bag=>∃ b,o=some (.ref b)∧(W b∨R b=none)∧B b=none∧Bag H b
 | .new d=>∃ v,o=some v∧Rep K (mixB R W B) v d
 | .pin v d=>o=some v∧Rep K (mixB R W B) v d
 | .deep c=>o=some (.ref c.adr)∧DpOk K R B H c
structure Ev (K:PySem.W.Frag) (R:Hp) (W:Addr→Prop) (B H:Hp) (σ:St) (ρ:List Sl):Prop extends Wd R W B H where
 len:σ.length=ρ.length
 ok:∀ (i:Nat) (k:Sl),ρ[i]?=some k→SlOk K R W B H (σ[i]?).join k
 sep:∀ (i j:Nat) (a:Addr),MutAt σ ρ i a→MutAt σ ρ j a→i=j
structure Grow (R B B':Hp):Prop where
 s:Same B B'
 n:∀ a o,B' a=some o→B a=some o∨R a=none
theorem Grow.refl (R B:Hp):Grow R B B:=⟨Same.refl _,fun _ _ h=>.inl h⟩
theorem Grow.trans {R B B' B'':Hp} (g:Grow R B B') (h:Grow R B' B''):Grow R B B'':=⟨g.s.trans h.s,fun a o e=>(h.n a o e).elim (g.n a o) .inr⟩
theorem Wd.fresh {R:Hp} {W:Addr→Prop} {B H:Hp} (w:Wd R W B H) {p:Addr} (h:H p=none):R p=none∧¬ W p∧B p=none:=by
 have nw:¬ W p:=fun z=>by
  obtain ⟨x,y,e,_⟩:=w.wh p z
  rw [h] at e; cases e
 refine ⟨?_,nw,w.bh.free h⟩
 cases q:R p with
 | none=>rfl
 | some o=>rw [w.fr p o q nw] at h; cases h
theorem join_some {α:Type} {o:Option (Option α)} {v:α} (h:o.join=some v):o=some (some v):=by
 cases o with
 | none=>cases h
 | some x=>exact congrArg some h
section
variable {K:PySem.W.Frag} {R:Hp} {W:Addr→Prop} {B B' H H':Hp} {σ:St} {ρ:List Sl}
theorem Ev.val (e:Ev K R W B H σ ρ) {i:Nat} {d:D} (h:ρ[i]?=some (.val d)):∃ v,σ[i]?=some (some v)∧Rep K B v d:=by
 obtain ⟨v,h1,h2⟩:=e.ok i _ h
 exact ⟨v,join_some h1,h2⟩
theorem Ev.ownAt (e:Ev K R W B H σ ρ) {i:Nat} {ds:List D} (h:ρ[i]?=some (.own ds)):∃ a vs,σ[i]?=some (some (.ref a))∧R a=none∧B a=none∧H a=some (.lst vs)∧Reps K B vs ds:=by
 obtain ⟨a,h1,h2,h3,vs,h4,h5⟩:=e.ok i _ h
 exact ⟨a,vs,join_some h1,h2,h3,h4,h5⟩
theorem Ev.ownC (e:Ev K R W B H σ ρ) {i:Nat} {c:Cn} (h:ρ[i]?=some (.own c)):∃ a,σ[i]?=some (some (.ref a))∧R a=none∧B a=none∧CnOk K B H a c:=by
 obtain ⟨a,h1,h2⟩:=e.ok i _ h
 exact ⟨a,join_some h1,h2⟩
theorem Ev.bagAt (e:Ev K R W B H σ ρ) {i:Nat} (h:ρ[i]?=some .bag):∃ b,σ[i]?=some (some (.ref b))∧(W b∨R b=none)∧B b=none∧Bag H b:=by
 obtain ⟨a,h1,h2⟩:=e.ok i _ h
 exact ⟨a,join_some h1,h2⟩
theorem Ev.deepAt (e:Ev K R W B H σ ρ) {i:Nat} {c:Dp} (h:ρ[i]?=some (.deep c)):σ[i]?=some (some (.ref c.adr))∧DpOk K R B H c:=by
 obtain ⟨h1,h2⟩:=e.ok i _ h
 exact ⟨join_some h1,h2⟩
theorem Ev.mutOk (e:Ev K R W B H σ ρ) {i:Nat} {a:Addr} (m:MutAt σ ρ i a):B a=none∧H a≠none:=by
 rcases m with ⟨h1,h2 | ⟨ds,h2⟩⟩ | ⟨c,h1,h2⟩
 ·obtain ⟨b,e1,_,e3,x,y,e4,_⟩:=e.bagAt h2
  rw [h1] at e1; cases e1
  exact ⟨e3,by rw [e4]; simp⟩
 ·obtain ⟨b,e1,_,e3,e4⟩:=e.ownC h2
  rw [h1] at e1; cases e1
  exact ⟨e3,e4.ne⟩
 ·have q:=(e.deepAt h1).2
  exact ⟨(q.fr a h2).2,q.ok.ne h2⟩
theorem mut_in {i:Nat} {a:Addr} (m:MutAt σ ρ i a) (n:∀ c,ρ[i]?≠some (.deep c)):σ[i]?=some (some (.ref a))∧(ρ[i]?=some .bag∨∃ ds,ρ[i]?=some (.own ds)):=by
 rcases m with m | ⟨c,h,_⟩
 ·exact m
 ·exact absurd h (n c)
theorem mut_bag {i:Nat} {a:Addr} (m:MutAt σ ρ i a) (h:ρ[i]?=some .bag):σ[i]?=some (some (.ref a)):=(mut_in m fun c z=>by rw [h] at z; cases z).1
theorem Ev.move (e:Ev K R W B H σ ρ) (w:Wd R W B' H') (s:Same B B') (m:∀ i a,MutAt σ ρ i a→B' a=none∧(ρ[i]?=some .bag→Bag H' a)∧(ρ[i]?≠some .bag→H' a=H a)):Ev K R W B' H' σ ρ:=by
 refine ⟨w,e.len,fun i k h=>?_,e.sep⟩
 cases k with
 | no=>trivial
 | new d =>
  obtain ⟨v,h1,h2⟩:=e.ok i _ h
  exact ⟨v,h1,h2.mono (mixB_mono s)⟩
 | pin v d =>
  obtain ⟨h1,h2⟩:=e.ok i _ h
  exact ⟨h1,h2.mono (mixB_mono s)⟩
 | val d =>
  obtain ⟨v,h1,h2⟩:=e.ok i _ h
  exact ⟨v,h1,h2.mono s⟩
 | own ds =>
  obtain ⟨a,h1,h2,h3,h4⟩:=e.ok i _ h
  obtain ⟨m1,m2,m3⟩:=m i a (.inl ⟨join_some h1,.inr ⟨ds,h⟩⟩)
  exact ⟨a,h1,h2,m1,h4.mono s (m3 (by rw [h]; simp))⟩
 | deep c =>
  obtain ⟨h1,h2⟩:=e.ok i _ h
  have mm:∀ a∈c.adr :: c.ins,B' a=none∧H' a=H a:=fun a ma=>by
   obtain ⟨m1,m2,m3⟩:=m i a (.inr ⟨c,h,ma⟩)
   exact ⟨m1,m3 (by rw [h]; simp)⟩
  exact ⟨h1,fun a ma=>⟨(h2.fr a ma).1,(mm a ma).1⟩,h2.nd,h2.ok.mono s fun a ma=>(mm a ma).2⟩
 | bag =>
  obtain ⟨b,h1,h2,h3,h4⟩:=e.ok i _ h
  obtain ⟨m1,m2,m3⟩:=m i b (.inl ⟨join_some h1,.inl h⟩)
  exact ⟨b,h1,h2,m1,m2 h⟩
theorem Bag.upd {H:Hp} {b p:Addr} {o:HO} (h:Bag H b) (n:b≠p):Bag (L2.upd H p o) b:=by
 obtain ⟨x,y,e,q⟩:=h
 exact ⟨x,y,by rw [upd_ne n]; exact e,q⟩
theorem Wd.alloc (w:Wd R W B H) {p:Addr} (h:H p=none) (o:HO):Wd R W (upd B p o) (upd H p o):=by
 obtain ⟨f1,f2,f3⟩:=w.fresh h
 refine ⟨fun a u q nw=>?_,fun a u q=>?_,fun a z=>?_,fun a z=>?_,w.wr⟩
 ·rw [upd_ne (by rintro rfl; rw [f1] at q; cases q)]; exact w.fr a u q nw
 ·unfold L2.upd at q ⊢
  split
  ·rename_i z; rw [if_pos z] at q; exact q
  ·rename_i z; rw [if_neg z] at q; exact w.bh a u q
 ·rw [upd_ne (by rintro rfl; exact f2 z)]; exact w.wb a z
 ·exact (w.wh a z).upd (by rintro rfl; exact f2 z)
theorem Wd.allocH (w:Wd R W B H) {p:Addr} (h:H p=none) (o:HO):Wd R W B (upd H p o):=by
 obtain ⟨f1,f2,f3⟩:=w.fresh h
 refine ⟨fun a u q nw=>?_,fun a u q=>?_,w.wb,fun a z=>?_,w.wr⟩
 ·rw [upd_ne (by rintro rfl; rw [f1] at q; cases q)]; exact w.fr a u q nw
 ·rw [upd_ne (by rintro rfl; rw [f3] at q; cases q)]; exact w.bh a u q
 ·exact (w.wh a z).upd (by rintro rfl; exact f2 z)
theorem Ev.notNew (e:Ev K R W B H σ ρ) {p:Addr} (h:H p=none) {i:Nat} {a:Addr} (m:MutAt σ ρ i a):a≠p:=by
 rintro rfl
 exact (e.mutOk m).2 h
theorem Ev.alloc (e:Ev K R W B H σ ρ) {p:Addr} (h:H p=none) (o:HO):Ev K R W (upd B p o) (upd H p o) σ ρ:=by
 obtain ⟨f1,f2,f3⟩:=e.toWd.fresh h
 refine e.move (e.toWd.alloc h o) (same_new f3 o) fun i a m=>?_
 have n:=e.notNew h m
 refine ⟨by rw [upd_ne n]; exact (e.mutOk m).1,fun z=>?_,fun _=>upd_ne n⟩
 obtain ⟨b,e1,_,_,e4⟩:=e.bagAt z
 rw [mut_bag m z] at e1; cases e1
 exact e4.upd n
theorem Ev.allocH (e:Ev K R W B H σ ρ) {p:Addr} (h:H p=none) (o:HO):Ev K R W B (upd H p o) σ ρ:=by
 refine e.move (e.toWd.allocH h o) (Same.refl _) fun i a m=>?_
 have n:=e.notNew h m
 refine ⟨(e.mutOk m).1,fun z=>?_,fun _=>upd_ne n⟩
 obtain ⟨b,e1,_,_,e4⟩:=e.bagAt z
 rw [mut_bag m z] at e1; cases e1
 exact e4.upd n
theorem Ev.grow (e:Ev K R W B H σ ρ) {p:Addr} (h:H p=none) (o:HO):Grow R B (upd B p o):=by
 obtain ⟨f1,f2,f3⟩:=e.toWd.fresh h
 refine ⟨same_new f3 o,fun a u q=>?_⟩
 by_cases z:a=p
 ·subst z; exact .inr f1
 ·rw [upd_ne z] at q; exact .inl q
theorem Ev.freezeO (e:Ev K R W B H σ ρ) {a:Addr} {o:HO} (h:H a=some o) (hr:R a=none) (hb:B a=none) (hm:∀ i,¬ MutAt σ ρ i a):Ev K R W (upd B a o) H σ ρ∧Grow R B (upd B a o):=by
 have nw:¬ W a:=fun z=>e.wr a z hr
 refine ⟨e.move ⟨e.fr,fun b u q=>?_,fun b z=>?_,e.wh,e.wr⟩ (same_new hb _) (fun i b m=>?_),⟨same_new hb _,fun b u q=>?_⟩⟩
 ·by_cases z:b=a
  ·subst z; rw [upd_same] at q; cases q; exact h
  ·rw [upd_ne z] at q; exact e.bh b u q
 ·rw [upd_ne (by rintro rfl; exact nw z)]; exact e.wb b z
 ·have n:b≠a:=by rintro rfl; exact hm i m
  refine ⟨by rw [upd_ne n]; exact (e.mutOk m).1,fun z=>?_,fun _=>rfl⟩
  obtain ⟨c,e1,_,_,e4⟩:=e.bagAt z
  rw [mut_bag m z] at e1; cases e1
  exact e4
 ·by_cases z:b=a
  ·subst z; exact .inr hr
  ·rw [upd_ne z] at q; exact .inl q
theorem Ev.freeze (e:Ev K R W B H σ ρ) {a:Addr} {vs:List V} (h:H a=some (.lst vs)) (hr:R a=none) (hb:B a=none) (hm:∀ i,¬ MutAt σ ρ i a):Ev K R W (upd B a (.lst vs)) H σ ρ∧Grow R B (upd B a (.lst vs)):=e.freezeO h hr hb hm
theorem getElem?_set_some {α:Type} {l:List α} {i j:Nat} {x y:α} (h:(l.set i x)[j]?=some y):(j=i∧y=x)∨(j≠i∧l[j]?=some y):=by
 by_cases e:i=j
 ·subst e
  rw [List.getElem?_set_self'] at h
  cases q:l[i]? with
  | none=>rw [q] at h; cases h
  | some z=>rw [q] at h; exact .inl ⟨rfl,(Option.some.inj h).symm⟩
 ·rw [List.getElem?_set_ne e] at h
  exact .inr ⟨fun z=>e z.symm,h⟩
def Sl.adrs:Sl→List Addr
 | .deep c=>c.adr :: c.ins
 | _=>[]
theorem mut_set {i j:Nat} {v:V} {k:Sl} {a:Addr} (m:MutAt (σ.set i (some v)) (ρ.set i k) j a):(j=i∧((v=.ref a∧(k=.bag∨∃ ds,k=.own ds))∨a∈k.adrs))∨(j≠i∧MutAt σ ρ j a):=by
 rcases m with ⟨h1,h2⟩ | ⟨c,h1,h2⟩
 ·rcases getElem?_set_some h1 with ⟨e,h1⟩ | ⟨e,h1⟩
  ·refine .inl ⟨e,.inl ⟨(Option.some.inj h1).symm,?_⟩⟩
   rcases h2 with h2 | ⟨ds,h2⟩
   ·rcases getElem?_set_some h2 with ⟨_,h2⟩ | ⟨n,_⟩
    ·exact .inl h2.symm
    ·exact absurd e n
   ·rcases getElem?_set_some h2 with ⟨_,h2⟩ | ⟨n,_⟩
    ·exact .inr ⟨ds,h2.symm⟩
    ·exact absurd e n
  ·refine .inr ⟨e,.inl ⟨h1,?_⟩⟩
   rcases h2 with h2 | ⟨ds,h2⟩
   ·rcases getElem?_set_some h2 with ⟨n,_⟩ | ⟨_,h2⟩
    ·exact absurd n e
    ·exact .inl h2
   ·rcases getElem?_set_some h2 with ⟨n,_⟩ | ⟨_,h2⟩
    ·exact absurd n e
    ·exact .inr ⟨ds,h2⟩
 ·rcases getElem?_set_some h1 with ⟨e,h1⟩ | ⟨e,h1⟩
  ·exact .inl ⟨e,.inr (by rw [← h1]; exact h2)⟩
  ·exact .inr ⟨e,.inr ⟨c,h1,h2⟩⟩
theorem mut_setV {i j:Nat} {v:V} {k:Sl} {a:Addr} (m:MutAt (σ.set i (some v)) (ρ.set i k) j a) (n1:k≠.bag) (n2:∀ c,k≠.own c) (n3:k.adrs=[]):j≠i∧MutAt σ ρ j a:=by
 rcases mut_set m with ⟨_,⟨_,z | ⟨c,z⟩⟩ | z⟩ | m
 ·exact absurd z n1
 ·exact absurd z (n2 c)
 ·rw [n3] at z; cases z
 ·exact m
theorem Ev.set (e:Ev K R W B H σ ρ) (i:Nat) {v:V} {k:Sl} (hk:SlOk K R W B H (some v) k) (hm:∀ a,v=.ref a→(k=.bag∨∃ ds,k=.own ds)→∀ j,j≠i→¬ MutAt σ ρ j a) (hd:∀ a∈k.adrs,∀ j,j≠i→¬ MutAt σ ρ j a:=by intro _ z; cases z):Ev K R W B H (σ.set i (some v)) (ρ.set i k):=by
 refine ⟨e.toWd,by rw [List.length_set,List.length_set]; exact e.len,fun j k' h=>?_,fun x y a hx hy=>?_⟩
 ·rcases getElem?_set_some h with ⟨rfl,rfl⟩ | ⟨n,h⟩
  ·have lt:j < σ.length:=by
    rw [e.len]
    by_cases z:j < ρ.length
    ·exact z
    ·rw [List.getElem?_eq_none (by rw [List.length_set]; omega)] at h; cases h
   have q:((σ.set j (some v))[j]?).join=some v:=by rw [List.getElem?_set_self lt]; rfl
   rw [q]; exact hk
  ·rw [List.getElem?_set_ne (fun z=>n z.symm)]
   exact e.ok j k' h
 ·rcases mut_set hx with ⟨e1,z1⟩ | ⟨n1,m1⟩
  ·rcases mut_set hy with ⟨e2,_⟩ | ⟨n2,m2⟩
   ·rw [e1,e2]
   ·rcases z1 with ⟨v1,k1⟩ | z1
    ·exact absurd m2 (hm a v1 k1 y n2)
    ·exact absurd m2 (hd a z1 y n2)
  ·rcases mut_set hy with ⟨e2,z2⟩ | ⟨n2,m2⟩
   ·rcases z2 with ⟨v2,k2⟩ | z2
    ·exact absurd m1 (hm a v2 k2 x n1)
    ·exact absurd m1 (hd a z2 x n1)
   ·exact e.sep x y a m1 m2
theorem Ev.setV (e:Ev K R W B H σ ρ) (i:Nat) {v:V} {d:D} (r:Rep K B v d):Ev K R W B H (σ.set i (some v)) (ρ.set i (.val d)) :=
 e.set i ⟨v,rfl,r⟩ fun _ _ z=>by rcases z with z | ⟨_,z⟩ <;> cases z
theorem Ev.setO (e:Ev K R W B H σ ρ) (i:Nat) {a:Addr} {vs:List V} {ds:List D} (hr:R a=none) (hb:B a=none) (hh:H a=some (.lst vs)) (r:Reps K B vs ds) (hm:∀ j,j≠i→¬ MutAt σ ρ j a):Ev K R W B H (σ.set i (some (.ref a))) (ρ.set i (.own ds)) :=
 e.set i ⟨a,rfl,hr,hb,vs,hh,r⟩ fun b z _=>by cases z; exact hm
theorem Ev.writeC (e:Ev K R W B H σ ρ) {i:Nat} {a:Addr} {c c':Cn} {o:HO} (h:σ[i]?=some (some (.ref a))) (ho:ρ[i]?=some (.own c)) (r:CnOk K B (upd H a o) a c'):Ev K R W B (upd H a o) σ (ρ.set i (.own c')):=by
 obtain ⟨a',e1,e2,e3,e4⟩:=e.ownC ho
 rw [h] at e1; cases e1
 have nw:¬ W a:=fun z=>e.wr a z e2
 have me:MutAt σ ρ i a:=.inl ⟨h,.inr ⟨c,ho⟩⟩
 refine ⟨⟨fun b u q z=>?_,fun b u q=>?_,e.wb,fun b z=>?_,e.wr⟩,by rw [List.length_set]; exact e.len,fun j k q=>?_,fun x y b hx hy=>?_⟩
 ·rw [upd_ne (by rintro rfl; rw [e2] at q; cases q)]; exact e.fr b u q z
 ·rw [upd_ne (by rintro rfl; rw [e3] at q; cases q)]; exact e.bh b u q
 ·exact (e.wh b z).upd (by rintro rfl; exact nw z)
 ·rcases getElem?_set_some q with ⟨rfl,rfl⟩ | ⟨n,q⟩
  ·exact ⟨a,by rw [h]; rfl,e2,e3,r⟩
  ·have z:=e.ok j k q
   cases k with
   | no=>trivial
   | new d=>exact z
   | pin v d=>exact z
   | val d=>exact z
   | own es =>
    obtain ⟨b,z1,z2,z3,z4⟩:=z
    exact ⟨b,z1,z2,z3,z4.mono (Same.refl _) (upd_ne (by rintro rfl; exact n (e.sep j i b (.inl ⟨join_some z1,.inr ⟨es,q⟩⟩) me)))⟩
   | deep d =>
    exact ⟨z.1,z.2.fr,z.2.nd,z.2.ok.mono (Same.refl _) fun b mb=>upd_ne (by rintro rfl; exact n (e.sep j i b (.inr ⟨d,q,mb⟩) me))⟩
   | bag =>
    obtain ⟨b,z1,z2,z3,z4⟩:=z
    exact ⟨b,z1,z2,z3,z4.upd (by rintro rfl; exact n (e.sep j i b (.inl ⟨join_some z1,.inl q⟩) me))⟩
 ·have back:∀ x,MutAt σ (ρ.set i (.own c')) x b→MutAt σ ρ x b:=fun x m=>by
   rcases m with ⟨m1,m2⟩ | ⟨d,m1,m2⟩
   ·by_cases z:x=i
    ·subst z; exact .inl ⟨m1,.inr ⟨c,ho⟩⟩
    ·refine .inl ⟨m1,?_⟩
     rw [List.getElem?_set_ne (fun w=>z w.symm)] at m2
     exact m2
   ·rcases getElem?_set_some m1 with ⟨_,z⟩ | ⟨_,m1⟩
    ·cases z
    ·exact .inr ⟨d,m1,m2⟩
  exact e.sep x y b (back x hx) (back y hy)
theorem Ev.write (e:Ev K R W B H σ ρ) {i:Nat} {a:Addr} {ds ds':List D} {vs:List V} (h:σ[i]?=some (some (.ref a))) (ho:ρ[i]?=some (.own ds)) (r:Reps K B vs ds'):Ev K R W B (upd H a (.lst vs)) σ (ρ.set i (.own ds')) :=
 e.writeC h ho ⟨vs,upd_same,r⟩
theorem Ev.fz (e:Ev K R W B H σ ρ) {i:Nat} {ds:List D} (ho:ρ[i]?=some (.own ds)):∃ B',Ev K R W B' H σ (ρ.set i (.val (.lst ds)))∧Grow R B B':=by
 obtain ⟨a,vs,e1,e2,e3,e4,e5⟩:=e.ownAt ho
 have me:MutAt σ ρ i a:=.inl ⟨e1,.inr ⟨ds,ho⟩⟩
 have f:=(e.setV (d:=.non) i (v:=.non) .non)
 have f2:=f.freeze e4 e2 e3 (fun j m=>by
  obtain ⟨n,m⟩:=mut_setV m (by simp) (by simp) rfl
  exact n (e.sep j i a m me))
 refine ⟨_,?_,f2.2⟩
 have g:=f2.1.setV i (v:=.ref a) (d:=.lst ds) (.lst upd_same (e5.mono f2.2.s))
 rw [List.set_set,List.set_set] at g
 have q:σ.set i (some (.ref a))=σ:=by
  apply List.ext_getElem?
  intro j
  by_cases z:i=j
  ·subst z
   have lt:i < σ.length:=by
    by_cases z:i < σ.length
    ·exact z
    ·rw [List.getElem?_eq_none (by omega)] at e1; cases e1
   rw [List.getElem?_set_self lt,e1]
  ·rw [List.getElem?_set_ne z]
 rw [q] at g
 exact g
end
end L3
namespace L3
open PySem L2
open PySem.Builtin.Int (intBits)
abbrev UE:=List Sl→(D→Prop)→Prop
abbrev UL:=List Sl→(List D→Prop)→Prop
abbrev UT:=List Sl→(Bool→Prop)→Prop
inductive Arg where
 | val (d:D) | bag (i:Nat)
abbrev UA:=List Sl→(List Arg→Prop)→Prop
structure UEnds where
 nx:List Sl→Prop
 rt:Sl→Prop
 bk:List Sl→Prop:=fun _=>False
 ct:List Sl→Prop:=fun _=>False
abbrev US:=UEnds→List Sl→Prop
abbrev UG:=D→List Sl→(List Sl→Prop)→Prop
abbrev UGs:=List D→List Sl→(List Sl→Prop)→Prop
section
variable (K:PySem.W.Frag)
def RefE (t:TE) (u:UE):Prop:=∀ (ρ:List Sl) (k:D→Prop),u ρ k→∀ (R:Hp) (W:Addr→Prop) (B H:Hp) (σ:St) (Q:VK),Ev K R W B H σ ρ →
 (∀ d v B' H',k d→Ev K R W B' H' σ ρ→Grow R B B'→Rep K B' v d→Q v H')→t σ H Q
def RefO (t:TE) (u:UL):Prop:=∀ (ρ:List Sl) (k:List D→Prop),u ρ k→∀ (R:Hp) (W:Addr→Prop) (B H:Hp) (σ:St) (Q:VK),Ev K R W B H σ ρ →
 (∀ ds a vs B' H',k ds→Ev K R W B' H' σ ρ→Grow R B B'→R a=none→B' a=none→H' a=some (.lst vs)→Reps K B' vs ds→(∀ i,¬ MutAt σ ρ i a)→Q (.ref a) H')→t σ H Q
def RefT (t:TT) (u:UT):Prop:=∀ (ρ:List Sl) (k:Bool→Prop),u ρ k→∀ (R:Hp) (W:Addr→Prop) (B H:Hp) (σ:St) (Q:Bool→Hp→Prop),Ev K R W B H σ ρ →
 (∀ b B' H',k b→Ev K R W B' H' σ ρ→Grow R B B'→Q b H')→t σ H Q
def RefL (t:TA) (u:UL):Prop:=∀ (ρ:List Sl) (k:List D→Prop),u ρ k→∀ (R:Hp) (W:Addr→Prop) (B H:Hp) (σ:St) (Q:List V→Hp→Prop),Ev K R W B H σ ρ →
 (∀ ds vs B' H',k ds→Ev K R W B' H' σ ρ→Grow R B B'→Reps K B' vs ds→Q vs H')→t σ H Q
inductive ArgsOk (B:Hp) (σ:St) (ρ:List Sl):List V→List Arg→Prop where
 | nil:ArgsOk B σ ρ [] []
 | val {v:V} {d:D} {vs:List V} {as:List Arg} (h:Rep K B v d) (r:ArgsOk B σ ρ vs as):ArgsOk B σ ρ (v :: vs) (.val d :: as)
 | bag {v:V} {i:Nat} {vs:List V} {as:List Arg} (h:σ[i]?=some (some v)) (hb:ρ[i]?=some .bag) (r:ArgsOk B σ ρ vs as):ArgsOk B σ ρ (v :: vs) (.bag i :: as)
def RefA (t:TA) (u:UA):Prop:=∀ (ρ:List Sl) (k:List Arg→Prop),u ρ k→∀ (R:Hp) (W:Addr→Prop) (B H:Hp) (σ:St) (Q:List V→Hp→Prop),Ev K R W B H σ ρ →
 (∀ as vs B' H',k as→Ev K R W B' H' σ ρ→Grow R B B'→ArgsOk K B' σ ρ vs as→Q vs H')→t σ H Q
def newL (R B:Hp):Hp:=fun a=>match B a with
 | some (.lst vs)=>if (R a).isNone then some (.lst vs) else none
 | o=>o
def ResOk (R:Hp) (B H:Hp) (v:V):Sl→Prop
 | .no=>False
 | .val d=>Rep K B v d
 | .own c=>∃ a,v=.ref a∧R a=none∧B a=none∧CnOk K B H a c
 | .bag=>∃ b,v=.ref b∧R b=none∧B b=none∧Bag H b
 | .new d=>Rep K (newL R B) v d
 | .pin _ _=>False
 | .deep _=>False
structure Sim (R:Hp) (W:Addr→Prop) (B:Hp) (U:UEnds) (D:Ends):Prop where
 nx:∀ ρ σ B' H',U.nx ρ→Ev K R W B' H' σ ρ→Grow R B B'→D.nx σ H'
 bk:∀ ρ σ B' H',U.bk ρ→Ev K R W B' H' σ ρ→Grow R B B'→D.bk σ H'
 ct:∀ ρ σ B' H',U.ct ρ→Ev K R W B' H' σ ρ→Grow R B B'→D.ct σ H'
 rt:∀ r v B' H',U.rt r→Wd R W B' H'→Grow R B B'→ResOk K R B' H' v r→D.rt v H'
def RefS (t:TS) (u:US):Prop:=∀ (U:UEnds) (ρ:List Sl),u U ρ→∀ (R:Hp) (W:Addr→Prop) (B H:Hp) (σ:St) (D:Ends),Ev K R W B H σ ρ→Sim K R W B U D→t D σ H
def RefG (g:TG) (u:UG):Prop:=∀ (d:D) (ρ:List Sl) (k:List Sl→Prop),u d ρ k→∀ (R:Hp) (W:Addr→Prop) (B H:Hp) (σ:St) (v:V) (Q:St→Hp→Prop),Ev K R W B H σ ρ→Rep K B v d →
 (∀ ρ' σ',k ρ'→Ev K R W B H σ' ρ'→(∀ j a,MutAt σ' ρ' j a→MutAt σ ρ j a)→Q σ' H)→g v σ H Q
def RefGs (g:TGs) (u:UGs):Prop:=∀ (ds:List D) (ρ:List Sl) (k:List Sl→Prop),u ds ρ k→∀ (R:Hp) (W:Addr→Prop) (B H:Hp) (σ:St) (vs:List V) (Q:St→Hp→Prop),Ev K R W B H σ ρ→Reps K B vs ds →
 (∀ ρ' σ',k ρ'→Ev K R W B H σ' ρ'→(∀ j a,MutAt σ' ρ' j a→MutAt σ ρ j a)→Q σ' H)→g vs σ H Q
def ItOk (B:Hp) (J:It) (ds:List D):Prop:=∀ (H:Hp),Same B H→∀ i,(i < ds.length→J.go i H)∧(ds.length≤i→J.stop i H)∧∀ x H',i < ds.length→J.yld i H x H'→H'=H∧∃ d,ds[i]?=some d∧Rep K B x d
def RefI (t:TI) (u:UL):Prop:=∀ (ρ:List Sl) (k:List D→Prop),u ρ k→∀ (R:Hp) (W:Addr→Prop) (B H:Hp) (σ:St) (Q:It→Hp→Prop),Ev K R W B H σ ρ →
 (∀ ds J B' H',k ds→Ev K R W B' H' σ ρ→Grow R B B'→ItOk K B' J ds→Q J H')→t σ H Q
end
theorem newL_sub {R B:Hp}:Same (newL R B) B:=fun a o h=>by
 unfold newL at h
 split at h
 ·rename_i vs e
  split at h
  ·rw [e]; exact h
  ·cases h
 ·exact h
theorem newL_mono {R B B':Hp} (s:Same B B'):Same (newL R B) (newL R B'):=fun a o h=>by
 have hB:=s a o (newL_sub a o h)
 unfold newL at h ⊢
 rw [hB]
 split at h
 ·rename_i vs e
  split at h
  ·rename_i z
   have:=Option.some.inj h
   subst this
   dsimp only
   rw [if_pos z]
  ·cases h
 ·rename_i ne
  cases o with
  | lst vs=>exact absurd h (ne vs)
  | _=>rfl
theorem newL_weak {R R' B:Hp} (w:∀ a,R' a=none→R a=none):Same (newL R' B) (newL R B):=fun a o h=>by
 have hB:=newL_sub a o h
 unfold newL at h ⊢
 rw [hB] at h ⊢
 cases o with
 | lst vs =>
  dsimp only at h ⊢
  split at h
  ·rename_i z
   rw [if_pos (by rw [Option.isNone_iff_eq_none] at z ⊢; exact w a z)]
  ·cases h
 | _=>rfl
theorem newL_at {R B:Hp} {a:Addr} {vs:List V} (h:B a=some (.lst vs)) (n:R a=none):newL R B a=some (.lst vs):=by
 unfold newL
 rw [h]
 dsimp only
 rw [if_pos (by rw [n]; rfl)]
theorem newL_out {R B:Hp} {a:Addr} {vs:List V} (h:newL R B a=some (.lst vs)):B a=some (.lst vs)∧R a=none:=by
 have hB:=newL_sub a _ h
 refine ⟨hB,?_⟩
 unfold newL at h
 rw [hB] at h
 dsimp only at h
 split at h
 ·rename_i z; rw [Option.isNone_iff_eq_none] at z; exact z
 ·cases h
theorem Sim.grow {K:PySem.W.Frag} {R:Hp} {W:Addr→Prop} {B B':Hp} {U:UEnds} {D:Ends} (s:Sim K R W B U D) (g:Grow R B B'):Sim K R W B' U D :=
 ⟨fun ρ σ C H h e q=>s.nx ρ σ C H h e (g.trans q),fun ρ σ C H h e q=>s.bk ρ σ C H h e (g.trans q),fun ρ σ C H h e q=>s.ct ρ σ C H h e (g.trans q),fun r v C H h e q z=>s.rt r v C H h e (g.trans q) z⟩
section
variable (X:Cx)
def PE3 (e:Expr) (u:UE):Prop:=∃ t,PE X e t∧RefE X.K t u
def PO3 (e:Expr) (u:UL):Prop:=∃ t,PE X e t∧RefO X.K t u
def PT3 (e:Expr) (u:UT):Prop:=∃ t,PT X e t∧RefT X.K t u
def PW3 (e:Expr) (u:UT):Prop:=∃ t,PW X e t∧RefT X.K t u
def PL3 (es:List Expr) (u:UL):Prop:=∃ t,PA X es t∧RefL X.K t u
def PA3 (es:List Expr) (u:UA):Prop:=∃ t,PA X es t∧RefA X.K t u
def PS3 (s:Stmt) (u:US):Prop:=∃ t,PS X s t∧RefS X.K t u
def PSs3 (s:List Stmt) (u:US):Prop:=∃ t,PSs X s t∧RefS X.K t u
def PG3 (e:Expr) (u:UG):Prop:=∃ t,PG X e t∧RefG X.K t u
def PGs3 (e:List Expr) (u:UGs):Prop:=∃ t,PGs X e t∧RefGs X.K t u
def PI3 (tg e:Expr) (u:UL):Prop:=∃ t,PI X tg e t∧RefI X.K t u
end
def uVar (i:Nat):UE:=fun ρ k=>∃ d,ρ[i]?=some (.val d)∧k d
def uC (d:D):UE:=fun _ k=>k d
def uI (C:Int→Int→Prop) (g:Int→Int→D) (ua ub:UE):UE:=fun ρ k=>ua ρ fun x=>ub ρ fun y=>∃ i j,x=.int i∧y=.int j∧C i j∧k (g i j)
def uI0 (g:Int→Int→D) (ua ub:UE):UE:=fun ρ k=>ua ρ fun x=>ub ρ fun y=>∃ i j,x=.int i∧y=.int j∧k (g i j)
def uNeg (ua:UE):UE:=fun ρ k=>ua ρ fun x=>∃ i,x=.int i∧k (.int (-i))
section
variable {K:PySem.W.Frag} {X:Cx}
theorem refVar (i:Nat):RefE K (tVar i) (uVar i):=by
 intro ρ k h R W B H σ Q e q
 obtain ⟨d,h,z⟩:=h
 obtain ⟨v,e1,r⟩:=e.val h
 exact ⟨v,e1,q d v B H z e (Grow.refl _ _) r⟩
theorem refC {v:V} {d:D} (h:∀ B,Rep K B v d):RefE K (tC v) (uC d):=fun ρ k z R W B H σ Q e q=>q d v B H z e (Grow.refl _ _) (h B)
theorem ref2 {ta tb:TE} {ua ub:UE} {r:R2} {f:D→D→(D→Prop)→Prop} (ha:RefE K ta ua) (hb:RefE K tb ub)
  (hr:∀ (x y:D) (k:D→Prop),f x y k→∀ (R:Hp) (W:Addr→Prop) (B H:Hp) (σ:St) (ρ:List Sl) (v w:V) (Q:VK),Ev K R W B H σ ρ→Rep K B v x→Rep K B w y→(∀ d v B' H',k d→Ev K R W B' H' σ ρ→Grow R B B'→Rep K B' v d→Q v H')→r v w H Q) :
  RefE K (tOp r ta tb) (fun ρ k=>ua ρ fun x=>ub ρ fun y=>f x y k):=by
 intro ρ k h R W B H σ Q e q
 refine ha ρ _ h R W B H σ _ e fun x v B1 H1 h1 e1 g1 r1=>?_
 refine hb ρ _ h1 R W B1 H1 σ _ e1 fun y w B2 H2 h2 e2 g2 r2=>?_
 exact hr x y k h2 R W B2 H2 σ ρ v w Q e2 (r1.mono g2.s) r2 fun d u B3 H3 h3 e3 g3 r3=>q d u B3 H3 h3 e3 ((g1.trans g2).trans g3) r3
theorem ref1 {ta:TE} {ua:UE} {r:V→Hp→VK→Prop} {f:D→(D→Prop)→Prop} (ha:RefE K ta ua)
  (hr:∀ (x:D) (k:D→Prop),f x k→∀ (R:Hp) (W:Addr→Prop) (B H:Hp) (σ:St) (ρ:List Sl) (v:V) (Q:VK),Ev K R W B H σ ρ→Rep K B v x→(∀ d v B' H',k d→Ev K R W B' H' σ ρ→Grow R B B'→Rep K B' v d→Q v H')→r v H Q) :
  RefE K (tUn r ta) (fun ρ k=>ua ρ fun x=>f x k):=by
 intro ρ k h R W B H σ Q e q
 refine ha ρ _ h R W B H σ _ e fun x v B1 H1 h1 e1 g1 r1=>?_
 exact hr x k h1 R W B1 H1 σ ρ v Q e1 r1 fun d u B3 H3 h3 e3 g3 r3=>q d u B3 H3 h3 e3 (g1.trans g3) r3
theorem Rep.intV {B:Hp} {v:V} {i:Int} (r:Rep K B v (.int i)):v=.int i:=by cases r; rfl
theorem Rep.blV {B:Hp} {v:V} {b:Bool} (r:Rep K B v (.bl b)):v=.bl b:=by cases r; rfl
theorem Rep.nonV {B:Hp} {v:V} (r:Rep K B v .non):v=.non:=by cases r; rfl
theorem Rep.tupV {B:Hp} {v:V} {ds:List D} (r:Rep K B v (.tup ds)):∃ a vs,v=.ref a∧B a=some (.tup vs)∧Reps K B vs ds:=by
 cases r with | tup h r=>exact ⟨_,_,rfl,h,r⟩
theorem Rep.lstV {B:Hp} {v:V} {ds:List D} (r:Rep K B v (.lst ds)):∃ a vs,v=.ref a∧B a=some (.lst vs)∧Reps K B vs ds:=by
 cases r with | lst h r=>exact ⟨_,_,rfl,h,r⟩
theorem Rep.scrV {B:Hp} {v:V} {ns:List Int} (r:Rep K B v (.scr ns)):∃ a,v=.ref a∧SqL K B a (ns.map V.int):=by
 cases r with | scr h=>exact ⟨_,rfl,h⟩
theorem refI {C:Int→Int→Prop} {f:Int→Int→V} {g:Int→Int→D} {ta tb:TE} {ua ub:UE} (hg:∀ B i j,Rep K B (f i j) (g i j)) (ha:RefE K ta ua) (hb:RefE K tb ub):RefE K (tOp (rI C f) ta tb) (uI C g ua ub) :=
 ref2 ha hb fun x y k h R W B H σ ρ v w Q e rx ry q=>by
  obtain ⟨i,j,rfl,rfl,hc,hk⟩:=h
  exact ⟨i,j,rx.intV,ry.intV,hc,q _ _ B H hk e (Grow.refl _ _) (hg B i j)⟩
theorem refI0 {f:Int→Int→V} {g:Int→Int→D} {ta tb:TE} {ua ub:UE} (hg:∀ B i j,Rep K B (f i j) (g i j)) (ha:RefE K ta ua) (hb:RefE K tb ub):RefE K (tOp (rI0 f) ta tb) (uI0 g ua ub) :=
 ref2 ha hb fun x y k h R W B H σ ρ v w Q e rx ry q=>by
  obtain ⟨i,j,rfl,rfl,hk⟩:=h
  exact ⟨i,j,rx.intV,ry.intV,q _ _ B H hk e (Grow.refl _ _) (hg B i j)⟩
theorem refNeg {ta:TE} {ua:UE} (ha:RefE K ta ua):RefE K (tUn (rU fun i=>.int (-i)) ta) (uNeg ua) :=
 ref1 (f:=fun x k=>∃ i,x=.int i∧k (.int (-i))) ha fun x k h R W B H σ ρ v Q e rx q=>by
  obtain ⟨i,rfl,hk⟩:=h
  exact ⟨i,rx.intV,q _ _ B H hk e (Grow.refl _ _) (.int _)⟩
variable {a b:Expr} {ua ub:UE} {pos:Pos}
theorem v3 (i:Nat) {x:Str} {pos:Pos} (hN:X.N[i]?=some x:=by rfl) (hv:Vis X.env.scope x:=by first | exact Or.inl rfl | exact Or.inr (Or.inl rfl) | exact Or.inr (Or.inr rfl)) (hd:(x == ("__debug__" : Str))=false:=by decide)
  (hcd:(x == ("__classdict__" : Str))=false:=by decide):PE3 X (.Name x pos) (uVar i):=⟨_,pe_var hN hv hd hcd,refVar i⟩
theorem e_int {i j pos}:PE3 X (.Constant (.int i) j pos) (uC (.int i)):=⟨_,pe_int,refC fun _=>.int _⟩
theorem e_bl {b j pos}:PE3 X (.Constant (.bool b) j pos) (uC (.bl b)):=⟨_,pe_bl,refC fun _=>.bl _⟩
theorem e_add (ha:PE3 X a ua) (hb:PE3 X b ub):PE3 X (.BinOp a .Add b pos) (uI0 (fun i j=>.int (i + j)) ua ub):=by
 obtain ⟨_,h1,r1⟩:=ha; obtain ⟨_,h2,r2⟩:=hb
 exact ⟨_,pe_op op_add h1 h2,refI0 (fun _ _ _=>.int _) r1 r2⟩
theorem e_sub (ha:PE3 X a ua) (hb:PE3 X b ub):PE3 X (.BinOp a .Sub b pos) (uI0 (fun i j=>.int (i - j)) ua ub):=by
 obtain ⟨_,h1,r1⟩:=ha; obtain ⟨_,h2,r2⟩:=hb
 exact ⟨_,pe_op op_sub h1 h2,refI0 (fun _ _ _=>.int _) r1 r2⟩
theorem e_mul (ha:PE3 X a ua) (hb:PE3 X b ub):PE3 X (.BinOp a .Mult b pos) (uI CMulB (fun i j=>.int (i * j)) ua ub):=by
 obtain ⟨_,h1,r1⟩:=ha; obtain ⟨_,h2,r2⟩:=hb
 exact ⟨_,pe_op op_mulB h1 h2,refI (fun _ _ _=>.int _) r1 r2⟩
theorem e_fdiv (ha:PE3 X a ua) (hb:PE3 X b ub):PE3 X (.BinOp a .FloorDiv b pos) (uI CDivB (fun i j=>.int (i.fdiv j)) ua ub):=by
 obtain ⟨_,h1,r1⟩:=ha; obtain ⟨_,h2,r2⟩:=hb
 exact ⟨_,pe_op op_fdivB h1 h2,refI (fun _ _ _=>.int _) r1 r2⟩
theorem e_mod (ha:PE3 X a ua) (hb:PE3 X b ub):PE3 X (.BinOp a .Mod b pos) (uI (fun _ j=>0 < j) (fun i j=>.int (i % j)) ua ub):=by
 obtain ⟨_,h1,r1⟩:=ha; obtain ⟨_,h2,r2⟩:=hb
 exact ⟨_,pe_op op_mod h1 h2,refI (fun _ _ _=>.int _) r1 r2⟩
theorem e_neg (ha:PE3 X a ua):PE3 X (.UnaryOp .USub a pos) (uNeg ua):=by
 obtain ⟨_,h1,r1⟩:=ha
 exact ⟨_,pe_un un_neg h1,refNeg r1⟩
def Cm (op:CmpOp) (f:Int→Int→Bool) (X:Cx):Prop:=OpR X (compareOp op) (rI0 fun i j=>.bl (f i j))
theorem e_cmp {op:CmpOp} {f:Int→Int→Bool} (ho:Cm op f X) (ha:PE3 X a ua) (hb:PE3 X b ub) (hm:behindInMarks op b=false):PE3 X (.Compare a [op] [b] pos) (uI0 (fun i j=>.bl (f i j)) ua ub):=by
 obtain ⟨_,h1,r1⟩:=ha; obtain ⟨_,h2,r2⟩:=hb
 exact ⟨_,pe_cmpR ho h1 h2 hm,refI0 (fun _ _ _=>.bl _) r1 r2⟩
def uB (ua:UE):UT:=fun ρ k=>ua ρ fun x=>∃ c,x=.bl c∧k c
def uNotT (u:UT):UT:=fun ρ k=>u ρ fun c=>k (!c)
def uAndT (u w:UT):UT:=fun ρ k=>u ρ fun c=>if c=true then w ρ k else k false
def uOrT (u w:UT):UT:=fun ρ k=>u ρ fun c=>if c=true then k true else w ρ k
theorem refB {ta:TE} {ua:UE} (ha:RefE K ta ua):RefT K (tB ta) (uB ua):=by
 intro ρ k h R W B H σ Q e q
 refine ha ρ _ h R W B H σ _ e fun x v B1 H1 h1 e1 g1 r1=>?_
 obtain ⟨c,rfl,hk⟩:=h1
 exact ⟨c,r1.blV,q c B1 H1 hk e1 g1⟩
theorem t_val {e:Expr} {u:UE} (h:PE3 X e u) (he:∀ whole,isTrue e X.env whole=(do let v ← whole; standAt e.pos; holding [v] (truthy v)):=by intro _; rfl):PT3 X e (uB u):=by
 obtain ⟨_,h1,r1⟩:=h
 exact ⟨_,pt_val h1 he,refB r1⟩
theorem t_cmp {op:CmpOp} {f:Int→Int→Bool} (ho:Cm op f X) (ha:PE3 X a ua) (hb:PE3 X b ub) (hm:behindInMarks op b=false):PT3 X (.Compare a [op] [b] pos) (uB (uI0 (fun i j=>.bl (f i j)) ua ub)):=by
 obtain ⟨_,h1,r1⟩:=ha; obtain ⟨_,h2,r2⟩:=hb
 exact ⟨_,pt_cmpR ho h1 h2 hm,refB (refI0 (fun _ _ _=>.bl _) r1 r2)⟩
theorem refNotT {t:TT} {u:UT} (h:RefT K t u):RefT K (tNot t) (uNotT u):=fun ρ k z R W B H σ Q e q=>h ρ _ z R W B H σ _ e fun b B' H' h1 e1 g1=>q (!b) B' H' h1 e1 g1
theorem refAndT {t t':TT} {u u':UT} (h:RefT K t u) (h':RefT K t' u'):RefT K (tAnd t t') (uAndT u u'):=by
 intro ρ k z R W B H σ Q e q
 refine h ρ _ z R W B H σ _ e fun b B1 H1 h1 e1 g1=>?_
 cases b with
 | true =>
  rw [if_pos rfl] at h1 ⊢
  exact h' ρ _ h1 R W B1 H1 σ _ e1 fun c B2 H2 h2 e2 g2=>q c B2 H2 h2 e2 (g1.trans g2)
 | false =>
  rw [if_neg Bool.false_ne_true] at h1 ⊢
  exact q false B1 H1 h1 e1 g1
theorem refOrT {t t':TT} {u u':UT} (h:RefT K t u) (h':RefT K t' u'):RefT K (tOr t t') (uOrT u u'):=by
 intro ρ k z R W B H σ Q e q
 refine h ρ _ z R W B H σ _ e fun b B1 H1 h1 e1 g1=>?_
 cases b with
 | false =>
  rw [if_neg Bool.false_ne_true] at h1 ⊢
  exact h' ρ _ h1 R W B1 H1 σ _ e1 fun c B2 H2 h2 e2 g2=>q c B2 H2 h2 e2 (g1.trans g2)
 | true =>
  rw [if_pos rfl] at h1 ⊢
  exact q true B1 H1 h1 e1 g1
theorem t_not {u:UT} (h:PT3 X a u):PT3 X (.UnaryOp .Not a pos) (uNotT u):=by
 obtain ⟨_,h1,r1⟩:=h
 exact ⟨_,pt_not h1,refNotT r1⟩
theorem w_and1 {u:UT} (h:PT3 X a u):PW3 X (.BoolOp .And [a] pos) u:=by
 obtain ⟨_,h1,r1⟩:=h
 exact ⟨_,pw_and1 h1,r1⟩
theorem w_or1 {u:UT} (h:PT3 X a u):PW3 X (.BoolOp .Or [a] pos) u:=by
 obtain ⟨_,h1,r1⟩:=h
 exact ⟨_,pw_or1 h1,r1⟩
theorem w_and {rest:List Expr} {u u':UT} (h:PT3 X a u) (h':PW3 X (.BoolOp .And (b :: rest) pos) u'):PW3 X (.BoolOp .And (a :: b :: rest) pos) (uAndT u u'):=by
 obtain ⟨_,h1,r1⟩:=h; obtain ⟨_,h2,r2⟩:=h'
 exact ⟨_,pw_and h1 h2,refAndT r1 r2⟩
theorem w_or {rest:List Expr} {u u':UT} (h:PT3 X a u) (h':PW3 X (.BoolOp .Or (b :: rest) pos) u'):PW3 X (.BoolOp .Or (a :: b :: rest) pos) (uOrT u u'):=by
 obtain ⟨_,h1,r1⟩:=h; obtain ⟨_,h2,r2⟩:=h'
 exact ⟨_,pw_or h1 h2,refOrT r1 r2⟩
theorem w_t {u:UT} (h:PW3 X a u):PT3 X a u:=by
 obtain ⟨_,h1,r1⟩:=h
 exact ⟨_,h1.pt,r1⟩
def uAndV (u w:UE):UE:=fun ρ k=>u ρ fun x=>∃ c,x=.bl c∧if c=true then w ρ k else k (.bl false)
theorem e_one {op:BoolOp} (h:PE3 X a ua):PE3 X (.BoolOp op [a] pos) ua:=by
 obtain ⟨_,h1,r1⟩:=h
 exact ⟨_,pe_one h1,r1⟩
theorem e_and {rest:List Expr} (h:PE3 X a ua) (h':PE3 X (.BoolOp .And (b :: rest) pos) ub):PE3 X (.BoolOp .And (a :: b :: rest) pos) (uAndV ua ub):=by
 obtain ⟨_,h1,r1⟩:=h; obtain ⟨_,h2,r2⟩:=h'
 refine ⟨_,pe_and h1 h2,fun ρ k z R W B H σ Q e q=>?_⟩
 refine r1 ρ _ z R W B H σ _ e fun x v B1 H1 z1 e1 g1 s1=>?_
 obtain ⟨c,rfl,z1⟩:=z1
 refine ⟨c,s1.blV,?_⟩
 cases c with
 | true =>
  rw [if_pos rfl] at z1 ⊢
  exact r2 ρ _ z1 R W B1 H1 σ _ e1 fun d w B2 H2 h2 e2 g2 s2=>q d w B2 H2 h2 e2 (g1.trans g2) s2
 | false =>
  rw [if_neg Bool.false_ne_true] at z1 ⊢
  exact q _ _ B1 H1 z1 e1 g1 (.bl _)
def uIfE (c:UT) (u w:UE):UE:=fun ρ k=>c ρ fun b=>if b=true then u ρ k else w ρ k
theorem e_ifE {c:Expr} {uc:UT} (hc:PT3 X c uc) (ha:PE3 X a ua) (hb:PE3 X b ub):PE3 X (.IfExp c a b pos) (uIfE uc ua ub):=by
 obtain ⟨_,h0,r0⟩:=hc; obtain ⟨_,h1,r1⟩:=ha; obtain ⟨_,h2,r2⟩:=hb
 refine ⟨_,pe_ifExp h0 h1 h2,fun ρ k z R W B H σ Q e q=>?_⟩
 refine r0 ρ _ z R W B H σ _ e fun c B1 H1 z1 e1 g1=>?_
 cases c with
 | true =>
  rw [if_pos rfl] at z1 ⊢
  exact r1 ρ _ z1 R W B1 H1 σ _ e1 fun d w B2 H2 h2 e2 g2 s2=>q d w B2 H2 h2 e2 (g1.trans g2) s2
 | false =>
  rw [if_neg Bool.false_ne_true] at z1 ⊢
  exact r2 ρ _ z1 R W B1 H1 σ _ e1 fun d w B2 H2 h2 e2 g2 s2=>q d w B2 H2 h2 e2 (g1.trans g2) s2
def uNil:UL:=fun _ k=>k []
def uCons (u:UE) (w:UL):UL:=fun ρ k=>u ρ fun d=>w ρ fun ds=>k (d :: ds)
variable {e:Expr} {es:List Expr} {u:UE} {w:UL}
theorem refNil:RefL K tNil uNil:=fun ρ k h R W B H σ Q e q=>q [] [] B H h e (Grow.refl _ _) .nil
theorem refCons {te:TE} {t:TA} (h1:RefE K te u) (h2:RefL K t w):RefL K (tCons te t) (uCons u w):=by
 intro ρ k h R W B H σ Q e q
 refine h1 ρ _ h R W B H σ _ e fun d v B1 H1 z1 e1 g1 r1=>?_
 refine h2 ρ _ z1 R W B1 H1 σ _ e1 fun ds vs B2 H2 z2 e2 g2 r2=>?_
 exact q _ _ B2 H2 z2 e2 (g1.trans g2) (.cons (r1.mono g2.s) r2)
theorem l_nil:PL3 X [] uNil:=⟨_,pa_nil,refNil⟩
theorem l_cons (ha:PE3 X e u) (hr:PL3 X es w) (hs:starEach (e :: es) X.env=(false,eval e X.env) :: starEach es X.env:=by rfl):PL3 X (e :: es) (uCons u w):=by
 obtain ⟨_,h1,r1⟩:=ha; obtain ⟨_,h2,r2⟩:=hr
 exact ⟨_,pa_cons h1 h2 hs,refCons r1 r2⟩
def uTup (w:UL):UE:=fun ρ k=>w ρ fun ds=>ds.length≤sizeLine∧k (.tup ds)
theorem e_tup {x1} (h:PL3 X es w):PE3 X (.Tuple es x1 pos) (uTup w):=by
 obtain ⟨_,h1,r1⟩:=h
 refine ⟨_,pe_tup h1,fun ρ k z R W B H σ Q e q=>?_⟩
 refine r1 ρ _ z R W B H σ _ e fun ds vs B1 H1 z1 e1 g1 s1=>?_
 refine ⟨by rw [s1.length]; exact z1.1,fun p hp=>?_⟩
 have g2:=e1.grow hp (.tup vs)
 exact q _ _ _ _ z1.2 (e1.alloc hp _) (g1.trans g2) (.tup upd_same (s1.mono g2.s))
def uLst (w:UL):UL:=fun ρ k=>w ρ fun ds=>ds.length≤sizeLine∧k ds
theorem o_lst (h:PL3 X es w):PO3 X (.List es pos) (uLst w):=by
 obtain ⟨_,h1,r1⟩:=h
 refine ⟨_,pe_lst h1,fun ρ k z R W B H σ Q e q=>?_⟩
 refine r1 ρ _ z R W B H σ _ e fun ds vs B1 H1 z1 e1 g1 s1=>?_
 refine ⟨by rw [s1.length]; exact z1.1,fun p hp=>?_⟩
 obtain ⟨f1,f2,f3⟩:=e1.toWd.fresh hp
 exact q ds p vs B1 _ z1.2 (e1.allocH hp _) g1 f1 f3 upd_same s1 fun i m=>e1.notNew hp m rfl
def uFr (w:UL):UE:=fun ρ k=>w ρ fun ds=>k (.lst ds)
theorem refFr {t:TE} (h:RefO K t w):RefE K t (uFr w):=by
 intro ρ k z R W B H σ Q e q
 refine h ρ _ z R W B H σ _ e fun ds a vs B1 H1 z1 e1 g1 hr hb hh rp hm=>?_
 obtain ⟨e2,g2⟩:=e1.freeze hh hr hb hm
 exact q _ _ _ _ z1 e2 (g1.trans g2) (.lst upd_same (rp.mono g2.s))
theorem o_e (h:PO3 X e w):PE3 X e (uFr w):=by
 obtain ⟨_,h1,r1⟩:=h
 exact ⟨_,h1,refFr r1⟩
def uIx (ua ub:UE):UE:=fun ρ k=>ua ρ fun x=>ub ρ fun y=>∃ ds i d,(x=.tup ds∨x=.lst ds)∧y=.int i∧atI ds i=some d∧k d
theorem atI_reps {B:Hp} {vs:List V} {ds:List D} {i:Int} {d:D} (r:Reps K B vs ds) (h:atI ds i=some d):∃ v,atI vs i=some v∧Rep K B v d:=by
 unfold atI at h ⊢
 rw [r.length]
 cases q:ixN ds.length i with
 | none=>rw [q] at h; cases h
 | some j =>
  rw [q] at h
  exact r.get h
theorem e_ix (ha:PE3 X a ua) (hb:PE3 X b ub) (hs:PlainIx b):PE3 X (.Subscript a b pos) (uIx ua ub):=by
 obtain ⟨_,h1,r1⟩:=ha; obtain ⟨_,h2,r2⟩:=hb
 refine ⟨_,pe_ix ix_any h1 h2 hs,ref2 r1 r2 fun x y k h R W B H σ ρ v w' Q e rx ry q=>?_⟩
 obtain ⟨ds,i,d,hx,rfl,ha,hk⟩:=h
 rcases hx with rfl | rfl
 ·obtain ⟨p,vs,rfl,hp,rp⟩:=rx.tupV
  obtain ⟨z,hz,rz⟩:=atI_reps rp ha
  exact ⟨p,vs,i,z,rfl,ry.intV,.inl (e.bh _ _ hp),hz,q d z B H hk e (Grow.refl _ _) rz⟩
 ·obtain ⟨p,vs,rfl,hp,rp⟩:=rx.lstV
  obtain ⟨z,hz,rz⟩:=atI_reps rp ha
  exact ⟨p,vs,i,z,rfl,ry.intV,.inr (e.bh _ _ hp),hz,q d z B H hk e (Grow.refl _ _) rz⟩
end
end L3
namespace L3
open PySem L2
open PySem.Builtin.Int (intBits)
abbrev FS:=List Sl→(Sl→Prop)→Prop
def bags:List Sl→Nat
 | []=>0
 | .bag :: r=>bags r + 1
 | _ :: r=>bags r
inductive ArgsIn (K:PySem.W.Frag) (W:Addr→Prop) (B:Hp):List V→List Sl→Prop where
 | nil:ArgsIn K W B [] []
 | val {v:V} {d:D} {vs:List V} {as:List Sl} (h:Rep K B v d) (r:ArgsIn K W B vs as):ArgsIn K W B (v :: vs) (.val d :: as)
 | bag {b:Addr} {vs:List V} {as:List Sl} (h:W b) (r:ArgsIn K W B vs as):ArgsIn K W B (.ref b :: vs) (.bag :: as)
structure Exit (K:PySem.W.Frag) (W:Addr→Prop) (B H:Hp) (v:V) (r:Sl) (B' H':Hp):Prop where
 wd:Wd H W B' H'
 g:Grow H B B'
 res:ResOk K H B' H' v r
def Con (K:PySem.W.Frag) (n:Nat) (F:FS):Sp:=fun vs H Q _=>∃ (W:Addr→Prop) (B:Hp) (as:List Sl) (k:Sl→Prop),F as k∧as.length=n∧Nat.ble (bags as) 1=true∧Same B H∧(∀ a,W a→B a=none∧Bag H a)∧ArgsIn K W B vs as ∧
 ∀ r v B' H',k r→Exit K W B H v r B' H'→Q v H'
section
variable {K:PySem.W.Frag} {R:Hp} {W:Addr→Prop} {B B' H H':Hp} {σ:St} {ρ:List Sl}
theorem ArgsIn.length:∀ {vs:List V} {as:List Sl},ArgsIn K W B vs as→vs.length=as.length
 | _,_,.nil=>rfl
 | _,_,.val _ r=>by rw [List.length_cons,List.length_cons,r.length]
 | _,_,.bag _ r=>by rw [List.length_cons,List.length_cons,r.length]
theorem ArgsIn.get:∀ {vs:List V} {as:List Sl},ArgsIn K W B vs as→∀ (i:Nat) (k:Sl),as[i]?=some k→(∃ v d,vs[i]?=some v∧k=.val d∧Rep K B v d)∨(∃ b,vs[i]?=some (.ref b)∧k=.bag∧W b)
 | _,_,.nil,i,k,e=>by simp at e
 | _,_,.val h r,0,k,e=>by simp at e; subst e; exact .inl ⟨_,_,rfl,rfl,h⟩
 | _,_,.val h r,i + 1,k,e=>by simpa using r.get i k (by simpa using e)
 | _,_,.bag h r,0,k,e=>by simp at e; subst e; exact .inr ⟨_,rfl,rfl,h⟩
 | _,_,.bag h r,i + 1,k,e=>by simpa using r.get i k (by simpa using e)
theorem bags_none:∀ {as:List Sl} {i:Nat},bags as=0→as[i]?≠some .bag
 | [],i,_=>by simp
 | .bag :: r,i,h=>by simp [bags] at h
 | .no :: r,0,h=>by simp
 | .no :: r,i + 1,h=>by simpa using bags_none (as:=r) (i:=i) h
 | .val d :: r,0,h=>by simp
 | .val d :: r,i + 1,h=>by simpa using bags_none (as:=r) (i:=i) h
 | .new d :: r,0,h=>by simp
 | .new d :: r,i + 1,h=>by simpa using bags_none (as:=r) (i:=i) h
 | .pin v d :: r,0,h=>by simp
 | .pin v d :: r,i + 1,h=>by simpa using bags_none (as:=r) (i:=i) h
 | .own d :: r,0,h=>by simp
 | .own d :: r,i + 1,h=>by simpa using bags_none (as:=r) (i:=i) h
 | .deep d :: r,0,h=>by simp
 | .deep d :: r,i + 1,h=>by simpa using bags_none (as:=r) (i:=i) h
theorem bags_one:∀ {as:List Sl} {i j:Nat},bags as≤1→as[i]?=some .bag→as[j]?=some .bag→i=j
 | [],i,j,_,e,_=>by simp at e
 | .bag :: r,0,0,_,_,_=>rfl
 | .bag :: r,0,j + 1,h,_,e=>absurd (by simpa using e) (bags_none (as:=r) (i:=j) (by simp [bags] at h; exact h))
 | .bag :: r,i + 1,_,h,e,_=>absurd (by simpa using e) (bags_none (as:=r) (i:=i) (by simp [bags] at h; exact h))
 | .no :: r,0,_,_,e,_=>by simp at e
 | .no :: r,i + 1,0,_,_,e=>by simp at e
 | .no :: r,i + 1,j + 1,h,e,e'=>by rw [bags_one (as:=r) (i:=i) (j:=j) h (by simpa using e) (by simpa using e')]
 | .val d :: r,0,_,_,e,_=>by simp at e
 | .val d :: r,i + 1,0,_,_,e=>by simp at e
 | .val d :: r,i + 1,j + 1,h,e,e'=>by rw [bags_one (as:=r) (i:=i) (j:=j) h (by simpa using e) (by simpa using e')]
 | .new d :: r,0,_,_,e,_=>by simp at e
 | .new d :: r,i + 1,0,_,_,e=>by simp at e
 | .new d :: r,i + 1,j + 1,h,e,e'=>by rw [bags_one (as:=r) (i:=i) (j:=j) h (by simpa using e) (by simpa using e')]
 | .pin v d :: r,0,_,_,e,_=>by simp at e
 | .pin v d :: r,i + 1,0,_,_,e=>by simp at e
 | .pin v d :: r,i + 1,j + 1,h,e,e'=>by rw [bags_one (as:=r) (i:=i) (j:=j) h (by simpa using e) (by simpa using e')]
 | .own d :: r,0,_,_,e,_=>by simp at e
 | .own d :: r,i + 1,0,_,_,e=>by simp at e
 | .own d :: r,i + 1,j + 1,h,e,e'=>by rw [bags_one (as:=r) (i:=i) (j:=j) h (by simpa using e) (by simpa using e')]
 | .deep d :: r,0,_,_,e,_=>by simp at e
 | .deep d :: r,i + 1,0,_,_,e=>by simp at e
 | .deep d :: r,i + 1,j + 1,h,e,e'=>by rw [bags_one (as:=r) (i:=i) (j:=j) h (by simpa using e) (by simpa using e')]
theorem Ev.after {W':Addr→Prop} (e:Ev K R W B H σ ρ) (hW:∀ a,W' a→∃ i:Nat,σ[i]?=some (some (.ref a))∧ρ[i]?=some .bag) (wd:Wd H W' B' H') (g:Grow H B B'):Ev K R W B' H' σ ρ∧Grow R B B':=by
 have nb:∀ a,B a=none→H a≠none→B' a=none:=fun a h1 h2=>by
  cases q:B' a with
  | none=>rfl
  | some o =>
   rcases g.n a o q with z | z
   ·rw [h1] at z; cases z
   ·exact absurd z h2
 have st:∀ a,¬ W' a→H a≠none→H' a=H a:=fun a h1 h2=>by
  cases q:H a with
  | none=>exact absurd q h2
  | some o=>exact wd.fr a o q h1
 have bagS:∀ a,Bag H a→Bag H' a:=fun a h=>by
  by_cases z:W' a
  ·exact wd.wh a z
  ·obtain ⟨x,y,e1,q⟩:=h
   exact ⟨x,y,by rw [st a z (by rw [e1]; simp)]; exact e1,q⟩
 have bagN:∀ a,Bag H a→H a≠none:=fun a ⟨x,y,e1,_⟩=>by rw [e1]; simp
 refine ⟨e.move ⟨fun a o h nw=>?_,wd.bh,fun a h=>nb a (e.wb a h) (bagN a (e.wh a h)),fun a h=>bagS a (e.wh a h),e.wr⟩ g.s (fun i a m=>⟨nb a (e.mutOk m).1 (e.mutOk m).2,fun z=>?_,fun z=>?_⟩),⟨g.s,fun a o h=>?_⟩⟩
 ·have h1:=e.fr a o h nw
  refine wd.fr a o h1 fun z=>?_
  obtain ⟨i,z1,z2⟩:=hW a z
  obtain ⟨b,y1,y2,_⟩:=e.bagAt z2
  rw [z1] at y1; cases y1
  rcases y2 with y2 | y2
  ·exact nw y2
  ·rw [y2] at h; cases h
 ·obtain ⟨b,y1,_,_,y4⟩:=e.bagAt z
  rw [mut_bag m z] at y1; cases y1
  exact bagS _ y4
 ·refine st a (fun q=>?_) (e.mutOk m).2
  obtain ⟨j,z1,z2⟩:=hW a q
  have:=e.sep i j a m (.inl ⟨z1,.inl z2⟩)
  subst this
  exact z z2
 ·rcases g.n a o h with z | z
  ·exact .inl z
  ·exact .inr (e.toWd.fresh z).1
theorem Ev.start {N:List Str} {vs:List V} {as:List Sl} (hb:bags as≤1) (sB:Same B H) (hw:∀ a,W a→B a=none∧Bag H a) (ai:ArgsIn K W B vs as):Ev K H W B H (L2.start N vs) (as ++ List.replicate (N.length - as.length) .no):=by
 have hl:=ai.length
 have wd:Wd H W B H:=⟨fun _ _ h _=>h,sB,fun a h=>(hw a h).1,fun a h=>(hw a h).2,fun a h=>by obtain ⟨x,y,q,_⟩:=(hw a h).2; rw [q]; simp⟩
 have lo:∀ i k,as[i]?=some k→(L2.start N vs)[i]?=(vs[i]?).map some:=fun i k h=>by
  have lt:i < as.length:=by
   by_cases z:i < as.length
   ·exact z
   ·rw [List.getElem?_eq_none (by omega)] at h; cases h
  unfold L2.start
  rw [List.getElem?_append_left (by rw [List.length_map]; omega),List.getElem?_map]
 have cs:∀ (i:Nat) (k:Sl),(as ++ List.replicate (N.length - as.length) Sl.no)[i]?=some k→as[i]?=some k∨k=Sl.no:=fun i k h=>by
  by_cases z:i < as.length
  ·rw [List.getElem?_append_left z] at h; exact .inl h
  ·rw [List.getElem?_append_right (by omega)] at h
   rw [List.getElem?_replicate] at h
   split at h
   ·exact .inr (Option.some.inj h).symm
   ·cases h
 have bg:∀ i:Nat,(as ++ List.replicate (N.length - as.length) Sl.no)[i]?=some Sl.bag→as[i]?=some Sl.bag:=fun i h=>by
  rcases cs i _ h with h | h
  ·exact h
  ·cases h
 refine ⟨wd,by unfold L2.start; simp [hl],fun i k h=>?_,fun i j a m1 m2=>?_⟩
 ·rcases cs i k h with h | rfl
  ·rw [lo i k h]
   rcases ai.get i k h with ⟨v,d,h1,rfl,r⟩ | ⟨b,h1,rfl,r⟩
   ·rw [h1]; exact ⟨v,rfl,r⟩
   ·rw [h1]; exact ⟨b,rfl,.inl r,(hw b r).1,(hw b r).2⟩
  ·trivial
 ·have one:∀ i,MutAt (L2.start N vs) (as ++ List.replicate (N.length - as.length) Sl.no) i a→as[i]?=some .bag:=fun i m=>by
   rcases m with ⟨_,z | ⟨ds,z⟩⟩ | ⟨c,z,_⟩
   ·exact bg i z
   ·rcases cs i _ z with z | z
    ·rcases ai.get i _ z with ⟨v,d,_,q,_⟩ | ⟨b,_,q,_⟩ <;> cases q
    ·cases z
   ·rcases cs i _ z with z | z
    ·rcases ai.get i _ z with ⟨v,d,_,q,_⟩ | ⟨b,_,q,_⟩ <;> cases q
    ·cases z
  exact bags_one hb (one i m1) (one j m2)
theorem def3 {P:Program} {w:World} {mg:Str→Option Value} {base:Heap} {x:Str} {st:Stmt} {N ps:List Str} {lv n:Nat} {F:FS} (Fd:Fnd K mg x st ps) (S:FnScope N ps (defScope st)) (hn:ps.length=n)
  (hbody:∀ (f:Addr) (cdv:Value) (A:Around) (outer:List PySem.Env) (s:Shared) (H:Hp) (E:XK),Room lv (A.deeper (PyProof.Rows.envOfC x (defScope st) s.heap.objs.size f cdv)) →
   ∃ u,PSs3 (cxOf CX0 P w K mg base N x (defScope st) f cdv A outer s H E).nox (defBody st) u∧∀ as k,as.length=n→F as k→u { nx:=fun _=>k (.val .non),rt:=k } (as ++ List.replicate (N.length - n) .no)):Cal P w K mg base x ps (lv + 1) (Con K n F):=by
 refine Fd.ok S (fun vs H Q E h=>?_) (fun f cdv A outer s H vs Q E hr h=>?_)
 ·obtain ⟨W,B,as,k,_,hl,_,_,_,ai,_⟩:=h
  rw [ai.length,hl,hn]
 ·obtain ⟨W,B,as,k,hF,hl,hb,sB,hw,ai,q⟩:=h
  obtain ⟨u,⟨t,ht,rt⟩,hu⟩:=hbody f cdv A outer s H E hr
  have ev:=Ev.start (N:=N) (Nat.le_of_ble_eq_true hb) sB hw ai
  rw [hl] at ev
  refine ⟨t,ht,rt _ _ (hu as k hl hF) H W B H (L2.start N vs) _ ev ⟨fun ρ σ B' H' h e g=>?_,fun _ _ _ _ h=>h.elim,fun _ _ _ _ h=>h.elim,fun r v B' H' h e g z=>q r v B' H' h ⟨e,g,z⟩⟩⟩
  exact q _ _ B' H' h ⟨e.toWd,g,.non⟩
end
def Arg.sl:Arg→Sl
 | .val d=>.val d
 | .bag _=>.bag
def fzR:Sl→(D→Prop)→Prop
 | .val d,k=>k d
 | .own (.l ds),k=>k (.lst ds)
 | .new d,k=>k d
 | _,_=>False
def uaNil:UA:=fun _ k=>k []
def uaV (u:UE) (w:UA):UA:=fun ρ k=>u ρ fun d=>w ρ fun as=>k (.val d :: as)
def uaB (i:Nat) (w:UA):UA:=fun ρ k=>ρ[i]?=some .bag∧w ρ fun as=>k (.bag i :: as)
def sh (as:List Arg) (n:Nat):Bool:=Nat.beq as.length n && Nat.ble (bags (as.map Arg.sl)) 1
def uCall (n:Nat) (F:FS) (w:UA):UE:=fun ρ k=>w ρ fun as=>sh as n=true∧F (as.map Arg.sl) fun r=>fzR r k
def uCallO (n:Nat) (F:FS) (w:UA):UL:=fun ρ k=>w ρ fun as=>sh as n=true∧F (as.map Arg.sl) fun r=>∃ ds:List D,r=.own ds∧k ds
section
variable {K:PySem.W.Frag} {X:Cx} {e:Expr} {es:List Expr} {u:UE} {w:UA} {pos p:Pos} {n:Nat} {F:FS}
theorem a_nil:PA3 X [] uaNil:=⟨_,pa_nil,fun ρ k h R W B H σ Q e q=>q [] [] B H h e (Grow.refl _ _) .nil⟩
theorem a_val (ha:PE3 X e u) (hr:PA3 X es w) (hs:starEach (e :: es) X.env=(false,eval e X.env) :: starEach es X.env:=by rfl):PA3 X (e :: es) (uaV u w):=by
 obtain ⟨_,h1,r1⟩:=ha; obtain ⟨_,h2,r2⟩:=hr
 refine ⟨_,pa_cons h1 h2 hs,fun ρ k h R W B H σ Q e q=>?_⟩
 refine r1 ρ _ h R W B H σ _ e fun d v B1 H1 z1 e1 g1 s1=>?_
 refine r2 ρ _ z1 R W B1 H1 σ _ e1 fun as vs B2 H2 z2 e2 g2 s2=>?_
 exact q _ _ B2 H2 z2 e2 (g1.trans g2) (.val (s1.mono g2.s) s2)
theorem a_bag (i:Nat) {x:Str} {px:Pos} (hr:PA3 X es w) (hN:X.N[i]?=some x:=by rfl) (hv:Vis X.env.scope x:=by first | exact Or.inl rfl | exact Or.inr (Or.inl rfl) | exact Or.inr (Or.inr rfl)) (hd:(x == ("__debug__" : Str))=false:=by decide)
  (hcd:(x == ("__classdict__" : Str))=false:=by decide) (hs:starEach (.Name x px :: es) X.env=(false,eval (.Name x px) X.env) :: starEach es X.env:=by rfl):PA3 X (.Name x px :: es) (uaB i w):=by
 obtain ⟨_,h2,r2⟩:=hr
 refine ⟨_,pa_cons (pe_var hN hv hd hcd) h2 hs,fun ρ k h R W B H σ Q e q=>?_⟩
 obtain ⟨hb,h⟩:=h
 obtain ⟨b,b1,b2⟩:=e.bagAt hb
 refine ⟨_,b1,?_⟩
 refine r2 ρ _ h R W B H σ _ e fun as vs B2 H2 z2 e2 g2 s2=>?_
 exact q _ _ B2 H2 z2 e2 g2 (.bag b1 hb s2)
theorem ArgsOk.toIn {B:Hp} {σ:St} {ρ:List Sl} {W:Addr→Prop} {R H:Hp} {W0:Addr→Prop} (e:Ev K R W0 B H σ ρ):∀ {vs:List V} {as:List Arg},ArgsOk K B σ ρ vs as→(∀ i b,Arg.bag i∈as→σ[i]?=some (some (.ref b))→W b)→ArgsIn K W B vs (as.map Arg.sl)
 | _,_,.nil,_=>.nil
 | _,_,.val h r,hw=>.val h (ArgsOk.toIn e r fun i b m=>hw i b (List.mem_cons_of_mem _ m))
 | _,_,.bag h hb r,hw=>by
  obtain ⟨b,b1,_⟩:=e.bagAt hb
  rw [h] at b1; cases b1
  exact .bag (hw _ b List.mem_cons_self h) (ArgsOk.toIn e r fun i c m=>hw i c (List.mem_cons_of_mem _ m))
theorem ArgsOk.bagIn {B:Hp} {σ:St} {ρ:List Sl}:∀ {vs:List V} {as:List Arg} {i:Nat},ArgsOk K B σ ρ vs as→Arg.bag i∈as→ρ[i]?=some .bag
 | _,_,_,.nil,m=>by simp at m
 | _,_,_,.val h r,m=>by
  rcases List.mem_cons.mp m with m | m
  ·cases m
  ·exact r.bagIn m
 | _,_,_,.bag h hb r,m=>by
  rcases List.mem_cons.mp m with m | m
  ·cases m; exact hb
  ·exact r.bagIn m
theorem call_ok {R:Hp} {W:Addr→Prop} {B H:Hp} {σ:St} {ρ:List Sl} {vs:List V} {as:List Arg} {k:Sl→Prop} {Q:VK} {E:XK} (e:Ev K R W B H σ ρ) (ok:ArgsOk K B σ ρ vs as) (hs:sh as n=true) (hF:F (as.map Arg.sl) k)
  (q:∀ r v B' H',k r→Ev K R W B' H' σ ρ→Grow R B B'→ResOk K H B' H' v r→Q v H'):Con K n F vs H Q E:=by
 rw [sh,Bool.and_eq_true] at hs
 have h1:as.length=n:=Nat.eq_of_beq_eq_true hs.1
 have hW:∀ a,(∃ i:Nat,Arg.bag i∈as∧σ[i]?=some (some (.ref a)))→∃ i:Nat,σ[i]?=some (some (.ref a))∧ρ[i]?=some .bag:=fun a ⟨i,m,z⟩=>⟨i,z,ok.bagIn m⟩
 refine ⟨fun a=>∃ i:Nat,Arg.bag i∈as∧σ[i]?=some (some (.ref a)),B,as.map Arg.sl,k,hF,by rw [List.length_map]; exact h1,hs.2,e.bh,fun a h=>?_,ok.toIn e fun i b m z=>⟨i,m,z⟩,fun r v B' H' hk ex=>?_⟩
 ·obtain ⟨i,z1,z2⟩:=hW a h
  obtain ⟨b,b1,_,b3,b4⟩:=e.bagAt z2
  rw [z1] at b1; cases b1
  exact ⟨b3,b4⟩
 ·obtain ⟨e2,g2⟩:=e.after hW ex.wd ex.g
  exact q r v B' H' hk e2 g2 ex.res
theorem e_call {x:Str} {ps:List Str} {j lv:Nat} (c:Cal X.prog X.w X.K X.mg X.base x ps j (Con X.K n F)) (hr:Room lv X.A) (hg:Gl X x) (ha:PA3 X (e :: es) w) (hjk:j≤lv:=by decide)
  (hdb:(x == ("__debug__" : Str))=false:=by decide) (he:starEach (e :: es) X.env=(false,eval e X.env) :: starEach es X.env:=by rfl) (hpl:(backTo pos (starEach es X.env)).any (·.1)=false:=by rfl) :
  PE3 X (.Call (.Name x p) (e :: es) [] pos) (uCall n F w):=by
 obtain ⟨_,h1,r1⟩:=ha
 refine ⟨_,pe_cal c hr hg h1 hjk hdb he hpl,fun ρ k h R W B H σ Q e q=>?_⟩
 refine r1 ρ _ h R W B H σ _ e fun as vs B1 H1 z1 e1 g1 s1=>?_
 rw [List.append_nil]
 refine call_ok e1 s1 z1.1 z1.2 fun r v B2 H2 hk e2 g2 res=>?_
 cases r with
 | no=>exact hk.elim
 | bag=>exact hk.elim
 | pin v d=>exact hk.elim
 | deep c=>exact hk.elim
 | val d=>exact q d v B2 H2 hk e2 (g1.trans g2) res
 | new d=>exact q d v B2 H2 hk e2 (g1.trans g2) (Rep.mono newL_sub res)
 | own c =>
  cases c with
  | d _ _ _ _=>exact hk.elim
  | l ds =>
  obtain ⟨a,rfl,f1,f2,us,f3,f4⟩:=res
  obtain ⟨e3,g3⟩:=e2.freeze f3 (e1.toWd.fresh f1).1 f2 fun i m=>absurd f1 (by
   have m1:MutAt σ ρ i a:=m
   exact (e1.mutOk m1).2)
  exact q _ _ _ _ hk e3 ((g1.trans g2).trans g3) (.lst upd_same (f4.mono g3.s))
theorem o_call {x:Str} {ps:List Str} {j lv:Nat} (c:Cal X.prog X.w X.K X.mg X.base x ps j (Con X.K n F)) (hr:Room lv X.A) (hg:Gl X x) (ha:PA3 X (e :: es) w) (hjk:j≤lv:=by decide)
  (hdb:(x == ("__debug__" : Str))=false:=by decide) (he:starEach (e :: es) X.env=(false,eval e X.env) :: starEach es X.env:=by rfl) (hpl:(backTo pos (starEach es X.env)).any (·.1)=false:=by rfl) :
  PO3 X (.Call (.Name x p) (e :: es) [] pos) (uCallO n F w):=by
 obtain ⟨_,h1,r1⟩:=ha
 refine ⟨_,pe_cal c hr hg h1 hjk hdb he hpl,fun ρ k h R W B H σ Q e q=>?_⟩
 refine r1 ρ _ h R W B H σ _ e fun as vs B1 H1 z1 e1 g1 s1=>?_
 rw [List.append_nil]
 refine call_ok e1 s1 z1.1 z1.2 fun r v B2 H2 hk e2 g2 res=>?_
 obtain ⟨ds,rfl,hk⟩:=hk
 obtain ⟨a,rfl,f1,f2,us,f3,f4⟩:=res
 exact q ds a us B2 H2 hk e2 (g1.trans g2) (e1.toWd.fresh f1).1 f2 f3 f4 fun i m=>(e1.mutOk m).2 f1
end
def lenD:D→Option Nat
 | .tup ds=>some ds.length
 | .lst ds=>some ds.length
 | .scr ns=>some ns.length
 | _=>none
def uLen (u:UE):UE:=fun ρ k=>u ρ fun x=>∃ n,lenD x=some n∧k (.int n)
def uAbs (u:UE):UE:=fun ρ k=>u ρ fun x=>∃ i,x=.int i∧k (.int (if i < 0 then -i else i))
def uInt (u:UE):UE:=fun ρ k=>u ρ fun x=>(∃ i,x=.int i∧k (.int i))∨∃ c,x=.bl c∧k (.int (if c then 1 else 0))
def tyD:D→Option String
 | .int _=>some "int"
 | .bl _=>some "bool"
 | .tup _=>some "tuple"
 | .lst _=>some "list"
 | .non=>some "NoneType"
 | .str _=>some "str"
 | _=>none
def uIsi (u:UE) (n:String):UE:=fun ρ k=>u ρ fun x=>∃ t b,tyD x=some t∧(∀ K,PySem.W.kitOne K (.type t) (.type n)=some b)∧k (.bl b)
section
variable {K:PySem.W.Frag} {X:Cx} {e:Expr} {es:List Expr} {u:UE} {pos p:Pos} {n:Nat}
theorem refCB1 {te:TE} {r:List V→Hp→VK→Prop} {f:D→(D→Prop)→Prop} (ha:RefE K te u)
  (hr:∀ (x:D) (k:D→Prop),f x k→∀ (R:Hp) (W:Addr→Prop) (B H:Hp) (σ:St) (ρ:List Sl) (v:V) (Q:VK),Ev K R W B H σ ρ→Rep K B v x→(∀ d v B' H',k d→Ev K R W B' H' σ ρ→Grow R B B'→Rep K B' v d→Q v H')→r [v] H Q) :
  RefE K (tCB r (tCons te tNil)) (fun ρ k=>u ρ fun x=>f x k):=by
 intro ρ k h R W B H σ Q e q
 refine ha ρ _ h R W B H σ _ e fun x v B1 H1 h1 e1 g1 r1=>?_
 exact hr x k h1 R W B1 H1 σ ρ v Q e1 r1 fun d u B3 H3 h3 e3 g3 r3=>q d u B3 H3 h3 e3 (g1.trans g3) r3
theorem e_len (ha:PE3 X e u) (hg:Gl X "len") (hm:X.mg "len" = none) (hs:starEach [e] X.env=(false,eval e X.env) :: starEach [] X.env:=by rfl):PE3 X (.Call (.Name "len" p) [e] [] pos) (uLen u):=by
 obtain ⟨_,h1,r1⟩:=ha
 refine ⟨_,pe_callB call_len_seq hg hm PySem.boot_len (pa_cons h1 pa_nil hs) (by decide) (by decide) hs,refCB1 (f:=fun x k=>∃ n,lenD x=some n∧k (.int n)) r1 fun x k h R W B H σ ρ v Q e rx q=>?_⟩
 obtain ⟨n,hn,hk⟩:=h
 cases x <;> first | (cases hn; done) | skip
 ·obtain ⟨a,vs,rfl,ha,r⟩:=rx.tupV
  cases hn
  rw [← r.length] at hk
  exact ⟨a,vs,rfl,.inr (SqT.of (e.bh _ _ ha)),q _ _ B H hk e (Grow.refl _ _) (.int _)⟩
 ·obtain ⟨a,vs,rfl,ha,r⟩:=rx.lstV
  cases hn
  rw [← r.length] at hk
  exact ⟨a,vs,rfl,.inl (SqL.of (e.bh _ _ ha)),q _ _ B H hk e (Grow.refl _ _) (.int _)⟩
 ·obtain ⟨a,rfl,ha⟩:=rx.scrV
  cases hn
  refine ⟨a,_,rfl,.inl (e.bh.seq ha),?_⟩
  rw [List.length_map]
  exact q _ _ B H hk e (Grow.refl _ _) (.int _)
theorem e_abs (ha:PE3 X e u) (hg:Gl X "abs") (hm:X.mg "abs" = none) (hs:starEach [e] X.env=(false,eval e X.env) :: starEach [] X.env:=by rfl):PE3 X (.Call (.Name "abs" p) [e] [] pos) (uAbs u):=by
 obtain ⟨_,h1,r1⟩:=ha
 refine ⟨_,pe_callB call_abs hg hm (by decide +kernel) (pa_cons h1 pa_nil hs) (by decide) (by decide) hs,refCB1 (f:=fun x k=>∃ i,x=.int i∧k (.int (if i < 0 then -i else i))) r1 fun x k h R W B H σ ρ v Q e rx q=>?_⟩
 obtain ⟨i,rfl,hk⟩:=h
 exact ⟨i,by rw [rx.intV],q _ _ B H hk e (Grow.refl _ _) (.int _)⟩
theorem e_toInt (ha:PE3 X e u) (hg:Gl X "int") (hm:X.mg "int" = none) (hs:starEach [e] X.env=(false,eval e X.env) :: starEach [] X.env:=by rfl):PE3 X (.Call (.Name "int" p) [e] [] pos) (uInt u):=by
 obtain ⟨_,h1,r1⟩:=ha
 refine ⟨_,pe_callTy call_int1 hg hm (by decide +kernel) (pa_cons h1 pa_nil hs) (by decide) (by decide) hs,refCB1 (f:=fun x k=>(∃ i,x=.int i∧k (.int i))∨∃ c,x=.bl c∧k (.int (if c then 1 else 0))) r1 fun x k h R W B H σ ρ v Q e rx q=>?_⟩
 rcases h with ⟨i,rfl,hk⟩ | ⟨c,rfl,hk⟩
 ·exact .inl ⟨i,by rw [rx.intV],q _ _ B H hk e (Grow.refl _ _) (.int _)⟩
 ·exact .inr ⟨c,by rw [rx.blV],q _ _ B H hk e (Grow.refl _ _) (.int _)⟩
theorem tyD_ok {B H:Hp} {v:V} {x:D} {t:String} (s:Same B H) (r:Rep K B v x) (h:tyD x=some t):TyOf K H v (.type t):=by
 cases r <;> cases h
 ·exact .non
 ·exact .bl _
 ·exact .int _
 ·exact .str _
 ·exact .tup (s _ _ (by assumption))
 ·exact .lst (s _ _ (by assumption))
theorem e_isi {T:String} {y:Str} {pT:Pos} (ha:PE3 X e u) (hg:Gl X "isinstance") (hm:X.mg "isinstance" = none) (hT:PE X (.Name y pT) (tC (.ty T))) (hs:starEach [e,.Name y pT] X.env=(false,eval e X.env) :: starEach [.Name y pT] X.env)
  (hs2:starEach [.Name y pT] X.env=(false,eval (.Name y pT) X.env) :: starEach [] X.env) (hpl:(backTo pos (starEach [.Name y pT] X.env)).any (·.1)=false):PE3 X (.Call (.Name "isinstance" p) [e,.Name y pT] [] pos) (uIsi u T):=by
 obtain ⟨_,h1,r1⟩:=ha
 refine ⟨_,pe_callB call_isinst hg hm (by decide +kernel) (pa_cons h1 (pa_cons hT pa_nil hs2) hs) (by decide) (by decide) hs hpl,fun ρ k h R W B H σ Q e q=>?_⟩
 refine r1 ρ _ h R W B H σ _ e fun x v B1 H1 h1 e1 g1 s1=>?_
 obtain ⟨t,b,ht,hk,z⟩:=h1
 exact ⟨v,_,T,b,rfl,tyD_ok e1.bh s1 ht,hk _,q _ _ B1 H1 z e1 g1 (.bl _)⟩
end
end L3
namespace L3
open PySem L2
open PySem.Builtin.Int (intBits)
section
variable {K:PySem.W.Frag} {X:Cx} {e:Expr} {es:List Expr} {u:UE} {w:UL} {pos p:Pos}
def uNext:US:=fun U ρ=>U.nx ρ
def uSeq (s t:US):US:=fun U ρ=>s { U with nx:=t U } ρ
def uBreak:US:=fun U ρ=>U.bk ρ
def uRet (u:UE):US:=fun U ρ=>u ρ fun d=>U.rt (.val d)
def uRetO (w:UL):US:=fun U ρ=>w ρ fun ds=>U.rt (.own ds)
def uRetV (i:Nat):US:=fun U ρ=>∃ ds,ρ[i]?=some (.own ds)∧U.rt (.own ds)
def uSet (i:Nat) (u:UE):US:=fun U ρ=>u ρ fun d=>U.nx (ρ.set i (.val d))
def uSetO (i:Nat) (w:UL):US:=fun U ρ=>w ρ fun ds=>U.nx (ρ.set i (.own ds))
def uIf (c:UT) (s t:US):US:=fun U ρ=>c ρ fun b=>if b=true then s U ρ else t U ρ
def uFz (i:Nat) (s:US):US:=fun U ρ=>∃ ds:List D,ρ[i]?=some (.own ds)∧s U (ρ.set i (.val (.lst ds)))
theorem s_nil:PSs3 X [] uNext:=⟨_,pss_nil,fun U ρ h R W B H σ D e s=>s.nx ρ σ B H h e (Grow.refl _ _)⟩
theorem s_one {st:Stmt} {s:US} (h:PS3 X st s):PSs3 X [st] s:=by
 obtain ⟨_,h1,r1⟩:=h
 exact ⟨_,pss_one h1,r1⟩
theorem s_cons {st:Stmt} {rest:List Stmt} {s t:US} (h:PS3 X st s) (h':PSs3 X rest t):PSs3 X (st :: rest) (uSeq s t):=by
 obtain ⟨_,h1,r1⟩:=h; obtain ⟨_,h2,r2⟩:=h'
 refine ⟨_,pss_cons h1 h2,fun U ρ h R W B H σ D e sm=>?_⟩
 exact r1 _ ρ h R W B H σ _ e ⟨fun ρ' σ' B' H' z e' g=>r2 U ρ' z R W B' H' σ' D e' (sm.grow g),sm.bk,sm.ct,sm.rt⟩
theorem s_fz {st:List Stmt} {s:US} (i:Nat) (h:PSs3 X st s):PSs3 X st (uFz i s):=by
 obtain ⟨_,h1,r1⟩:=h
 refine ⟨_,h1,fun U ρ h R W B H σ D e sm=>?_⟩
 obtain ⟨ds,ho,z⟩:=h
 obtain ⟨B',e',g⟩:=e.fz ho
 exact r1 U _ z R W B' H σ D e' (sm.grow g)
theorem s_break:PS3 X (.Break pos) uBreak:=⟨_,ps_break,fun U ρ h R W B H σ D e s=>s.bk ρ σ B H h e (Grow.refl _ _)⟩
theorem s_ret (h:PE3 X e u):PS3 X (.Return (some e) pos) (uRet u):=by
 obtain ⟨_,h1,r1⟩:=h
 refine ⟨_,ps_ret h1,fun U ρ h R W B H σ D e s=>?_⟩
 exact r1 ρ _ h R W B H σ _ e fun d v B1 H1 z1 e1 g1 s1=>s.rt _ v B1 H1 z1 e1.toWd g1 s1
theorem s_retO (h:PO3 X e w):PS3 X (.Return (some e) pos) (uRetO w):=by
 obtain ⟨_,h1,r1⟩:=h
 refine ⟨_,ps_ret h1,fun U ρ h R W B H σ D e s=>?_⟩
 exact r1 ρ _ h R W B H σ _ e fun ds a vs B1 H1 z1 e1 g1 f1 f2 f3 f4 f5=>s.rt (.own ds) _ B1 H1 z1 e1.toWd g1 ⟨a,rfl,f1,f2,vs,f3,f4⟩
theorem s_retV (i:Nat) {x:Str} {px:Pos} (hN:X.N[i]?=some x:=by rfl) (hv:Vis X.env.scope x:=by first | exact Or.inl rfl | exact Or.inr (Or.inl rfl) | exact Or.inr (Or.inr rfl)) (hd:(x == ("__debug__" : Str))=false:=by decide)
  (hcd:(x == ("__classdict__" : Str))=false:=by decide):PS3 X (.Return (some (.Name x px)) pos) (uRetV i):=by
 refine ⟨_,ps_ret (pe_var hN hv hd hcd),fun U ρ h R W B H σ D e s=>?_⟩
 obtain ⟨ds,ho,z⟩:=h
 obtain ⟨a,e1,e2,e3,e4⟩:=e.ownC ho
 exact ⟨_,e1,s.rt (.own ds) _ B H z e.toWd (Grow.refl _ _) ⟨a,rfl,e2,e3,e4⟩⟩
theorem s_set {i:Nat} {x:Str} {pos':Pos} (hN:X.N.Nodup) (hi:X.N[i]?=some x) (hx:Loc X.env.scope x) (he:PE3 X e u) (hs:swapsWith e (some (.Name x pos')) pos.line X.env=pure false:=by rfl) (hf:X.fn x=true∨X.env.scope.names.lookup x=some .local:=by first | exact .inl rfl | exact .inr rfl | assumption) :
  PS3 X (.Assign [.Name x pos'] e pos) (uSet i u):=by
 obtain ⟨_,h1,r1⟩:=he
 refine ⟨_,ps_set hN hi hx h1 hs hf,fun U ρ h R W B H σ D e s=>?_⟩
 exact r1 ρ _ h R W B H σ _ e fun d v B1 H1 z1 e1 g1 s1=>s.nx _ _ B1 H1 z1 (e1.setV i s1) g1
theorem s_setO {i:Nat} {x:Str} {pos':Pos} (hN:X.N.Nodup) (hi:X.N[i]?=some x) (hx:Loc X.env.scope x) (he:PO3 X e w) (hs:swapsWith e (some (.Name x pos')) pos.line X.env=pure false:=by rfl) (hf:X.fn x=true∨X.env.scope.names.lookup x=some .local:=by first | exact .inl rfl | exact .inr rfl | assumption) :
  PS3 X (.Assign [.Name x pos'] e pos) (uSetO i w):=by
 obtain ⟨_,h1,r1⟩:=he
 refine ⟨_,ps_set hN hi hx h1 hs hf,fun U ρ h R W B H σ D e s=>?_⟩
 exact r1 ρ _ h R W B H σ _ e fun ds a vs B1 H1 z1 e1 g1 f1 f2 f3 f4 f5=>s.nx _ _ B1 H1 z1 (e1.setO i f1 f2 f3 f4 fun j _=>f5 j) g1
theorem s_if {c:Expr} {a b:List Stmt} {uc:UT} {s t:US} (hc:PT3 X c uc) (ha:PSs3 X a s) (hb:PSs3 X b t):PS3 X (.If c a b pos) (uIf uc s t):=by
 obtain ⟨_,h0,r0⟩:=hc; obtain ⟨_,h1,r1⟩:=ha; obtain ⟨_,h2,r2⟩:=hb
 refine ⟨_,ps_if h0 h1 h2,fun U ρ h R W B H σ D e sm=>?_⟩
 refine r0 ρ _ h R W B H σ _ e fun c B1 H1 z1 e1 g1=>?_
 cases c with
 | true =>
  rw [if_pos rfl] at z1 ⊢
  exact r1 U ρ z1 R W B1 H1 σ D e1 (sm.grow g1)
 | false =>
  rw [if_neg Bool.false_ne_true] at z1 ⊢
  exact r2 U ρ z1 R W B1 H1 σ D e1 (sm.grow g1)
def ugName (i:Nat):UG:=fun d ρ k=>k (ρ.set i (.val d))
def ugNil:UGs:=fun ds ρ k=>ds=[]∧k ρ
def ugCons (g:UG) (gs:UGs):UGs:=fun ds ρ k=>∃ d r,ds=d :: r∧g d ρ fun ρ'=>gs r ρ' k
def ugTup (n:Nat) (gs:UGs):UG:=fun d ρ k=>∃ ds,d=.tup ds∧ds.length=n∧gs ds ρ k
def uAsg (u:UE) (g:UG):US:=fun U ρ=>u ρ fun d=>g d ρ U.nx
theorem g_name {i:Nat} {x:Str} (hN:X.N.Nodup) (hi:X.N[i]?=some x) (hx:Loc X.env.scope x) (hf:X.fn x=true∨X.env.scope.names.lookup x=some .local:=by first | exact .inl rfl | exact .inr rfl | assumption):PG3 X (.Name x pos) (ugName i) :=
 ⟨_,pg_name hN hi hx hf,fun d ρ k h R W B H σ v Q e r q=>q _ _ h (e.setV i r) fun j a m=>by
  exact (mut_setV m (by simp) (by simp) rfl).2⟩
theorem gs_nil:PGs3 X [] ugNil:=⟨_,pgs_nil,fun ds ρ k h R W B H σ vs Q e r q=>by
 obtain ⟨rfl,h⟩:=h
 cases r
 exact ⟨rfl,q _ _ h e fun _ _ m=>m⟩⟩
theorem gs_cons {g:UG} {gs:UGs} (h1:PG3 X e g) (h2:PGs3 X es gs) (hs:(assignEach (e :: es) X.env).map (·.2)=assign e X.env :: (assignEach es X.env).map (·.2):=by rfl):PGs3 X (e :: es) (ugCons g gs):=by
 obtain ⟨_,h1,r1⟩:=h1; obtain ⟨_,h2,r2⟩:=h2
 refine ⟨_,pgs_cons h1 h2 hs,fun ds ρ k h R W B H σ vs Q e r q=>?_⟩
 obtain ⟨d,rr,rfl,h⟩:=h
 cases r with
 | cons rv rs =>
  refine ⟨_,_,rfl,r1 d ρ _ h R W B H σ _ _ e rv fun ρ' σ' z e' mm=>?_⟩
  exact r2 rr ρ' k z R W B H σ' _ _ e' rs fun ρ'' σ'' z2 e2 m2=>q ρ'' σ'' z2 e2 fun j a m=>mm j a (m2 j a m)
theorem g_tup {k0:Nat} {gs:UGs} {n:Nat} (hc:X.calm=true) (h:PGs3 X es gs) (hn:(assignEach es X.env).length=n:=by rfl) (hst:(assignEach es X.env).findIdx? (·.1)=none:=by rfl):PG3 X (.Tuple es k0 pos) (ugTup n gs):=by
 obtain ⟨_,h1,r1⟩:=h
 refine ⟨_,pg_tup hc h1 hn hst,fun d ρ k h R W B H σ v Q e r q=>?_⟩
 obtain ⟨ds,rfl,hl,h⟩:=h
 obtain ⟨a,vs,rfl,ha,rs⟩:=r.tupV
 exact ⟨a,vs,rfl,SqT.of (e.bh _ _ ha),by rw [rs.length]; exact hl,r1 ds ρ k h R W B H σ vs Q e rs q⟩
theorem s_asg {tg:Expr} {g:UG} (he:PE3 X e u) (hg:PG3 X tg g) (hs:swapsWithSole [tg] e pos.line X.env=pure false:=by rfl) (hw:swappedStores [tg] e X.env=pure none:=by rfl)
  (h1:(assignEach [tg] X.env).map (·.2)=[assign tg X.env]:=by rfl):PS3 X (.Assign [tg] e pos) (uAsg u g):=by
 obtain ⟨_,ha,r1⟩:=he; obtain ⟨_,hb,r2⟩:=hg
 refine ⟨_,ps_asg ha hb hs hw h1,fun U ρ h R W B H σ D e s=>?_⟩
 refine r1 ρ _ h R W B H σ _ e fun d v B1 H1 z1 e1 g1 s1=>?_
 exact r2 d ρ _ z1 R W B1 H1 σ v _ e1 s1 fun ρ' σ' z2 e2 _=>s.nx _ _ B1 H1 z2 e2 g1
def uPar (i j:Nat) (w:UL):US:=fun U ρ=>w ρ fun ds=>∃ x y,ds=[x,y]∧U.nx ((ρ.set i (.val x)).set j (.val y))
theorem s_par {i j:Nat} {x y:Str} {a b:Expr} {px py pt:Pos} {kt k2 pt2} (hc:X.calm=true) (hN:X.N.Nodup) (hi:X.N[i]?=some x) (hj:X.N[j]?=some y) (hij:i≠j)
  (hx:X.env.scope.names.lookup x=some .local) (hy:X.env.scope.names.lookup y=some .local) (ha:PL3 X [a,b] w)
  (hw:swappedStores [.Tuple [.Name x px,.Name y py] kt pt] (.Tuple [a,b] k2 pt2) X.env=pure (some [x,y]))
  (hs:swapsWithSole [.Tuple [.Name x px,.Name y py] kt pt] (.Tuple [a,b] k2 pt2) pos.line X.env=pure false:=by rfl) :
  PS3 X (.Assign [.Tuple [.Name x px,.Name y py] kt pt] (.Tuple [a,b] k2 pt2) pos) (uPar i j w):=by
 obtain ⟨_,h1,r1⟩:=ha
 refine ⟨_,ps_par hc hN hi hj hij hx hy h1 hw hs,fun U ρ h R W B H σ D e s=>?_⟩
 refine r1 ρ _ h R W B H σ _ e fun ds vs B1 H1 z1 e1 g1 s1=>?_
 obtain ⟨x,y,rfl,z1⟩:=z1
 cases s1 with
 | cons ra rb=>cases rb with
  | cons rb rc =>
   cases rc
   exact ⟨_,_,rfl,s.nx _ _ B1 H1 z1 ((e1.setV i ra).setV j rb) g1⟩
def uWhile (c:UT) (s:US):US:=fun U ρ=>∃ M:Nat→List Sl→Prop,(∃ m,M m ρ)∧∀ m ρ,M m ρ→c ρ fun b=>if b=true then s { U with nx:=fun ρ'=>∃ m',m' < m∧M m' ρ',ct:=fun ρ'=>∃ m',m' < m∧M m' ρ',bk:=U.nx } ρ else U.nx ρ
theorem s_while {c:Expr} {body:List Stmt} {uc:UT} {s:US} (hp:PassesOwn (model X.prog X.w) X.A X.env X.xe) (hc:PT3 X c uc) (hb:PSs3 X body s):PS3 X (.While c body [] pos) (uWhile uc s):=by
 obtain ⟨_,h0,r0⟩:=hc; obtain ⟨_,h1,r1⟩:=hb
 refine ⟨_,ps_while hp h0 h1,fun U ρ h R W B H σ D e sm=>?_⟩
 obtain ⟨M,⟨m0,hm⟩,turn⟩:=h
 refine ⟨fun m σ' H'=>∃ ρ' B',M m ρ'∧Ev X.K R W B' H' σ' ρ'∧Grow R B B',⟨m0,ρ,B,hm,e,Grow.refl _ _⟩,?_⟩
 rintro m σ1 H1 ⟨ρ1,B1,hm1,e1,g1⟩
 refine r0 ρ1 _ (turn m ρ1 hm1) R W B1 H1 σ1 _ e1 fun b B2 H2 z2 e2 g2=>?_
 cases b with
 | true =>
  rw [if_pos rfl] at z2 ⊢
  refine ⟨fun σ' H'=>∃ ρ' B',(∃ m',m' < m∧M m' ρ')∧Ev X.K R W B' H' σ' ρ'∧Grow R B B',?_,?_⟩
  ·rintro σ' H' ⟨ρ',B',⟨m',l,q⟩,e',g'⟩
   exact ⟨m',l,ρ',B',q,e',g'⟩
  ·have gg:=g1.trans g2
   exact r1 _ ρ1 z2 R W B2 H2 σ1 _ e2 ⟨fun ρ' σ' B' H' z e' g=>⟨ρ',B',z,e',gg.trans g⟩,fun ρ' σ' B' H' z e' g=>sm.nx ρ' σ' B' H' z e' (gg.trans g),fun ρ' σ' B' H' z e' g=>⟨ρ',B',z,e',gg.trans g⟩,fun r v B' H' z e' g q=>sm.rt r v B' H' z e' (gg.trans g) q⟩
 | false =>
  rw [if_neg Bool.false_ne_true] at z2 ⊢
  exact sm.nx ρ1 σ1 B2 H2 z2 e2 (g1.trans g2)
theorem ItOk.list {B:Hp} {a:Addr} {vs:List V} {ds:List D} (h:B a=some (.lst vs)) (r:Reps K B vs ds):ItOk K B (Itl K a) ds:=by
 intro H s i
 have hH:=s _ _ h
 have q:SqL K H a vs:=SqL.of hH
 refine ⟨fun hi=>?_,fun hi=>⟨vs,q,by rw [r.length]; exact hi⟩,fun x H' hi ⟨e1,e2⟩=>⟨e1,?_⟩⟩
 ·obtain ⟨v,e,_⟩:=r.get (List.getElem?_eq_getElem hi)
  exact ⟨vs,v,q,e⟩
 ·exact r.getV (e2 vs q)
theorem ItOk.tup {B:Hp} {a:Addr} {vs:List V} {ds:List D} (h:B a=some (.tup vs)) (r:Reps K B vs ds):ItOk K B (Itt K a) ds:=by
 intro H s i
 have hH:=s _ _ h
 have q:SqT K H a vs:=SqT.of hH
 refine ⟨fun hi=>?_,fun hi=>⟨vs,q,by rw [r.length]; exact hi⟩,fun x H' hi ⟨e1,e2⟩=>⟨e1,?_⟩⟩
 ·obtain ⟨v,e,_⟩:=r.get (List.getElem?_eq_getElem hi)
  exact ⟨vs,v,q,e⟩
 ·exact r.getV (e2 vs q)
theorem ItOk.rng {B:Hp} (n:Nat):ItOk K B (Itr 0 n) ((List.range n).map fun i:Nat=>D.int i):=by
 intro H s i
 rw [List.length_map,List.length_range]
 refine ⟨fun hi=>hi,fun hi=>hi,fun x H' hi ⟨e1,e2⟩=>⟨e1,?_⟩⟩
 refine ⟨.int i,?_,?_⟩
 ·rw [List.getElem?_map,List.getElem?_range hi]; rfl
 ·rw [e2,Int.zero_add]; exact .int _
def uiL (u:UE):UL:=fun ρ k=>u ρ fun d=>∃ ds,d=.lst ds∧k ds
def uiT (u:UE):UL:=fun ρ k=>u ρ fun d=>∃ ds,d=.tup ds∧k ds
def uiR (u:UE):UL:=fun ρ k=>u ρ fun d=>∃ j,d=.int j ∧ -(2 ^ 62)≤j∧j < 2 ^ 62∧k ((List.range j.toNat).map fun i:Nat=>D.int i)
variable {tg:Expr}
theorem i_list {l:Expr} (hl:PE3 X l u):PI3 X tg l (uiL u):=by
 obtain ⟨_,h1,r1⟩:=hl
 refine ⟨_,pi_list h1,fun ρ k h R W B H σ Q e q=>?_⟩
 refine r1 ρ _ h R W B H σ _ e fun d v B1 H1 z1 e1 g1 s1=>?_
 obtain ⟨ds,rfl,z⟩:=z1
 obtain ⟨a,vs,rfl,ha,rs⟩:=s1.lstV
 exact ⟨a,rfl,⟨vs,SqL.of (e1.bh _ _ ha)⟩,q ds _ B1 H1 z e1 g1 (ItOk.list ha rs)⟩
theorem i_tup {l:Expr} (hl:PE3 X l u):PI3 X tg l (uiT u):=by
 obtain ⟨_,h1,r1⟩:=hl
 refine ⟨_,pi_tup h1,fun ρ k h R W B H σ Q e q=>?_⟩
 refine r1 ρ _ h R W B H σ _ e fun d v B1 H1 z1 e1 g1 s1=>?_
 obtain ⟨ds,rfl,z⟩:=z1
 obtain ⟨a,vs,rfl,ha,rs⟩:=s1.tupV
 exact ⟨a,rfl,⟨vs,SqT.of (e1.bh _ _ ha)⟩,q ds _ B1 H1 z e1 g1 (ItOk.tup ha rs)⟩
theorem i_rng {a:Expr} (ha:PE3 X a u) (hg:Gl X "range") (hm:X.mg "range" = none) (hs:starEach [a] X.env=[(false,eval a X.env)]:=by rfl):PI3 X tg (.Call (.Name "range" p) [a] [] pos) (uiR u):=by
 obtain ⟨_,h1,r1⟩:=ha
 refine ⟨_,pi_range1 hg hm (pa_cons h1 pa_nil (by exact hs)) hs,fun ρ k h R W B H σ Q e q=>?_⟩
 refine r1 ρ _ h R W B H σ _ e fun d v B1 H1 z1 e1 g1 s1=>?_
 obtain ⟨j,rfl,j0,j1,z⟩:=z1
 exact ⟨j,by rw [s1.intV],j0,j1,q _ _ B1 H1 z e1 g1 (ItOk.rng _)⟩
def forR (g:UG) (s:US) (U:UEnds):List D→List Sl→Prop
 | [],ρ=>U.nx ρ
 | d :: ds,ρ=>g d ρ fun ρ'=>s { U with nx:=forR g s U ds,ct:=forR g s U ds,bk:=U.nx } ρ'
def uFor (w:UL) (g:UG) (s:US):US:=fun U ρ=>w ρ fun ds=>forR g s U ds ρ
theorem s_for {iter:Expr} {body:List Stmt} {g:UG} {s:US} (hp:PassesOwn (model X.prog X.w) X.A X.env X.xe) (hc:X.calm=true) (hi:PI3 X tg iter w) (hg:PG3 X tg g) (hb:PSs3 X body s)
  (hs:∀ x,foldedSetIterable iter X.env x=pure x:=by intro _; rfl):PS3 X (.For tg iter body [] pos) (uFor w g s):=by
 obtain ⟨_,h0,r0⟩:=hi; obtain ⟨_,h1,r1⟩:=hg; obtain ⟨_,h2,r2⟩:=hb
 refine ⟨_,ps_for hp hc h0 h1 h2 hs,fun U ρ h R W B H σ D e sm=>?_⟩
 refine r0 ρ _ h R W B H σ _ e fun ds J B1 H1 z1 e1 g1 it=>?_
 refine ⟨fun i m σ' H'=>∃ ρ' B',m=ds.length - i∧i≤ds.length∧forR g s U (ds.drop i) ρ'∧Ev X.K R W B' H' σ' ρ'∧Grow R B B'∧Same B1 B',⟨ds.length,ρ,B1,by simp,Nat.zero_le _,z1,e1,g1,Same.refl _⟩,?_⟩
 rintro i m σ1 H2 ⟨ρ1,B2,rfl,hi,z2,e2,g2,s2⟩
 obtain ⟨t1,t2,t3⟩:=it H2 (s2.trans e2.bh) i
 by_cases hlt:i < ds.length
 ·refine .inr ⟨t1 hlt,fun σ' H'=>∃ ρ' B',forR g s U (ds.drop (i + 1)) ρ'∧Ev X.K R W B' H' σ' ρ'∧Grow R B B'∧Same B1 B',?_,?_⟩
  ·rintro σ' H' ⟨ρ',B',z,e',g',s'⟩
   exact ⟨ds.length - (i + 1),by omega,ρ',B',rfl,hlt,z,e',g',s'⟩
  ·intro x H' y
   obtain ⟨rfl,d,hd,rx⟩:=t3 x H' hlt y
   have ed:ds.drop i=d :: ds.drop (i + 1):=by
    rw [List.drop_eq_getElem_cons hlt]
    rw [List.getElem?_eq_getElem hlt] at hd
    rw [Option.some.inj hd]
   rw [ed] at z2
   refine r1 d ρ1 _ z2 R W B2 _ σ1 x _ e2 (rx.mono s2) fun ρ' σ' z' e' _=>?_
   exact r2 _ ρ' z' R W B2 _ σ' _ e' ⟨fun ρ' σ' B' H' z e' g=>⟨ρ',B',z,e',g2.trans g,s2.trans g.s⟩,fun ρ' σ' B' H' z e' g=>sm.nx ρ' σ' B' H' z e' (g2.trans g),fun ρ' σ' B' H' z e' g=>⟨ρ',B',z,e',g2.trans g,s2.trans g.s⟩,fun r v B' H' z e' g q=>sm.rt r v B' H' z e' (g2.trans g) q⟩
 ·have ei:i=ds.length:=by omega
  subst ei
  rw [List.drop_length] at z2
  exact .inl ⟨t2 (Nat.le_refl _),sm.nx ρ1 σ1 B2 H2 z2 e2 g2⟩
end
end L3
namespace L3
open PySem L2
open PySem.Builtin.Int (intBits)
section
variable {K:PySem.W.Frag} {X:Cx} {e:Expr} {es:List Expr} {u:UE} {w:UL} {pos p:Pos}
theorem Ev.newO {R:Hp} {W:Addr→Prop} {B H:Hp} {σ:St} {ρ:List Sl} (e:Ev K R W B H σ ρ) {q:Addr} (hq:H q=none) {vs:List V} {ds:List D} (r:Reps K B vs ds) :
  Ev K R W B (upd H q (.lst vs)) σ ρ∧R q=none∧B q=none∧(upd H q (.lst vs)) q=some (.lst vs)∧∀ i,¬ MutAt σ ρ i q:=by
 obtain ⟨f1,f2,f3⟩:=e.toWd.fresh hq
 exact ⟨e.allocH hq _,f1,f3,upd_same,fun i m=>e.notNew hq m rfl⟩
def cutL {α:Type} (xs:List α) (lo hi:Option Int):List α:=(xs.drop (HT.sIx xs.length 0 lo)).take (HT.sIx xs.length xs.length hi - HT.sIx xs.length 0 lo)
theorem Reps.cut {B:Hp} {vs:List V} {ds:List D} (r:Reps K B vs ds) (lo hi:Option Int):Reps K B (cutL vs lo hi) (cutL ds lo hi):=by
 unfold cutL
 rw [r.length]
 exact (r.drop _).take _
abbrev UP:=List Sl→(Option Int→Prop)→Prop
def RefP (K:PySem.W.Frag) (t:TO) (u:UP):Prop:=∀ (ρ:List Sl) (k:Option Int→Prop),u ρ k→∀ (R:Hp) (W:Addr→Prop) (B H:Hp) (σ:St) (Q:Option Int→Hp→Prop),Ev K R W B H σ ρ →
 (∀ o B' H',k o→Ev K R W B' H' σ ρ→Grow R B B'→Q o H')→t σ H Q
def PP3 (X:Cx) (e:Option Expr) (u:UP):Prop:=∃ t,PO X e t∧RefP X.K t u
def upN:UP:=fun _ k=>k none
def upS (u:UE):UP:=fun ρ k=>u ρ fun d=>∃ i,d=.int i∧k (some i)
theorem p_none:PP3 X none upN:=⟨_,po_none,fun ρ k h R W B H σ Q e q=>q none B H h e (Grow.refl _ _)⟩
theorem p_some (h:PE3 X e u):PP3 X (some e) (upS u):=by
 obtain ⟨_,h1,r1⟩:=h
 refine ⟨_,po_some h1,fun ρ k h R W B H σ Q e q=>?_⟩
 refine r1 ρ _ h R W B H σ _ e fun d v B1 H1 z1 e1 g1 s1=>?_
 obtain ⟨i,rfl,z⟩:=z1
 exact ⟨i,s1.intV,q _ B1 H1 z e1 g1⟩
def itemsD:D→Option (List D)
 | .lst ds=>some ds
 | .scr ns=>some (ns.map .int)
 | _=>none
theorem itemsD_ok {B H:Hp} {v:V} {x:D} {ds:List D} (s:Same B H) (r:Rep K B v x) (h:itemsD x=some ds):∃ a vs,v=.ref a∧SqL K H a vs∧Reps K B vs ds:=by
 cases x <;> first | (cases h; done) | skip
 ·obtain ⟨a,vs,rfl,ha,rs⟩:=r.lstV
  cases h
  exact ⟨a,vs,rfl,SqL.of (s _ _ ha),rs⟩
 ·obtain ⟨a,rfl,ha⟩:=r.scrV
  cases h
  exact ⟨a,_,rfl,s.seq ha,Reps.ints _⟩
def uSl (u:UE) (l h:UP):UL:=fun ρ k=>u ρ fun x=>l ρ fun lo=>h ρ fun hi=>∃ ds,itemsD x=some ds∧k (cutL ds lo hi)
theorem o_slice {lo hi:Option Expr} {ul uh:UP} {p2:Pos} (he:PE3 X e u) (hl:PP3 X lo ul) (hh:PP3 X hi uh):PO3 X (.Subscript e (.Slice lo hi none p2) pos) (uSl u ul uh):=by
 obtain ⟨_,h1,r1⟩:=he; obtain ⟨_,h2,r2⟩:=hl; obtain ⟨_,h3,r3⟩:=hh
 refine ⟨_,pe_slice sl_list h1 h2 h3,fun ρ k h R W B H σ Q e q=>?_⟩
 refine r1 ρ _ h R W B H σ _ e fun d v B1 H1 z1 e1 g1 s1=>?_
 refine r2 ρ _ z1 R W B1 H1 σ _ e1 fun lo B2 H2 z2 e2 g2=>?_
 refine r3 ρ _ z2 R W B2 H2 σ _ e2 fun hi B3 H3 z3 e3 g3=>?_
 obtain ⟨ds,hd,z⟩:=z3
 obtain ⟨a,vs,rfl,ha,rs⟩:=itemsD_ok e3.bh (s1.mono (g2.trans g3).s) hd
 refine ⟨a,vs,rfl,ha,fun p hp=>?_⟩
 obtain ⟨f1,f2,f3,f4,f5⟩:=e3.newO hp (rs.cut lo hi)
 exact q _ p _ B3 _ z f1 ((g1.trans g2).trans g3) f2 f3 f4 (rs.cut lo hi) f5
def uCat (u v:UE):UL:=fun ρ k=>u ρ fun x=>v ρ fun y=>∃ ds es,x=.lst ds∧y=.lst es∧ds.length + es.length≤sizeLine∧k (ds ++ es)
theorem o_cat {a b:Expr} {ua ub:UE} (ha:PE3 X a ua) (hb:PE3 X b ub):PO3 X (.BinOp a .Add b pos) (uCat ua ub):=by
 obtain ⟨_,h1,r1⟩:=ha; obtain ⟨_,h2,r2⟩:=hb
 refine ⟨_,pe_op op_cat h1 h2,fun ρ k h R W B H σ Q e q=>?_⟩
 refine r1 ρ _ h R W B H σ _ e fun d v B1 H1 z1 e1 g1 s1=>?_
 refine r2 ρ _ z1 R W B1 H1 σ _ e1 fun d' v' B2 H2 z2 e2 g2 s2=>?_
 obtain ⟨ds,es,rfl,rfl,hl,z⟩:=z2
 obtain ⟨a,vs,rfl,ha,rs⟩:=(s1.mono g2.s).lstV
 obtain ⟨b,ws,rfl,hb,rt⟩:=s2.lstV
 refine ⟨a,b,vs,ws,rfl,rfl,e2.bh _ _ ha,e2.bh _ _ hb,by rw [rs.length,rt.length]; exact hl,fun p hp=>?_⟩
 obtain ⟨f1,f2,f3,f4,f5⟩:=e2.newO hp (rs.append rt)
 exact q _ p _ B2 _ z f1 (g1.trans g2) f2 f3 f4 (rs.append rt) f5
def uCopy (u:UE):UL:=fun ρ k=>u ρ fun x=>∃ ds,(x=.lst ds∨x=.tup ds)∧k ds
theorem o_copy (ha:PE3 X e u) (hg:Gl X "list") (hm:X.mg "list" = none) (hs:starEach [e] X.env=(false,eval e X.env) :: starEach [] X.env:=by rfl):PO3 X (.Call (.Name "list" p) [e] [] pos) (uCopy u):=by
 obtain ⟨_,h1,r1⟩:=ha
 refine ⟨_,pe_callTy call_list_of hg hm (by decide +kernel) (pa_cons h1 pa_nil hs) (by decide) (by decide) hs,fun ρ k h R W B H σ Q e q=>?_⟩
 refine r1 ρ _ h R W B H σ _ e fun d v B1 H1 z1 e1 g1 s1=>?_
 obtain ⟨ds,hd,z⟩:=z1
 rcases hd with rfl | rfl
 ·obtain ⟨a,vs,rfl,ha,rs⟩:=s1.lstV
  refine ⟨a,vs,rfl,.inl (SqL.of (e1.bh _ _ ha)),fun p hp=>?_⟩
  obtain ⟨f1,f2,f3,f4,f5⟩:=e1.newO hp rs
  exact q _ p _ B1 _ z f1 g1 f2 f3 f4 rs f5
 ·obtain ⟨a,vs,rfl,ha,rs⟩:=s1.tupV
  refine ⟨a,vs,rfl,.inr (SqT.of (e1.bh _ _ ha)),fun p hp=>?_⟩
  obtain ⟨f1,f2,f3,f4,f5⟩:=e1.newO hp rs
  exact q _ p _ B1 _ z f1 g1 f2 f3 f4 rs f5
def uSum (u:UE):UE:=fun ρ k=>u ρ fun x=>∃ ns:List Int,x=.lst (ns.map .int)∧k (.int ns.sum)
theorem reps_ints {B:Hp}:∀ {ns:List Int} {vs:List V},Reps K B vs (ns.map D.int)→vs=ns.map V.int
 | [],_,.nil=>rfl
 | n :: r,_,.cons h t=>by rw [h.intV,reps_ints t]; rfl
theorem e_sum (ha:PE3 X e u) (hc:X.calm=true) (hg:Gl X "sum") (hm:X.mg "sum" = none) (hs:starEach [e] X.env=(false,eval e X.env) :: starEach [] X.env:=by rfl):PE3 X (.Call (.Name "sum" p) [e] [] pos) (uSum u):=by
 obtain ⟨_,h1,r1⟩:=ha
 refine ⟨_,pe_callB (call_sum hc) hg hm (by decide +kernel) (pa_cons h1 pa_nil hs) (by decide) (by decide) hs,refCB1 (f:=fun x k=>∃ ns:List Int,x=.lst (ns.map .int)∧k (.int ns.sum)) r1 fun x k h R W B H σ ρ v Q e rx q=>?_⟩
 obtain ⟨ns,rfl,hk⟩:=h
 obtain ⟨a,vs,rfl,ha,rs⟩:=rx.lstV
 cases reps_ints rs
 exact ⟨a,ns,rfl,e.bh _ _ ha,q _ _ B H hk e (Grow.refl _ _) (.int _)⟩
def uApp (i:Nat) (u:UE):US:=fun U ρ=>∃ ds:List D,ρ[i]?=some (.own ds)∧u ρ fun d=>ds.length < sizeLine∧U.nx (ρ.set i (.own (ds ++ [d])))
theorem s_app (i:Nat) {x:Str} {px apos cpos:Pos} (he:PE3 X e u) (hN:X.N[i]?=some x:=by rfl) (hv:Vis X.env.scope x:=by first | exact Or.inl rfl | exact Or.inr (Or.inl rfl) | exact Or.inr (Or.inr rfl)) (hd:(x == ("__debug__" : Str))=false:=by decide)
  (hcd:(x == ("__classdict__" : Str))=false:=by decide) (hbase:attributeBase (.Name x px) "append" X.env (eval (.Name x px) X.env)=eval (.Name x px) X.env:=by rfl)
  (hfew:((backTo cpos (starEach [e] X.env)).all (fun x => !x.1) && (backToKw cpos (keywordEach [] X.env)).all (fun x=>x.1.isSome)
   && decide ([e].length + ([]:List Keyword).length + (if ([]:List Keyword).isEmpty then 0 else 1) < 30))=true:=by rfl)
  (hline:(apos.endLine == cpos.line)=true:=by rfl) (hs:starEach [e] X.env=(false,eval e X.env) :: starEach [] X.env:=by rfl) (hplain:(backTo cpos (starEach ([]:List Expr) X.env)).any (·.1)=false:=by rfl)
  (hsw:swapsWith (.Call (.Attribute (.Name x px) "append" apos) [e] [] cpos) none pos.line X.env=pure false:=by rfl):PS3 X (.Expr (.Call (.Attribute (.Name x px) "append" apos) [e] [] cpos) pos) (uApp i u):=by
 obtain ⟨_,h1,r1⟩:=he
 refine ⟨_,ps_expr (pe_bm PySem.F.plainAttrs_list PySem.F.slot_list_append PySem.F.type_list_append mt_append (pe_var hN hv hd hcd) (pa_cons h1 pa_nil hs) hbase hfew hline hs hplain) hsw,fun U ρ h R W B H σ D e s=>?_⟩
 obtain ⟨ds,ho,h⟩:=h
 obtain ⟨a,vs,e1,e2,e3,e4,e5⟩:=e.ownAt ho
 refine ⟨_,e1,.inl ⟨rfl,vs,SqL.of e4⟩,?_⟩
 refine r1 ρ _ h R W B H σ _ e fun d v B1 H1 z1 f1 g1 s1=>?_
 obtain ⟨a',vs',k1,k2,k3,k4,k5⟩:=f1.ownAt ho
 rw [e1] at k1; cases k1
 exact ⟨a,vs',v,rfl,rfl,k4,by rw [k5.length]; exact z1.1,s.nx _ _ B1 _ z1.2 (f1.write e1 ho (k5.append (.cons s1 .nil))) g1⟩
def frS (ρ:List Sl) (j:Nat):Sl:=match ρ[j]? with
 | some (.val d)=>.val d
 | some .bag=>.bag
 | _=>.no
theorem Ev.scribble {R:Hp} {W:Addr→Prop} {B H:Hp} {σ:St} {ρ:List Sl} (e:Ev K R W B H σ ρ) {a:Addr} (hr:R a=none) (hb:B a=none) (hm:∀ i,¬ MutAt σ ρ i a) (o:HO):Ev K R W B (upd H a o) σ ρ:=by
 have nw:¬ W a:=fun z=>e.wr a z hr
 refine e.move ⟨fun b q h z=>?_,fun b q h=>?_,e.wb,fun b z=>(e.wh b z).upd (by rintro rfl; exact nw z),e.wr⟩ (Same.refl _) fun i b m=>?_
 ·rw [upd_ne (by rintro rfl; rw [hr] at h; cases h)]; exact e.fr b q h z
 ·rw [upd_ne (by rintro rfl; rw [hb] at h; cases h)]; exact e.bh b q h
 ·have n:b≠a:=by rintro rfl; exact hm i m
  refine ⟨(e.mutOk m).1,fun z=>?_,fun _=>upd_ne n⟩
  obtain ⟨c,c1,_,_,c4⟩:=e.bagAt z
  rw [mut_bag m z] at c1; cases c1
  exact c4.upd n
theorem freeV_get {σ:St} {js:List Nat} {i:Nat} {o:Option V} (h:(freeV σ js)[i]?=some o):∃ j,js[i]?=some j∧o=(σ[j]?).join:=by
 unfold freeV at h
 rw [List.getElem?_map] at h
 cases q:js[i]? with
 | none=>rw [q] at h; cases h
 | some j=>rw [q] at h; exact ⟨j,rfl,(Option.some.inj h).symm⟩
def RefN (K:PySem.W.Frag) (t:TE) (u:List Sl→Prop→Prop):Prop:=∀ (ρ:List Sl) (k:Prop),u ρ k→∀ (R:Hp) (W:Addr→Prop) (B H:Hp) (σ:St) (Q:VK),Ev K R W B H σ ρ →
 (∀ a B' H',k→Ev K R W B' H' σ ρ→Grow R B B'→R a=none→B' a=none→Bag H' a→(∀ i,¬ MutAt σ ρ i a)→Q (.ref a) H')→t σ H Q
def PN3 (X:Cx) (e:Expr) (u:List Sl→Prop→Prop):Prop:=∃ t,PE X e t∧RefN X.K t u
def uCallN (n:Nat) (F:FS) (w:UA):List Sl→Prop→Prop:=fun ρ k=>w ρ fun as=>sh as n=true∧F (as.map Arg.sl) fun r=>r=.bag∧k
theorem n_call {n:Nat} {F:FS} {w:UA} {x:Str} {ps:List Str} {j lv:Nat} (c:Cal X.prog X.w X.K X.mg X.base x ps j (Con X.K n F)) (hr:Room lv X.A) (hg:Gl X x) (ha:PA3 X (e :: es) w) (hjk:j≤lv:=by decide)
  (hdb:(x == ("__debug__" : Str))=false:=by decide) (he:starEach (e :: es) X.env=(false,eval e X.env) :: starEach es X.env:=by rfl) (hpl:(backTo pos (starEach es X.env)).any (·.1)=false:=by rfl) :
  PN3 X (.Call (.Name x p) (e :: es) [] pos) (uCallN n F w):=by
 obtain ⟨_,h1,r1⟩:=ha
 refine ⟨_,pe_cal c hr hg h1 hjk hdb he hpl,fun ρ k h R W B H σ Q e q=>?_⟩
 refine r1 ρ _ h R W B H σ _ e fun as vs B1 H1 z1 e1 g1 s1=>?_
 rw [List.append_nil]
 refine call_ok e1 s1 z1.1 z1.2 fun r v B2 H2 hk e2 g2 res=>?_
 obtain ⟨rfl,hk⟩:=hk
 obtain ⟨a,rfl,f1,f2,f3⟩:=res
 exact q a B2 H2 hk e2 (g1.trans g2) (e1.toWd.fresh f1).1 f2 f3 fun i m=>(e1.mutOk m).2 f1
def uSetN (i:Nat) (u:List Sl→Prop→Prop):US:=fun U ρ=>u ρ (U.nx (ρ.set i .bag))
theorem s_setN {i:Nat} {x:Str} {pos':Pos} {u:List Sl→Prop→Prop} (hN:X.N.Nodup) (hi:X.N[i]?=some x) (hx:Loc X.env.scope x) (he:PN3 X e u) (hs:swapsWith e (some (.Name x pos')) pos.line X.env=pure false:=by rfl) (hf:X.fn x=true∨X.env.scope.names.lookup x=some .local:=by first | exact .inl rfl | exact .inr rfl | assumption) :
  PS3 X (.Assign [.Name x pos'] e pos) (uSetN i u):=by
 obtain ⟨_,h1,r1⟩:=he
 refine ⟨_,ps_set hN hi hx h1 hs hf,fun U ρ h R W B H σ D e s=>?_⟩
 refine r1 ρ _ h R W B H σ _ e fun a B1 H1 z1 e1 g1 f1 f2 f3 f4=>s.nx _ _ B1 H1 z1 (e1.set i ⟨a,rfl,.inr f1,f2,f3⟩ fun b z _ j _=>?_) g1
 cases z
 exact f4 j
end
end L3
namespace L3
open PySem L2
inductive Sh where
 | I | B | N | S | T (ss:List Sh) | L (s:Sh)
mutual
def has:Sh→D→Bool
 | .I,.int _=>true
 | .B,.bl _=>true
 | .N,.non=>true
 | .S,.str _=>true
 | .T ss,.tup xs=>hass ss xs
 | .L s,.lst xs=>xs.all fun x=>has s x
 | _,_=>false
def hass:List Sh→List D→Bool
 | [],[]=>true
 | s :: ss,x :: xs=>has s x && hass ss xs
 | _,_=>false
end
mutual
def dep:Sh→Nat
 | .T ss=>deps ss + 1
 | .L s=>dep s + 1
 | _=>0
def deps:List Sh→Nat
 | []=>0
 | s :: ss=>max (dep s) (deps ss)
end
noncomputable def eqD (x y:D):Bool := @decide (x=y) (Classical.propDecidable _)
theorem eqD_iff {x y:D}:eqD x y=true↔x=y:=by unfold eqD; exact @decide_eq_true_iff _ (Classical.propDecidable _)
theorem eqD_self (x:D):eqD x x=true:=eqD_iff.mpr rfl
theorem eqD_of {x y:D} {b:Bool} (h:b=true↔x=y):eqD x y=b:=by
 rw [Bool.eq_iff_iff,eqD_iff,h]
section
variable {K:PySem.W.Frag} {B:Hp}
theorem has_int {x:D} (h:has .I x=true):∃ i,x=.int i:=by cases x <;> first | exact ⟨_,rfl⟩ | (simp [has] at h)
theorem has_bl {x:D} (h:has .B x=true):∃ i,x=.bl i:=by cases x <;> first | exact ⟨_,rfl⟩ | (simp [has] at h)
theorem has_non {x:D} (h:has .N x=true):x=.non:=by cases x <;> first | rfl | (simp [has] at h)
theorem has_str {x:D} (h:has .S x=true):∃ i,x=.str i:=by cases x <;> first | exact ⟨_,rfl⟩ | (simp [has] at h)
theorem has_tup {x:D} {ss:List Sh} (h:has (.T ss) x=true):∃ xs,x=.tup xs∧hass ss xs=true:=by
 cases x <;> first | exact ⟨_,rfl,by simpa [has] using h⟩ | (simp [has] at h)
theorem has_lst {x:D} {s:Sh} (h:has (.L s) x=true):∃ xs,x=.lst xs∧∀ y∈xs,has s y=true:=by
 cases x <;> first | exact ⟨_,rfl,by simpa [has] using h⟩ | (simp [has] at h)
theorem hass_len:∀ {ss:List Sh} {xs:List D},hass ss xs=true→xs.length=ss.length
 | [],[],_=>rfl
 | [],_ :: _,h=>by simp [hass] at h
 | _ :: _,[],h=>by simp [hass] at h
 | s :: ss,x :: xs,h=>by
  simp [hass] at h
  simp [hass_len h.2]
mutual
theorem rep_fn:∀ (sh:Sh) {x y:D} {v:V},has sh x=true→has sh y=true→Rep K B v x→Rep K B v y→x=y
 | .I,x,y,v,h1,h2,r1,r2=>by
  obtain ⟨i,rfl⟩:=has_int h1; obtain ⟨j,rfl⟩:=has_int h2
  have e:=r1.intV.symm.trans r2.intV
  cases e; rfl
 | .B,x,y,v,h1,h2,r1,r2=>by
  obtain ⟨i,rfl⟩:=has_bl h1; obtain ⟨j,rfl⟩:=has_bl h2
  have e:=r1.blV.symm.trans r2.blV
  cases e; rfl
 | .N,x,y,v,h1,h2,r1,r2=>by rw [has_non h1,has_non h2]
 | .S,x,y,v,h1,h2,r1,r2=>by
  obtain ⟨i,rfl⟩:=has_str h1; obtain ⟨j,rfl⟩:=has_str h2
  cases r1; cases r2; rfl
 | .T ss,x,y,v,h1,h2,r1,r2=>by
  obtain ⟨xs,rfl,q1⟩:=has_tup h1; obtain ⟨ys,rfl,q2⟩:=has_tup h2
  obtain ⟨a,vs,rfl,ha,ra⟩:=r1.tupV
  obtain ⟨b,ws,e,hb,rb⟩:=r2.tupV
  cases e
  rw [ha] at hb; cases hb
  rw [reps_fn ss q1 q2 ra rb]
 | .L s,x,y,v,h1,h2,r1,r2=>by
  obtain ⟨xs,rfl,q1⟩:=has_lst h1; obtain ⟨ys,rfl,q2⟩:=has_lst h2
  obtain ⟨a,vs,rfl,ha,ra⟩:=r1.lstV
  obtain ⟨b,ws,e,hb,rb⟩:=r2.lstV
  cases e
  rw [ha] at hb; cases hb
  have:xs=ys:=by
   apply List.ext_getElem?
   intro i
   cases qx:xs[i]? with
   | none =>
    have:ys[i]?=none:=by
     have h1:=ra.length
     have h2:=rb.length
     have h3:=List.getElem?_eq_none_iff.mp qx
     exact List.getElem?_eq_none_iff.mpr (by omega)
    rw [this]
   | some d =>
    obtain ⟨v,ev,rv⟩:=ra.get qx
    obtain ⟨d',ed,rd⟩:=rb.getV ev
    rw [ed,rep_fn s (q1 d (List.mem_of_getElem? qx)) (q2 d' (List.mem_of_getElem? ed)) rv rd]
  rw [this]
theorem reps_fn:∀ (ss:List Sh) {xs ys:List D} {vs:List V},hass ss xs=true→hass ss ys=true→Reps K B vs xs→Reps K B vs ys→xs=ys
 | [],xs,ys,vs,h1,h2,r1,r2=>by
  have e1:=hass_len h1; have e2:=hass_len h2
  rw [List.length_nil] at e1 e2
  rw [List.eq_nil_of_length_eq_zero e1,List.eq_nil_of_length_eq_zero e2]
 | s :: ss,[],ys,vs,h1,h2,r1,r2=>by simp [hass] at h1
 | s :: ss,x :: xs,[],vs,h1,h2,r1,r2=>by simp [hass] at h2
 | s :: ss,x :: xs,y :: ys,vs,h1,h2,r1,r2=>by
  simp [hass] at h1 h2
  cases r1 with
  | cons a1 b1=>cases r2 with
   | cons a2 b2=>rw [rep_fn s h1.1 h2.1 a1 a2,reps_fn ss h1.2 h2.2 b1 b2]
end
end
section
variable {X:Cx} {pins:List (Addr×Obj)} {σ:St} {H B:Hp} {s:Shared}
theorem all_eqD {xs ys:List D} {n:Nat} {e:Nat→Bool} (hn:n=xs.length) (hl:xs.length=ys.length) (he:∀ j,j < n→(e j=true↔xs[j]?=ys[j]?)):((List.range n).all e)=true↔xs=ys:=by
 rw [List.all_eq_true]
 constructor
 ·intro h
  apply List.ext_getElem?
  intro i
  by_cases hi:i < n
  ·exact (he i hi).mp (h i (List.mem_range.mpr hi))
  ·rw [List.getElem?_eq_none (by omega),List.getElem?_eq_none (by omega)]
 ·rintro rfl j hj
  exact (he j (List.mem_range.mp hj)).mpr rfl
noncomputable def eqO (xs ys:List D) (j:Nat):Bool := @decide (xs[j]?=ys[j]?) (Classical.propDecidable _)
theorem eqO_iff {xs ys:List D} {j:Nat}:eqO xs ys j=true↔xs[j]?=ys[j]?:=by unfold eqO; exact @decide_eq_true_iff _ (Classical.propDecidable _)
theorem eqO_at {xs ys:List D} {j:Nat} {x y:D} (h1:xs[j]?=some x) (h2:ys[j]?=some y):eqO xs ys j=eqD x y:=by
 rw [Bool.eq_iff_iff,eqO_iff,eqD_iff,h1,h2]
 constructor
 ·intro h; exact Option.some.inj h
 ·intro h; rw [h]
structure EqAll (A:Around) (s:Shared) (u w:Value) (x y:D):Prop where
 rc:SeqAt.RcAt A s u w (eqD x y)
 ne:SeqAt.RcNeAt A s u w (!eqD x y)
 eq:SeqAt.EqAt A s u w (eqD x y)
mutual
theorem eq_sh (I:Inv X pins σ H s) (sB:Same B H):∀ (sh:Sh) {A:Around} {x y:D} {v w:V} {u u':Value},has sh x=true→has sh y=true→Rep X.K B v x→Rep X.K B w y→RelV v u→RelV w u'→A.units + dep sh < cLine→EqAll A s u u' x y
 | .I,A,x,y,v,w,u,u',h1,h2,r1,r2,l1,l2,hu=>by
  obtain ⟨i,rfl⟩:=has_int h1; obtain ⟨j,rfl⟩:=has_int h2
  cases r1.intV; cases r2.intV
  obtain ⟨t,rfl⟩:=l1; obtain ⟨t',rfl⟩:=l2
  have e:eqD (.int i) (.int j)=(i == j):=eqD_of (by simp)
  refine ⟨?_,?_,?_⟩ <;> rw [e]
  ·exact SeqAt.RcAt.int_int i t j t'
  ·exact SeqAt.RcNeAt.int_int i t j t'
  ·exact SeqAt.EqAt.int_int i t j t'
 | .B,A,x,y,v,w,u,u',h1,h2,r1,r2,l1,l2,hu=>by
  obtain ⟨i,rfl⟩:=has_bl h1; obtain ⟨j,rfl⟩:=has_bl h2
  cases r1.blV; cases r2.blV
  cases l1; cases l2
  have e:eqD (.bl i) (.bl j)=(i == j):=eqD_of (by simp)
  refine ⟨?_,?_,?_⟩ <;> rw [e]
  ·exact SeqAt.RcAt.bool_bool i j
  ·exact SeqAt.RcNeAt.bool_bool i j
  ·exact SeqAt.EqAt.bool_bool i j
 | .N,A,x,y,v,w,u,u',h1,h2,r1,r2,l1,l2,hu=>by
  cases has_non h1; cases has_non h2
  cases r1.nonV; cases r2.nonV
  cases l1; cases l2
  have e:eqD .non .non=true:=eqD_self _
  refine ⟨?_,?_,?_⟩ <;> rw [e]
  ·exact SeqAt.RcAt.none_none
  ·exact SeqAt.RcNeAt.none_none
  ·exact SeqAt.EqAt.same _
 | .S,A,x,y,v,w,u,u',h1,h2,r1,r2,l1,l2,hu=>by
  obtain ⟨i,rfl⟩:=has_str h1; obtain ⟨j,rfl⟩:=has_str h2
  cases r1; cases r2
  obtain ⟨t,rfl⟩:=l1; obtain ⟨t',rfl⟩:=l2
  have e:eqD (.str i) (.str j)=(i == j):=eqD_of (by simp)
  refine ⟨?_,?_,?_⟩ <;> rw [e]
  ·exact SeqAt.RcAt.str_str i t j t'
  ·exact SeqAt.RcNeAt.str_str i t j t'
  ·exact SeqAt.EqAt.str_str i t j t'
 | .T ss,A,x,y,v,w,u,u',h1,h2,r1,r2,l1,l2,hu=>by
  have r1':=r1
  have r2':=r2
  obtain ⟨xs,rfl,q1⟩:=has_tup h1; obtain ⟨ys,rfl,q2⟩:=has_tup h2
  obtain ⟨a,vs,rfl,ha,ra⟩:=r1.tupV
  obtain ⟨b,ws,rfl,hb,rb⟩:=r2.tupV
  cases l1; cases l2
  obtain ⟨its,k1,t1,_⟩:=I.tuple (SqT.of (sB _ _ ha))
  obtain ⟨its2,k2,t2,_⟩:=I.tuple (SqT.of (sB _ _ hb))
  have d1:dep (.T ss)=deps ss + 1:=by simp [dep]
  have lx:=hass_len q1
  have ly:=hass_len q2
  have z1:=ra.length; have z2:=rb.length; have z3:=k1.length; have z4:=k2.length
  have el:=eqs_sh I sB ss (A:=A.in1) q1 q2 ra rb k1 k2 (by show A.units + 1 + deps ss < cLine; omega)
  have he:∀ j (h1:j < its.toArray.size) (h2:j < its2.toArray.size),SeqAt.EqAt A.in1 s its.toArray[j] its2.toArray[j] (eqO xs ys j):=fun j g1 g2=>by
   have:=el j (by simpa using g1) (by simpa using g2)
   simpa using this
  have e:eqD (.tup xs) (.tup ys)=((List.range (min its.toArray.size its2.toArray.size)).all (eqO xs ys) && its.toArray.size == its2.toArray.size):=by
   refine eqD_of ?_
   have s1:its.toArray.size=xs.length:=by simp; omega
   have s2:its2.toArray.size=xs.length:=by simp; omega
   rw [s1,s2,Nat.min_self,Bool.and_eq_true]
   have:=all_eqD (xs:=xs) (ys:=ys) (n:=xs.length) (e:=eqO xs ys) rfl (by omega) (fun j _=>eqO_iff)
   constructor
   ·intro h; rw [this.mp h.1]
   ·intro h; cases h; exact ⟨this.mpr rfl,by simp⟩
  have rc:SeqAt.RcAt A s (.ref a) (.ref b) (eqD (.tup xs) (.tup ys)):=by rw [e]; exact SeqAt.RcAt.tuples t1 t2 (by omega) he
  refine ⟨rc,by rw [e]; exact SeqAt.RcNeAt.tuples t1 t2 (by omega) he,?_⟩
  by_cases hab:a=b
  ·subst hab
   have:=rep_fn (.T ss) h1 h2 r1' r2'
   rw [this,eqD_self]
   exact SeqAt.EqAt.same _
  ·exact SeqAt.EqAt.of_refs hab rc
 | .L sh,A,x,y,v,w,u,u',h1,h2,r1,r2,l1,l2,hu=>by
  have r1':=r1
  have r2':=r2
  obtain ⟨xs,rfl,q1⟩:=has_lst h1; obtain ⟨ys,rfl,q2⟩:=has_lst h2
  obtain ⟨a,vs,rfl,ha,ra⟩:=r1.lstV
  obtain ⟨b,ws,rfl,hb,rb⟩:=r2.lstV
  cases l1; cases l2
  obtain ⟨its,k1,p1,_⟩:=I.list (SqL.of (sB _ _ ha))
  obtain ⟨its2,k2,p2,_⟩:=I.list (SqL.of (sB _ _ hb))
  have t1:=p1.isList
  have t2:=p2.isList
  have d1:dep (.L sh)=dep sh + 1:=by simp [dep]
  have z1:=ra.length; have z2:=rb.length; have z3:=k1.length; have z4:=k2.length
  have he:∀ j (h1:j < its.toArray.size) (h2:j < its2.toArray.size),SeqAt.EqAt A.in1 s its.toArray[j] its2.toArray[j] (eqO xs ys j):=fun j g1 g2=>by
   have g1':j < its.length:=by simpa using g1
   have g2':j < its2.length:=by simpa using g2
   obtain ⟨v1,e1,rv1⟩:=k1.getR (List.getElem?_eq_getElem g1')
   obtain ⟨v2,e2,rv2⟩:=k2.getR (List.getElem?_eq_getElem g2')
   obtain ⟨c1,f1,rd1⟩:=ra.getV e1
   obtain ⟨c2,f2,rd2⟩:=rb.getV e2
   rw [eqO_at f1 f2]
   have:=(eq_sh I sB sh (A:=A.in1) (q1 c1 (List.mem_of_getElem? f1)) (q2 c2 (List.mem_of_getElem? f2)) rd1 rd2 rv1 rv2 (by show A.units + 1 + dep sh < cLine; omega)).eq
   simpa using this
  by_cases hsz:its.toArray.size=its2.toArray.size
  ·have s1:its.toArray.size=xs.length:=by simp; omega
   have s2:xs.length=ys.length:=by simp at hsz; omega
   have e:eqD (.lst xs) (.lst ys)=(List.range its.toArray.size).all (eqO xs ys):=by
    refine eqD_of ?_
    rw [all_eqD (xs:=xs) (ys:=ys) s1 s2 (fun j _=>eqO_iff)]
    constructor
    ·intro h; rw [h]
    ·intro h; cases h; rfl
   have rc:SeqAt.RcAt A s (.ref a) (.ref b) (eqD (.lst xs) (.lst ys)):=by rw [e]; exact SeqAt.RcAt.lists t1 t2 hsz (by omega) he
   refine ⟨rc,by rw [e]; exact SeqAt.RcNeAt.lists t1 t2 hsz (by omega) he,?_⟩
   by_cases hab:a=b
   ·subst hab
    have:=rep_fn (.L sh) h1 h2 r1' r2'
    rw [this,eqD_self]
    exact SeqAt.EqAt.same _
   ·exact SeqAt.EqAt.of_refs hab rc
  ·have e:eqD (.lst xs) (.lst ys)=false:=eqD_of (by
    constructor
    ·intro h; cases h
    ·intro h; cases h; simp at hsz; omega)
   have hne:(its.toArray.size != its2.toArray.size)=true:=by simpa using hsz
   have rc:SeqAt.RcAt A s (.ref a) (.ref b) (eqD (.lst xs) (.lst ys)):=by rw [e]; exact SeqAt.RcAt.lists_lengths t1 t2 hne (by omega)
   refine ⟨rc,by rw [e]; exact SeqAt.RcNeAt.lists_lengths t1 t2 hne (by omega),?_⟩
   refine SeqAt.EqAt.of_refs (fun hab=>?_) rc
   subst hab
   have:=rep_fn (.L sh) h1 h2 r1' r2'
   cases this
   simp at hsz; omega
theorem eqs_sh (I:Inv X pins σ H s) (sB:Same B H):∀ (ss:List Sh) {A:Around} {xs ys:List D} {vs ws:List V} {us us':List Value},hass ss xs=true→hass ss ys=true→Reps X.K B vs xs→Reps X.K B ws ys→Vals vs us→Vals ws us'→A.units + deps ss < cLine →
  ∀ j (h1:j < us.length) (h2:j < us'.length),SeqAt.EqAt A s us[j] us'[j] (eqO xs ys j)
 | [],A,[],ys,_,_,_,_,h1,h2,.nil,r2,.nil,l2,hu,j,g1,g2=>absurd g1 (by simp)
 | [],A,x :: xs,ys,_,_,_,_,h1,h2,r1,r2,l1,l2,hu,j,g1,g2=>by simp [hass] at h1
 | s :: ss,A,[],ys,vs,ws,us,us',h1,h2,r1,r2,l1,l2,hu,j,g1,g2=>by simp [hass] at h1
 | s :: ss,A,x :: xs,[],vs,ws,us,us',h1,h2,r1,r2,l1,l2,hu,j,g1,g2=>by simp [hass] at h2
 | s :: ss,A,x :: xs,y :: ys,v :: vs,w :: ws,u :: us,u' :: us',h1,h2,.cons a1 b1,.cons a2 b2,.cons c1 d1,.cons c2 d2,hu,0,g1,g2=>by
  have h1':has s x=true:=by simp [hass] at h1; exact h1.1
  have h2':has s y=true:=by simp [hass] at h2; exact h2.1
  have dd:deps (s :: ss)=max (dep s) (deps ss):=by simp [deps]
  have:=(eq_sh I sB s (A:=A) h1' h2' a1 a2 c1 c2 (by omega)).eq
  rw [eqO_at (xs:=x :: xs) (ys:=y :: ys) (j:=0) rfl rfl]
  exact this
 | s :: ss,A,x :: xs,y :: ys,v :: vs,w :: ws,u :: us,u' :: us',h1,h2,.cons a1 b1,.cons a2 b2,.cons c1 d1,.cons c2 d2,hu,j + 1,g1,g2=>by
  have h1':hass ss xs=true:=by simp [hass] at h1; exact h1.2
  have h2':hass ss ys=true:=by simp [hass] at h2; exact h2.2
  have dd:deps (s :: ss)=max (dep s) (deps ss):=by simp [deps]
  have:=eqs_sh I sB ss (A:=A) h1' h2' b1 b2 d1 d2 (by omega) j (by simpa using g1) (by simpa using g2)
  have e:eqO (x :: xs) (y :: ys) (j + 1)=eqO xs ys j:=by
   rw [Bool.eq_iff_iff,eqO_iff,eqO_iff]; simp
  rw [e]
  exact this
end
def rEqD (K:PySem.W.Frag) (ng:Bool):R2:=fun x y H Q=>∃ B d e sh,Rep K B x d∧Rep K B y e∧Same B H∧has sh d=true∧has sh e=true∧dep sh≤50∧Q (.bl (if ng then !eqD d e else eqD d e)) H
theorem op_eqD (hu:X.A.units + 64 < cLine):OpR X (compareOp .Eq) (rEqD X.K false):=by
 intro pins s σ H x y v u Q I rx ry h
 obtain ⟨B,d,e,sh,r1,r2,sB,h1,h2,hd,q⟩:=h
 exact (eq_sh I sB sh (A:=X.A) h1 h2 r1 r2 rx ry (by omega)).rc _ _ _ _ ⟨.bl _,H,I,rfl,q⟩
theorem op_neD (hu:X.A.units + 64 < cLine):OpR X (compareOp .NotEq) (rEqD X.K true):=by
 intro pins s σ H x y v u Q I rx ry h
 obtain ⟨B,d,e,sh,r1,r2,sB,h1,h2,hd,q⟩:=h
 exact (eq_sh I sB sh (A:=X.A) h1 h2 r1 r2 rx ry (by omega)).ne _ _ _ _ ⟨.bl _,H,I,rfl,q⟩
def rInD (K:PySem.W.Frag) (ng:Bool):R2:=fun x y H Q=>∃ B d es sh,Rep K B x d∧(Rep K B y (.lst es)∨Rep K B y (.tup es))∧Same B H∧has sh d=true∧(∀ e∈es,has sh e=true)∧dep sh≤50∧∀ b:Bool,(b=true↔d∈es)→Q (.bl (if ng then !b else b)) H
noncomputable def inE (K:PySem.W.Frag) (B:Hp) (sh:Sh) (d:D) (u:Value):Bool := @decide (∃ v,RelV v u∧Rep K B v d) (Classical.propDecidable _)
theorem inE_iff {K:PySem.W.Frag} {sh:Sh} {d:D} {u:Value}:inE K B sh d u=true↔∃ v,RelV v u∧Rep K B v d:=by unfold inE; exact @decide_eq_true_iff _ (Classical.propDecidable _)
theorem relV_fn {v w:V} {u:Value} (h1:RelV v u) (h2:RelV w u):v=w:=by
 cases v <;> cases w <;> simp only [RelV] at h1 h2 <;> first
  | rfl
  | (obtain ⟨t,rfl⟩:=h1; obtain ⟨t',e⟩:=h2; cases e; rfl)
  | (obtain ⟨t,rfl⟩:=h1; obtain ⟨t',e⟩:=h2; cases e; done)
  | (obtain ⟨t,rfl⟩:=h1; cases h2; done)
  | (obtain ⟨t,rfl⟩:=h2; cases h1; done)
  | (subst h1; cases h2; rfl)
  | (subst h1; cases h2; done)
theorem in_any {K:PySem.W.Frag} {sh:Sh} {d:D} {vs:List V} {es:List D} {its:List Value} (h1:has sh d=true) (h2:∀ e∈es,has sh e=true) (r:Reps K B vs es) (l:Vals vs its):its.toArray.any (inE K B sh d)=true↔d∈es:=by
 rw [show its.toArray.any (inE K B sh d)=its.any (inE K B sh d) by simp,List.any_eq_true]
 constructor
 ·rintro ⟨u,hu,z⟩
  obtain ⟨v,lv,rv⟩:=inE_iff.mp z
  obtain ⟨j,hj⟩:=List.getElem?_of_mem hu
  obtain ⟨w,ew,lw⟩:=l.getR hj
  cases relV_fn lv lw
  obtain ⟨e,ee,re⟩:=r.getV ew
  have me:=List.mem_of_getElem? ee
  rw [rep_fn sh h1 (h2 e me) rv re]
  exact me
 ·intro m
  obtain ⟨j,hj⟩:=List.getElem?_of_mem m
  obtain ⟨v,ev,rv⟩:=r.get hj
  obtain ⟨u,eu,lu⟩:=l.get ev
  exact ⟨u,List.mem_of_getElem? eu,inE_iff.mpr ⟨v,lu,rv⟩⟩
theorem in_each (I:Inv X pins σ H s) (sB:Same B H) {A:Around} {sh:Sh} {d:D} {vs:List V} {es:List D} {its:List Value} {x:V} {v:Value} (h1:has sh d=true) (h2:∀ e∈es,has sh e=true) (rx:Rep X.K B x d) (lx:RelV x v) (r:Reps X.K B vs es) (l:Vals vs its)
  (hu:A.units + dep sh < cLine):∀ y,y∈its.toArray→SeqAt.EqAt A s y v (inE X.K B sh d y):=fun y hy=>by
 obtain ⟨j,hj⟩:=List.getElem?_of_mem (show y∈its by simpa using hy)
 obtain ⟨w,ew,lw⟩:=l.getR hj
 obtain ⟨e,ee,re⟩:=r.getV ew
 have he:=h2 e (List.mem_of_getElem? ee)
 have q:=(eq_sh I sB sh (A:=A) he h1 re rx lw lx hu).eq
 have z:eqD e d=inE X.K B sh d y:=eqD_of (by
  rw [inE_iff]
  constructor
  ·rintro ⟨v',l',r'⟩
   cases relV_fn l' lw
   exact rep_fn sh he h1 re r'
  ·rintro rfl
   exact ⟨w,lw,re⟩)
 rw [← z]
 exact q
theorem op_notInD (hu:X.A.units + 64 < cLine):OpR X (compareOp .NotIn) (rInD X.K true):=by
 intro pins s σ H x y v u Q I rx ry h
 obtain ⟨B,d,es,sh,r1,r2,sB,h1,h2,hd,q⟩:=h
 rcases r2 with r2 | r2
 ·obtain ⟨a,vs,rfl,ha,rs⟩:=r2.lstV
  cases ry
  obtain ⟨its,k1,p1,_⟩:=I.list (SqL.of (sB _ _ ha))
  exact SeqAt.notIn_listAt (inE X.K B sh d) p1.isList (in_each I sB (A:=X.A.in1) h1 h2 r1 rx rs k1 (by show X.A.units + 1 + _ < cLine; omega)) ⟨.bl _,H,I,rfl,q _ (in_any h1 h2 rs k1)⟩
 ·obtain ⟨a,vs,rfl,ha,rs⟩:=r2.tupV
  cases ry
  obtain ⟨its,k1,p1,_⟩:=I.tuple (SqT.of (sB _ _ ha))
  exact SeqAt.notIn_tupleAt (inE X.K B sh d) p1 (in_each I sB (A:=X.A.in1) h1 h2 r1 rx rs k1 (by show X.A.units + 1 + _ < cLine; omega)) ⟨.bl _,H,I,rfl,q _ (in_any h1 h2 rs k1)⟩
end
section
variable {K:PySem.W.Frag} {X:Cx} {a b:Expr} {ua ub:UE} {pos:Pos}
def uEq (ng:Bool) (ua ub:UE):UE:=fun ρ k=>ua ρ fun x=>ub ρ fun y=>∃ sh,has sh x=true∧has sh y=true∧dep sh≤50∧k (.bl (if ng then !eqD x y else eqD x y))
def uIn (ng:Bool) (ua ub:UE):UE:=fun ρ k=>ua ρ fun x=>ub ρ fun y=>∃ sh es,(y=.lst es∨y=.tup es)∧has sh x=true∧(∀ e∈es,has sh e=true)∧dep sh≤50∧∀ b:Bool,(b=true↔x∈es)→k (.bl (if ng then !b else b))
theorem refEq {ta tb:TE} {ng:Bool} (ha:RefE K ta ua) (hb:RefE K tb ub):RefE K (tOp (rEqD K ng) ta tb) (uEq ng ua ub) :=
 ref2 ha hb fun x y k h R W B H σ ρ v w Q e rx ry q=>by
  obtain ⟨sh,h1,h2,hd,hk⟩:=h
  exact ⟨B,x,y,sh,rx,ry,e.bh,h1,h2,hd,q _ _ B H hk e (Grow.refl _ _) (.bl _)⟩
theorem refIn {ta tb:TE} {ng:Bool} (ha:RefE K ta ua) (hb:RefE K tb ub):RefE K (tOp (rInD K ng) ta tb) (uIn ng ua ub) :=
 ref2 ha hb fun x y k h R W B H σ ρ v w Q e rx ry q=>by
  obtain ⟨sh,es,hy,h1,h2,hd,hk⟩:=h
  refine ⟨B,x,es,sh,rx,?_,e.bh,h1,h2,hd,fun b hb=>q _ _ B H (hk b hb) e (Grow.refl _ _) (.bl _)⟩
  rcases hy with rfl | rfl
  ·exact .inl ry
  ·exact .inr ry
theorem e_eq (hu:X.A.units + 64 < cLine) (ha:PE3 X a ua) (hb:PE3 X b ub) (hm:behindInMarks .Eq b=false):PE3 X (.Compare a [.Eq] [b] pos) (uEq false ua ub):=by
 obtain ⟨_,h1,r1⟩:=ha; obtain ⟨_,h2,r2⟩:=hb
 exact ⟨_,pe_cmpR (op_eqD hu) h1 h2 hm,refEq r1 r2⟩
theorem t_ne (hu:X.A.units + 64 < cLine) (ha:PE3 X a ua) (hb:PE3 X b ub) (hm:behindInMarks .NotEq b=false):PT3 X (.Compare a [.NotEq] [b] pos) (uB (uEq true ua ub)):=by
 obtain ⟨_,h1,r1⟩:=ha; obtain ⟨_,h2,r2⟩:=hb
 exact ⟨_,pt_cmpR (op_neD hu) h1 h2 hm,refB (refEq r1 r2)⟩
theorem t_notIn (hu:X.A.units + 64 < cLine) (ha:PE3 X a ua) (hb:PE3 X b ub) (hm:behindInMarks .NotIn b=false):PT3 X (.Compare a [.NotIn] [b] pos) (uB (uIn true ua ub)):=by
 obtain ⟨_,h1,r1⟩:=ha; obtain ⟨_,h2,r2⟩:=hb
 exact ⟨_,pt_cmpR (op_notInD hu) h1 h2 hm,refB (refIn r1 r2)⟩
end
end L3
namespace L3
open PySem L2
open PySem.Builtin.Int (intBits)
theorem law_def3 {K:PySem.W.Frag} {P:Program} {w:World} {mg:Str→Option Value} {base:Heap} {x qual:Str} {st:Stmt} {f:Addr} {fd:FuncData} {N ps:List Str} {lv n:Nat} {F:FS} (Fd:Fun K x qual st f fd) (S:FnScope N ps (defScope st)) (hn:ps.length=n)
  (hbody:∀ (cdv:Value) (A:Around) (outer:List PySem.Env) (s:Shared) (H:Hp) (E:XK),Room lv (A.deeper (PyProof.Rows.envOfC qual (defScope st) s.heap.objs.size f cdv)) →
   ∃ u,PSs3 (cxOf CX0 P w K mg base N qual (defScope st) f cdv A outer s H E).nox (defBody st) u∧∀ as k,as.length=n→F as k→u { nx:=fun _=>k (.val .non),rt:=k } (as ++ List.replicate (N.length - n) .no)):FnOk P w K mg base CX0 (lv + 1) f fd ps (Con K n F):=by
 refine Fd.ok S (fun vs H Q E h=>?_) (fun cdv A outer s H vs Q E hr h=>?_)
 ·obtain ⟨W,B,as,k,_,hl,_,_,_,ai,_⟩:=h
  rw [ai.length,hl,hn]
 ·obtain ⟨W,B,as,k,hF,hl,hb,sB,hw,ai,q⟩:=h
  obtain ⟨u,⟨t,ht,rt⟩,hu⟩:=hbody cdv A outer s H E hr
  have ev:=Ev.start (N:=N) (Nat.le_of_ble_eq_true hb) sB hw ai
  rw [hl] at ev
  refine ⟨t,ht,rt _ _ (hu as k hl hF) H W B H (L2.start N vs) _ ev ⟨fun ρ σ B' H' h e g=>?_,fun _ _ _ _ h=>h.elim,fun _ _ _ _ h=>h.elim,fun r v B' H' h e g z=>q r v B' H' h ⟨e,g,z⟩⟩⟩
  exact q _ _ B' H' h ⟨e.toWd,g,.non⟩
def spLaw (K:PySem.W.Frag):Sp:=fun vs H Q _=>∃ (a:Addr) (ns:List Int),vs=[.ref a]∧SqL K H a (ns.map V.int)∧ns.length≤63∧∀ H',Q (.bl true) H'
def F_law:FS:=fun as k=>∃ ns:List Int,as=[.val (.scr ns)]∧ns.length≤63∧k (.val (.bl true))
theorem law_con {K:PySem.W.Frag} {vs:List V} {H:Hp} {Q:VK} {E:XK} (h:spLaw K vs H Q E):Con K 1 F_law vs H Q E:=by
 obtain ⟨a,ns,rfl,hS,hl,q⟩:=h
 refine ⟨fun _=>False,H,[.val (.scr ns)],fun r=>r=.val (.bl true),⟨ns,rfl,hl,rfl⟩,rfl,rfl,Same.refl _,fun _ z=>z.elim,.val (.scr hS) .nil,fun r v B' H' hr ex=>?_⟩
 subst hr
 have:=ex.res
 rw [Rep.blV this]
 exact q H'
def spCell (K:PySem.W.Frag):Sp:=fun vs H Q _=>∃ (a:Addr) (k:Int) (ns:List Int),vs=[.ref a,.int k]∧SqL K H a (ns.map V.int)∧0≤k∧∀ z,Q (.int z) H
def F_cell:FS:=fun as k=>∃ (ns:List Int) (i:Int),as=[.val (.scr ns),.val (.int i)]∧0≤i∧∀ z:Int,k (.val (.int z))
theorem Wd.entry {H B:Hp} {W:Addr→Prop} (sB:Same B H) (hw:∀ a,W a→B a=none∧Bag H a):Wd H W B H :=
 ⟨fun _ _ h _=>h,sB,fun a h=>(hw a h).1,fun a h=>(hw a h).2,fun a h=>by obtain ⟨x,y,q,_⟩:=(hw a h).2; rw [q]; simp⟩
theorem cell_con {K:PySem.W.Frag} {vs:List V} {H:Hp} {Q:VK} {E:XK} (h:Con K 2 F_cell vs H Q E):spCell K vs H Q E:=by
 obtain ⟨W,B,as,k,⟨ns,i,rfl,hi,hk⟩,hl,hb,sB,hw,ai,q⟩:=h
 cases ai with
 | val r1 ai=>cases ai with
  | val r2 ai =>
   cases ai
   obtain ⟨a,rfl,ha⟩:=r1.scrV
   cases r2.intV
   exact ⟨a,i,ns,rfl,sB.seq ha,hi,fun z=>q _ _ B H (hk z) ⟨Wd.entry sB hw,Grow.refl _ _,.int z⟩⟩
def spBag:Sp:=fun vs H Q _=>∃ c:Int,vs=[.int c]∧∀ (b:Addr) (x y:Int),H b=none→0≤x→0≤y→y < 2147483647→Q (.ref b) (upd H b (.lst [.int x,.int y]))
def F_bag:FS:=fun as k=>∃ c:Int,as=[.val (.int c)]∧k .bag
theorem bag_con {K:PySem.W.Frag} {vs:List V} {H:Hp} {Q:VK} {E:XK} (h:Con K 1 F_bag vs H Q E):spBag vs H Q E:=by
 obtain ⟨W,B,as,k,⟨c,rfl,hk⟩,hl,hb,sB,hw,ai,q⟩:=h
 cases ai with
 | val r1 ai =>
  cases ai
  cases r1.intV
  refine ⟨c,rfl,fun b x y hn x0 y0 y1=>?_⟩
  have wd:=Wd.entry sB hw
  exact q .bag _ B _ hk ⟨wd.allocH hn _,Grow.refl _ _,b,rfl,hn,(wd.fresh hn).2.2,x,y,upd_same,x0,y0,y1⟩
def spDraw (lim:Nat):Sp:=fun vs H Q _=>∃ (b:Addr) (m:Int),vs=[.ref b,.int m]∧Bag H b∧0 < m∧intBits m≤lim∧∀ (r:Int) (H':Hp),Ext b H H'→Bag H' b→0≤r→r < m→Q (.int r) H'
def F_draw (lim:Nat):FS:=fun as k=>∃ m:Int,as=[.bag,.val (.int m)]∧0 < m∧intBits m≤lim∧∀ r:Int,0≤r→r < m→k (.val (.int r))
theorem draw_con {K:PySem.W.Frag} {lim:Nat} {vs:List V} {H:Hp} {Q:VK} {E:XK} (h:Con K 2 (F_draw lim) vs H Q E):spDraw lim vs H Q E:=by
 obtain ⟨W,B,as,k,⟨m,rfl,m0,mb,hk⟩,hl,hb,sB,hw,ai,q⟩:=h
 cases ai with
 | bag hW ai=>cases ai with
  | val r2 ai =>
   cases ai
   cases r2.intV
   rename_i b
   refine ⟨b,m,rfl,(hw b hW).2,m0,mb,fun r H' ex bg r0 r1=>?_⟩
   have wd:=Wd.entry sB hw
   refine q _ _ B H' (hk r r0 r1) ⟨⟨fun a o h1 h2=>ex a o (by rintro rfl; exact h2 hW) h1,fun a o h1=>ex a o (by rintro rfl; rw [(hw _ hW).1] at h1; cases h1) (sB a o h1),wd.wb,fun a z=>?_,wd.wr⟩,Grow.refl _ _,.int r⟩
   by_cases e:a=b
   ·subst e; exact bg
   ·obtain ⟨x,y,h1,h2⟩:=(hw a z).2
    exact ⟨x,y,ex a _ e h1,h2⟩
theorem iteF3 {c:Bool} {A B:Prop} (h:c=false) (b:B):if c=true then A else B:=by rw [h,if_neg Bool.false_ne_true]; exact b
theorem at3 {u:US} {U:UEnds} {ρ r:List Sl} (e:ρ=r) (h:u U r):u U ρ:=by rw [e]; exact h
theorem pass4 {s t:US} {U:UEnds} {ρ:List Sl} (first:∀ N:List Sl→Prop,N ρ→s { U with nx:=N } ρ) (rest:t U ρ):uSeq s t U ρ:=first (t U) rest
theorem mid4 {s t:US} {U:UEnds} {ρ:List Sl} (I:List Sl→Prop) (rest:∀ ρ',I ρ'→t U ρ') (first:∀ N:List Sl→Prop,(∀ ρ',I ρ'→N ρ')→s { U with nx:=N } ρ):uSeq s t U ρ:=first _ rest
end L3
namespace L3
open PySem L2
section
variable {K:PySem.W.Frag} {X:Cx} {a b e:Expr} {ua ub u:UE} {pos p:Pos}
end
section
variable {X:Cx}
theorem fsub_of {cl cs:List (Str×Addr)} (h:∀ p∈cl,cs.lookup p.1=some p.2):∀ y c,cl.lookup y=some c→cs.lookup y=some c:=fun y c e=>h (y,c) (PySem.mem_of_lookup e)
theorem fhas_b {names:List (Str×NameKind)} {cl:List (Str×Addr)} (h:(names.all fun p => !(p.2 == .cell || p.2 == .free) || (cl.lookup p.1).isSome)=true):∀ y,(names.lookup y=some .cell∨names.lookup y=some .free)→∃ c,cl.lookup y=some c:=fun y e=>by
 have key:∀ k:NameKind,(k == .cell || k == .free)=true→names.lookup y=some k→∃ c,cl.lookup y=some c:=fun k hk e=>by
  have q:=List.all_eq_true.mp h (y,k) (PySem.mem_of_lookup e)
  have q:(!(k == .cell || k == .free) || (cl.lookup y).isSome)=true:=q
  rw [hk] at q
  exact Option.isSome_iff_exists.mp (by simpa using q)
 rcases e with e | e
 ·exact key _ rfl e
 ·exact key _ rfl e
end
end L3
namespace L2
open PySem PySem.Spec PyProof.Rows
def PIfs (X:Cx) (ifs:List Expr) (tt:TT):Prop:=∀ (pins:List (Addr×Obj)) (s:Shared) (σ:St) (H:Hp) (Q:Bool→Hp→Prop),Inv X pins σ H s→tt σ H Q →
 wpAny (model X.prog X.w) X.A (forIn ifs true fun t r=>if r=true then do let z ← isTrue t X.env (eval t X.env); pure (ForInStep.yield z) else pure (ForInStep.yield r)) (TP X pins σ Q) X.xe s
def tTrue:TT:=fun _ H Q=>Q true H
theorem pifs_nil {X:Cx}:PIfs X [] tTrue:=fun _ _ _ H _ I h=>wpAny_tests_nil ⟨H,I,h⟩
theorem pifs_one {X:Cx} {c:Expr} {tt:TT} (h:PT X c tt):PIfs X [c] tt:=fun pins s σ H Q I q=>wpAny_tests_one (h pins s σ H Q I q)
theorem comp_turns {P:Program} {w:World} {A:Around} {R:Result→Shared→Prop} {s:Shared} {elt tg src:Expr} {ifs:List Expr} {sc:Scope} {ps:Pos} {itv acc:Value} {env:PySem.Env} (Iv:Nat→Shared→Prop) (n:Nat) (h0:Iv n s)
  (turn:∀ n s,Iv n s→wpAny (model P w) A (pyNext itv) (fun r s1=>match r with
   | none=>R (.ok .next) s1
   | some v=>wpAny (model P w) A (letOwnedTupleGo tg itv v) (fun _ sg=>wpAny (model P w) A (assign tg env v) (fun _ s2 =>
     wpAny (model P w) A (forIn ifs true fun t r=>if r=true then do let z ← isTrue t env (eval t env); pure (ForInStep.yield z) else pure (ForInStep.yield r)) (fun z s3 =>
      if z=true then wpAny (model P w) A (eval elt env) (fun y s4=>wpAny (model P w) A (call (.builtin "list.append") [acc,y]) (fun _ s5=>∃ m,m < n∧Iv m s5) (notedBy (model P w) A env fun e s'=>R (.error e) s') s4) (notedBy (model P w) A env fun e s'=>R (.error e) s') s3
      else ∃ m,m < n∧Iv m s3) (notedBy (model P w) A env fun e s'=>R (.error e) s') s2) (notedBy (model P w) A env fun e s'=>R (.error e) s') sg) (notedBy (model P w) A env fun e s'=>R (.error e) s') s1) (notedBy (model P w) A env fun e s'=>R (.error e) s') s) :
  codeAny (model P w) A (.compLoop (.ListComp elt [⟨tg,src,ifs,0⟩] sc ps) 0 itv acc env) R s:=by
 refine codeAny_loop rfl Iv (fun k s' hv=>?_) n h0
 show wpAny _ A ((compTurn (.ListComp elt [⟨tg,src,ifs,0⟩] sc ps) 0 itv acc env).onRaise (fun z=>do noteFrame z env; theTreesLotGoes z)) _ _ s'
 rw [compTurn_list]
 refine wpAny_noted (wpAny_bind (wpAny_standAt (wpAny_bind (wpAny_mono (turn k s' hv) (fun r s1 h1=>?_) fun _ _ z=>z))))
 cases r with
 | none=>exact wpAny_pure h1
 | some v =>
  refine wpAny_bind (wpAny_mono h1 (fun _ sg hg=>wpAny_bind (wpAny_mono hg (fun _ s2 h2=>wpAny_bind (wpAny_mono h2 (fun z s3 h3=>?_) fun _ _ q=>q)) fun _ _ q=>q)) fun _ _ q=>q)
  cases z with
  | false=>exact wpAny_pure ⟨rfl,h3⟩
  | true=>exact wpAny_bind (wpAny_bind (wpAny_mono h3 (fun y s4 h4=>wpAny_bind (wpAny_mono h4 (fun _ s5 h5=>wpAny_pure (wpAny_pure ⟨rfl,h5⟩)) fun _ _ q=>q)) fun _ _ q=>q))
def CompG (J:It) (g:TG) (tt:TT) (te:TE) (σ0:St) (D:Addr) (H1:Hp) (Q:VK):Prop:=∃ W:Nat→Nat→St→Hp→Prop,(∃ m,W 0 m σ0 (upd H1 D (.lst [])))∧∀ i m σ H,W i m σ H →
 (J.stop i H∧Q (.ref D) H)∨(J.go i H∧∀ x H',J.yld i H x H'→g x σ H' fun σ2 H2=>tt σ2 H2 fun b H3=>if b=true then te σ2 H3 fun y H4=>∃ ys,H4 D=some (.lst ys)∧ys.length < sizeLine∧∃ m',m' < m∧W (i + 1) m' σ2 (upd H4 D (.lst (ys ++ [y]))) else ∃ m',m' < m∧W (i + 1) m' σ2 H3)
def tCompG (wi:TI) (g:TG) (tt:TT) (te:TE) (nt:Nat) (js:List Nat):TE:=fun σ H Q=>wi σ H fun J H1=>∀ D,H1 D=none→CompG J g tt te (List.replicate nt none ++ freeV σ js) D H1 Q
section
variable {X:Cx}
structure FreeOk (X:Cx) (scope:Scope) (cl:List (Str×Addr)) (fr:List Str) (js:List Nat):Prop where
 clos:closureFor scope X.env=pure cl
 cell:∀ y∈scope.names,y.2≠.cell
 kind:scope.kind=.function
 names:∀ y∈scope.names,y.2=.local→scope.names.lookup y.1=some .local
 sub:∀ y c,cl.lookup y=some c→X.env.cells.lookup y=some c
 has:∀ y,((relabel scope X.env).names.lookup y=some .cell∨(relabel scope X.env).names.lookup y=some .free)→∃ c,cl.lookup y=some c
 frn:∀ (i:Nat) (y:Str),fr[i]?=some y→∃ j:Nat,js[i]?=some j∧X.N[j]?=some y∧X.env.kindOf y=some .cell∧((relabel scope X.env).names.lookup y=some .cell∨(relabel scope X.env).names.lookup y=some .free)∧∃ c,cl.lookup y=some c
 len:js.length=fr.length
theorem comp_block {elt iter tg:Expr} {ifs:List Expr} {pos:Pos} {scope:Scope} {cl:List (Str×Addr)} {ts fr:List Str} {js:List Nat} {wi:TI} {g:TG} {tt:TT} {te:TE} {use:Option (Value→Sem Unit)} {RQ:Value→Shared→Prop} {QE:VK}
  (hi:PI X tg iter wi) (hg:∀ C s H ex,PG (compCx X (ts ++ fr) scope cl C s H ex) tg g) (hts:∀ C s H ex,PIfs (compCx X (ts ++ fr) scope cl C s H ex) ifs tt) (helt:∀ C s H ex,PE (compCx X (ts ++ fr) scope cl C s H ex) elt te)
  (F:FreeOk X scope cl fr js) (hc:X.calm=true) (hs:∀ v,foldedSetIterable iter X.env v=pure v)
  {pins:List (Addr×Obj)} {s:Shared} {σ:St} {H:Hp} (I:Inv X pins σ H s) (h:tCompG wi g tt te ts.length js σ H QE) (newAcc:Sem Value) (hnew:newAcc=newList []) (pp:Pos)
  (hR:∀ (D C:Addr) (H5:Hp) (s6:Shared) (m:Str→Option Value),s6.heap.Ns C m→H5 C=none→C≠X.env.locals→X.s₀.heap.objs.size≤C→(∀ x c,X.env.cells.lookup x=some c→c≠C)→(∀ p∈X.pn ++ pins,p.1≠C)→C ∉ X.fs →
   (∀ h':Heap,(∀ b u,b≠C→s6.heap.get? b=some u→h'.get? b=some u)→Inv X pins σ H5 { s6 with heap:=h' })→QE (.ref D) H5→compPost (model X.prog X.w) X.A X.xe use RQ (.ref D) C (.ok .next) s6) :
  wpAny (model X.prog X.w) X.A (comprehension (.ListComp elt [⟨tg,iter,ifs,0⟩] scope pos) scope X.env pp newAcc false (eval iter X.env) use) RQ X.xe s:=by
 refine wpAny_comprehension_free (use:=use) rfl hs F.clos F.kind F.names (thn (hi pins s σ H _ I h) fun xv s1 h1=>thn h1 fun itv s2 h2=>?_)
 obtain ⟨it,fp,tn,J,H2,rfl,I2,T,st2,f2,h2⟩:=h2
 have hD:H2 s2.heap.objs.size=none:=I2.fresh
 obtain ⟨W,⟨m0,w0⟩,turn⟩:=h2 _ hD
 rw [hnew]
 refine wpAny_newObj_type ?_
 have I3:Inv X pins σ (upd H2 s2.heap.objs.size (.lst [])) { s2 with heap:=s2.heap.push { cls:=.type "list", data:=.seq ([]:List Value).toArray } }:=I2.lnew (t':=s2.toks) (its:=[]) .nil (by show 0≤sizeLine; decide)
 generalize hs3:({ s2 with heap:=s2.heap.push { cls:=.type "list", data:=.seq ([]:List Value).toArray } }:Shared)=s3 at I3
 have e3:s3.heap=s2.heap.push { cls:=.type "list", data:=.seq ([]:List Value).toArray }:=by rw [← hs3]
 generalize hH3:upd H2 s2.heap.objs.size (.lst [])=H3 at I3 w0
 generalize hDD:s2.heap.objs.size=D at hD hH3 w0 turn
 have k3:∀ b o,s2.heap.get? b=some o→s3.heap.get? b=some o:=fun b o e=>by rw [e3]; exact Heap.get?_push_of_some _ e
 have f3:∀ b∈fp,FpOk X pins H3 b:=fun b hb=>by
  obtain ⟨o,ho,_⟩:=T.obj _ _ st2 b hb
  have lt:=Heap.lt_size ho
  refine ⟨?_,(f2 b hb).2⟩
  rw [← hH3,upd_ne (by rw [← hDD]; exact Nat.ne_of_lt lt)]
  exact (f2 b hb).1
 refine wpAny_newFunctionEnv F.cell (by intro y hy; simp at hy) (fun h1 hns hsb=>?_) F.kind
 have hC3:s3.heap.get? s3.heap.objs.size=none:=Heap.get?_none_of_le (Nat.le_refl _)
 have k4:∀ b o,s3.heap.get? b=some o→h1.get? b=some o:=fun b o e=>hsb.extBut b o (Nat.ne_of_lt (Heap.lt_size e)) (Heap.get?_push_of_some _ e)
 show codeAny (model X.prog X.w) X.A (.compStart (.ListComp elt [⟨tg,iter,ifs,0⟩] scope pos) 0 (.ref it) (.ref D) (compEnvC scope cl s3.heap.objs.size X.env)) (compPost (model X.prog X.w) X.A X.xe use RQ (.ref D) s3.heap.objs.size) _
 have ok:(compCx X (ts ++ fr) scope cl s3.heap.objs.size s3 H3 fp).Ok:=by
  refine ⟨I3.ok.mod,F.kind,I3.ok.glob,I3.ok.blt,Nat.le_refl _,fun y z c e1 e2=>I3.ok.inj y z c (F.sub _ _ e1) (F.sub _ _ e2),fun y hy=>F.has y hy,fun y c z=>absurd z Bool.false_ne_true,I3.ok.hd,I3.ok.frames,.inl rfl,fun b hb=>?_,I3.bs,Nat.le_trans I3.ok.bsz I3.sz,
   fun b o e hb=>?_,fun b hb hf=>?_,I3.stack,I3.stkFree⟩
  ·obtain ⟨o,ho,_⟩:=T.obj _ _ st2 b hb
   exact ⟨Nat.ne_of_lt (Heap.lt_size (k3 b o ho)),fun y c e=>(f3 b hb).2.2.2.2.1 y c (F.sub _ _ e)⟩
  ·obtain ⟨_,_,_,z,_⟩:=f3 b hb
   rcases z with z | z
   ·exact I3.ok.noex b o e z
   ·exact absurd (Nat.lt_of_lt_of_le (Heap.lt_size (I3.ok.bs b o e).1) z) (Nat.lt_irrefl _)
  ·rcases List.mem_cons.mp (I3.stkSub b hf) with z | z
   ·exact (f3 b hb).2.1 z
   ·exact (f3 b hb).2.2.1 z
 have frV:∀ (hh:Heap),(∀ b u,s3.heap.get? b=some u→hh.get? b=some u)→∀ (i:Nat) (y:Str) (v:V),fr[i]?=some y→(freeV σ js)[i]?=some (some v)→∃ u,RelV v u∧∀ m,Look (compEnvC scope cl s3.heap.objs.size X.env) hh m y u:=fun hh kk i y v e1 e2=>by
  obtain ⟨j,ej,eN,hk,hkin,c,hcl⟩:=F.frn i y e1
  have e2':σ[j]?=some (some v):=by
   unfold freeV at e2
   rw [List.getElem?_map,ej,Option.map_some] at e2
   have e2:=Option.some.inj e2
   cases q:σ[j]? with
   | none=>rw [q] at e2; simp at e2
   | some z=>rw [q] at e2; simpa using e2
  obtain ⟨m,hn,hl⟩:=I3.loc
  obtain ⟨u,r,l⟩:=hl j y v eN e2' (.inr (.inl hk))
  refine ⟨u,r,fun m'=>.inr ⟨hkin,c,hcl,?_⟩⟩
  rcases l with ⟨z,_⟩ | ⟨_,c',hc',hce⟩
  ·rw [hk] at z; cases z
  ·have e:=F.sub _ _ hcl
   rw [hc'] at e; cases e
   obtain ⟨oo,q1,q2⟩:=hce
   exact ⟨oo,kk _ _ q1,q2⟩
 have I4:Inv (compCx X (ts ++ fr) scope cl s3.heap.objs.size s3 H3 fp) [] (List.replicate ts.length none ++ freeV σ js) H3 { s3 with heap:=h1,toks:=s3.toks + ([]:List (Str×Value)).length }:=by
  refine ⟨ok,rfl,I3.bare,Un.kept k4,⟨_,hns,fun i y v e1 e2 e3=>?_⟩,fun y c e=>?_,I3.fresh,fun y c e=>I3.freeC y c (F.sub _ _ e),fun p hp=>absurd (show p∈([]:List (Addr×Obj)) from hp) (by simp),I3.hok.kept k4,?_⟩
  ·by_cases hlt:i < ts.length
   ·rw [List.getElem?_append_left (by simpa using hlt),List.getElem?_replicate,if_pos hlt] at e2
    cases e2
   ·have e1:(ts ++ fr)[i]?=some y:=e1
    rw [List.getElem?_append_right (by omega)] at e1
    rw [List.getElem?_append_right (by simp; omega),List.length_replicate] at e2
    obtain ⟨u,r,l⟩:=frV h1 k4 _ y v e1 e2
    exact ⟨u,r,l _⟩
  ·obtain ⟨v,oo,q1,q2⟩:=I3.cell y c (F.sub _ _ e)
   exact ⟨v,oo,k4 _ _ q1,q2⟩
  ·show _=(ts ++ fr).length
   rw [List.length_append,List.length_append,List.length_replicate]
   unfold freeV
   rw [List.length_map,F.len]
 have stat:∀ {H':Hp},(∀ b∈fp,H' b=none)→∀ b∈fp,FpOk (compCx X (ts ++ fr) scope cl s3.heap.objs.size s3 H3 fp) [] H' b:=fun hn b hb=>by
  obtain ⟨o,ho,_⟩:=T.obj _ _ st2 b hb
  exact ⟨hn b hb,(ok.exf b hb).1,ok.exfs b hb,.inl hb,(ok.exf b hb).2,fun p hp=>absurd (show p∈([]:List (Addr×Obj)) from hp) (by simp)⟩
 have loop:∀ s4:Shared,s4={ s3 with heap:=h1,toks:=s3.toks + ([]:List (Str×Value)).length } →
   codeAny (model X.prog X.w) X.A (.compLoop (.ListComp elt [⟨tg,iter,ifs,0⟩] scope pos) 0 (.ref it) (.ref D) (compEnvC scope cl s3.heap.objs.size X.env)) (compPost (model X.prog X.w) X.A X.xe use RQ (.ref D) s3.heap.objs.size) s4:=by
  intro s4 e4
  rw [← e4] at I4
  have st4:tn 0 s4.heap:=T.keep _ _ _ st2 fun b _ o e=>by rw [e4]; exact k4 b o (k3 b o e)
  refine comp_turns (fun n s'=>∃ i σ' H',Inv (compCx X (ts ++ fr) scope cl s3.heap.objs.size s3 H3 fp) [] σ' H' s'∧tn i s'.heap∧(∀ b∈fp,H' b=none)∧W i n σ' H') m0 ⟨0,_,H3,I4,st4,fun b hb=>(f3 b hb).1,w0⟩ ?_
  rintro n s5 ⟨i,σ5,H5,I5,st5,fr5,w5⟩
  rcases turn i n σ5 H5 w5 with ⟨stop,q⟩ | ⟨go,step⟩
  ·refine thn (T.done (compCx X (ts ++ fr) scope cl s3.heap.objs.size s3 H3 fp) rfl rfl rfl hc i [] s5 σ5 H5 _ I5 (stat fr5) st5 stop) fun r s6 ⟨hr,I6⟩=>?_
   subst hr
   obtain ⟨m,hn,_⟩:=id I6.loc
   refine hR D s3.heap.objs.size H5 s6 m hn I6.free (Nat.ne_of_gt I3.lt) I3.sz (fun y c e z=>?_) (fun p hp z=>?_) (I3.nofs (Nat.le_refl _)) (fun h' kb=>?_) q
   ·obtain ⟨v,oo,q1,q2⟩:=I3.cell y c e
    exact absurd (Heap.lt_size q1) (by rw [z]; exact Nat.lt_irrefl _)
   ·exact absurd (Heap.lt_size (I3.pin p hp).1) (by rw [z]; exact Nat.lt_irrefl _)
   ·refine I3.call' (s':={ s6 with heap:=h' }) (ch:=fp) I6.os ((show Un (frs X.stack) fp H3 H5 s3.heap s6.heap from I6.base).but hC3 kb) (I6.hok.but I6.free kb) I6.bare (fun b hb=>?_)
    obtain ⟨_,z1,_,z3,z4,z5⟩:=f3 b hb
    exact ⟨z3,z1,z4,z5⟩
  ·refine thn (T.item (compCx X (ts ++ fr) scope cl s3.heap.objs.size s3 H3 fp) rfl rfl rfl hc i [] s5 σ5 H5 _ I5 (stat fr5) st5 go) fun r s6 ⟨u,hr,h6⟩=>?_
   subst hr
   refine thn h6 fun _ s7 ⟨v,H7,I7,r7,y7,st7,fr7⟩=>?_
   have I7':=I7.pinned (stat fr7) (T.obj _ _ st7)
   have back:∀ {s9:Shared} {σ9:St} {H9:Hp} {n':Nat},Inv (compCx X (ts ++ fr) scope cl s3.heap.objs.size s3 H3 fp) ([] ++ pinsAt fp s7.heap) σ9 H9 s9→W (i + 1) n' σ9 H9→∃ i σ' H',Inv (compCx X (ts ++ fr) scope cl s3.heap.objs.size s3 H3 fp) [] σ' H' s9∧tn i s9.heap∧(∀ b∈fp,H' b=none)∧W i n' σ' H':=fun {s9 σ9 H9 n'} I9 w9=>by
    refine ⟨i + 1,σ9,H9,I9.unpinned (pins:=[]),T.keep _ _ _ st7 fun b hb oo ee=>(I9.pin (b,oo) (List.mem_append_right _ (List.mem_append_right _ (mem_pinsAt hb ee)))).1,fun b hb=>?_,w9⟩
    obtain ⟨oo,ee,_⟩:=T.obj _ _ st7 b hb
    exact (I9.pin (b,oo) (List.mem_append_right _ (List.mem_append_right _ (mem_pinsAt hb ee)))).2.1
   refine wpAny_mono (hg s3.heap.objs.size s3 H3 fp _ s7 σ5 H7 v u _ I7' r7 (step v H7 y7)) (fun _ s8 ⟨σ8,H8,I8,q8⟩=>?_) (fun _ _ z=>z.elim)
   refine wpAny_mono (hts s3.heap.objs.size s3 H3 fp _ s8 σ8 H8 _ I8 q8) (fun b s9 ⟨H9,I9,q9⟩=>?_) (fun _ _ z=>z.elim)
   cases b with
   | false =>
    rw [if_neg Bool.false_ne_true] at q9 ⊢
    obtain ⟨m',lm,w9⟩:=q9
    exact ⟨m',lm,back I9 w9⟩
   | true =>
    rw [if_pos rfl] at q9 ⊢
    refine wpAny_mono (helt s3.heap.objs.size s3 H3 fp _ s9 _ H9 _ I9 q9) (fun yv s10 ⟨y,H10,I10,r10,ys,e10,l10,m',lm,w10⟩=>?_) (fun _ _ z=>z.elim)
    have mt:=mt_append (X:=compCx X (ts ++ fr) scope cl s3.heap.objs.size s3 H3 fp) _ s10 _ H10 (.ref D) [y] (.ref D) [yv] (fun _ H'=>H'=upd H10 D (.lst (ys ++ [y]))) I10 rfl (.cons r10 .nil) ⟨D,ys,y,rfl,rfl,e10,l10,rfl⟩
    refine wpAny_mono mt (fun _ s11 ⟨_,H11,I11,_,e11⟩=>?_) (fun _ _ z=>z.elim)
    subst e11
    exact ⟨m',lm,back I11 w10⟩
 exact codeAny_compStart_list (loop _ rfl) (T.self _ 0 _ _ _ (T.keep _ _ _ st2 fun b _ o e=>k4 b o (k3 b o e)) (loop _ rfl))
theorem pe_compG {elt iter tg:Expr} {ifs:List Expr} {pos:Pos} {scope:Scope} {cl:List (Str×Addr)} {ts fr:List Str} {js:List Nat} {wi:TI} {g:TG} {tt:TT} {te:TE}
  (hi:PI X tg iter wi) (hg:∀ C s H ex,PG (compCx X (ts ++ fr) scope cl C s H ex) tg g) (hts:∀ C s H ex,PIfs (compCx X (ts ++ fr) scope cl C s H ex) ifs tt) (helt:∀ C s H ex,PE (compCx X (ts ++ fr) scope cl C s H ex) elt te)
  (F:FreeOk X scope cl fr js) (hc:X.calm=true) (hs:∀ v,foldedSetIterable iter X.env v=pure v):PE X (.ListComp elt [⟨tg,iter,ifs,0⟩] scope pos) (tCompG wi g tt te ts.length js):=by
 intro pins s σ H Q I h
 rw [eval_ListComp]
 refine comp_block hi hg hts helt F hc hs I h _ rfl _ fun D C H5 s6 m hn _ _ _ _ _ _ iv q=>⟨m,hn,fun h' hs'=>⟨.ref D,H5,iv h' fun b u hb e=>hs'.extBut b u hb e,rfl,q⟩⟩
theorem ps_compA {elt iter tg:Expr} {ifs:List Expr} {pos:Pos} {scope:Scope} {cl:List (Str×Addr)} {ts fr:List Str} {js:List Nat} {wi:TI} {g:TG} {tt:TT} {te:TE} {i:Nat} {y:Str} {py spos:Pos}
  (hN:X.N.Nodup) (hiN:X.N[i]?=some y) (hy:X.env.scope.names.lookup y=some .local)
  (hi:PI X tg iter wi) (hg:∀ C s H ex,PG (compCx X (ts ++ fr) scope cl C s H ex) tg g) (hts:∀ C s H ex,PIfs (compCx X (ts ++ fr) scope cl C s H ex) ifs tt) (helt:∀ C s H ex,PE (compCx X (ts ++ fr) scope cl C s H ex) elt te)
  (F:FreeOk X scope cl fr js) (hc:X.calm=true) (hs:∀ v,foldedSetIterable iter X.env v=pure v) (hsw:swapsWith (.ListComp elt [⟨tg,iter,ifs,0⟩] scope pos) (some (.Name y py)) spos.line X.env=pure true) :
  PS X (.Assign [.Name y py] (.ListComp elt [⟨tg,iter,ifs,0⟩] scope pos) spos) (tAsg (tCompG wi g tt te ts.length js) (gName i)):=by
 intro pins s σ H D I h
 rw [exec_Assign_Name_used _ _ _ _ hsw]
 refine wpAny_bind (wpAny_standAt (wpAny_bind ?_))
 show wpAny _ X.A (do let _ ← comprehension (.ListComp elt [⟨tg,iter,ifs,0⟩] scope pos) scope X.env _ (newList []) false (eval iter X.env) (some (assign (.Name y py) X.env))) _ _ s
 refine wpAny_bind (thn (comp_block (RQ:=fun _ s'=>∃ σ' H',Inv X pins σ' H' s'∧D.nx σ' H') (QE:=fun v H1=>gName i v σ H1 D.nx) hi hg hts helt F hc hs I h _ rfl _ ?_) fun _ s' q=>wpAny_pure (wpAny_pure q))
 intro L C H5 s6 m hn hf hL hsz hcl hpn hfs iv q
 obtain ⟨o,es,ep,ho,hd,r⟩:=id hn
 have I6:Inv X pins σ H5 s6:=iv s6.heap fun b u _ e=>e
 have I6p:Inv X (pins ++ [(C,o)]) σ H5 s6:=I6.pins_of fun p hp=>by
  rcases List.mem_append.mp hp with z | z
  ·exact I6.pin p (List.mem_append_right _ z)
  ·have z:p=(C,o):=by simpa using z
   subst z
   exact ⟨ho,hf,hL,hfs,fun v z=>by rw [hd] at z; cases z⟩
 show wpAny _ X.A (assign (.Name y py) X.env (.ref L)) _ _ _
 refine wpAny_assign_Name (store_ok I6p hN hiN (.inl hy) (v:=.ref L) rfl (fun s7 I7=>?_) (.inr hy))
 have h7:s7.heap.get? C=some o:=(I7.pin (C,o) (List.mem_append_right _ (List.mem_append_right _ (List.mem_singleton.mpr rfl)))).1
 refine ⟨m,⟨o,es,ep,h7,hd,r⟩,fun h' hs'=>⟨_,H5,?_,q⟩⟩
 exact I7.unpinned.turned (t':=s7.toks) (fun b u hb e=>hs'.extBut b u hb e) hf hL (.inr hsz) hcl hpn
end
end L2
namespace L3
open PySem L2
def compG (g:UG) (ut:UT) (u:UE):List D→List Sl→(List D→Prop)→Prop
 | [],_,k=>k []
 | d :: ds,ρ,k=>g d ρ fun ρ1=>ut ρ1 fun b=>if b=true then u ρ1 fun y=>compG g ut u ds ρ1 fun ys=>k (y :: ys) else compG g ut u ds ρ1 k
def utTrue:UT:=fun _ k=>k true
def uCompG (w:UL) (g:UG) (ut:UT) (u:UE) (nt:Nat) (js:List Nat):UL:=fun ρ k=>w ρ fun ds=>ds.length≤sizeLine∧compG g ut u ds (List.replicate nt .no ++ js.map (frS ρ)) k
section
variable {K:PySem.W.Frag} {X:Cx} {e:Expr} {es:List Expr} {u:UE} {w:UL} {pos p:Pos}
theorem frS_cases {ρ:List Sl} (j:Nat):frS ρ j=.no∨(∃ d,frS ρ j=.val d∧ρ[j]?=some (.val d))∨(frS ρ j=.bag∧ρ[j]?=some .bag):=by
 unfold frS
 split
 ·rename_i d hj; exact .inr (.inl ⟨d,rfl,hj⟩)
 ·rename_i hj; exact .inr (.inr ⟨rfl,hj⟩)
 ·exact .inl rfl
theorem Ev.within {R:Hp} {W:Addr→Prop} {B H:Hp} {σ:St} {ρ:List Sl} (e:Ev K R W B H σ ρ) (nt:Nat) {js:List Nat} (hnd:js.Nodup) :
  Ev K H (fun a=>∃ j,j∈js∧σ[j]?=some (some (.ref a))∧ρ[j]?=some .bag) B H (List.replicate nt none ++ freeV σ js) (List.replicate nt .no ++ js.map (frS ρ)):=by
 have bg:∀ (a:Addr) (j:Nat),σ[j]?=some (some (V.ref a))→ρ[j]?=some Sl.bag→B a=none∧Bag H a:=fun a j z1 z2=>by
  obtain ⟨c,c1,_,c3,c4⟩:=e.bagAt z2
  rw [z1] at c1; cases c1; exact ⟨c3,c4⟩
 refine ⟨⟨fun _ _ z _=>z,e.bh,fun a ⟨j,_,z1,z2⟩=>(bg a j z1 z2).1,fun a ⟨j,_,z1,z2⟩=>(bg a j z1 z2).2,fun a ⟨j,_,z1,z2⟩=>?_⟩,?_,fun n kk hk=>?_,fun n m a m1 m2=>?_⟩
 ·obtain ⟨x,y,q,_⟩:=(bg a j z1 z2).2
  rw [q]; simp
 ·unfold freeV; simp
 ·by_cases hlt:n < nt
  ·rw [List.getElem?_append_left (by simpa using hlt),List.getElem?_replicate,if_pos hlt] at hk
   cases hk; trivial
  ·rw [List.getElem?_append_right (by simp; omega),List.length_replicate,List.getElem?_map] at hk
   cases qj:js[n - nt]? with
   | none=>rw [qj] at hk; cases hk
   | some j =>
    rw [qj] at hk
    have hk:=Option.some.inj hk
    have eo:((List.replicate nt none ++ freeV σ js)[n]?).join=(σ[j]?).join:=by
     rw [List.getElem?_append_right (by simp; omega),List.length_replicate]
     unfold freeV
     rw [List.getElem?_map,qj]
     rfl
    rw [eo,← hk]
    rcases frS_cases (ρ:=ρ) j with z | ⟨dd,z,hj⟩ | ⟨z,hj⟩ <;> rw [z]
    ·trivial
    ·obtain ⟨v,v1,v2⟩:=e.ok j _ hj
     exact ⟨v,v1,v2⟩
    ·obtain ⟨c,c1,_,c3,c4⟩:=e.ok j _ hj
     exact ⟨c,c1,.inl ⟨j,List.mem_of_getElem? qj,join_some c1,hj⟩,c3,c4⟩
 ·have back:∀ n,MutAt (List.replicate nt none ++ freeV σ js) (List.replicate nt .no ++ js.map (frS ρ)) n a→∃ j,nt≤n∧js[n - nt]?=some j∧MutAt σ ρ j a:=fun n mm=>by
   rcases mm with ⟨m1,m2⟩ | ⟨c,m1,_⟩
   rotate_left
   ·by_cases hlt:n < nt
    ·rw [List.getElem?_append_left (by simpa using hlt),List.getElem?_replicate,if_pos hlt] at m1
     cases m1
    ·rw [List.getElem?_append_right (by simp; omega),List.length_replicate,List.getElem?_map] at m1
     cases qj:js[n - nt]? with
     | none=>rw [qj] at m1; cases m1
     | some j =>
      rw [qj,Option.map_some] at m1
      rcases frS_cases (ρ:=ρ) j with z | ⟨dd,z,hj⟩ | ⟨z,hj⟩ <;> rw [z] at m1 <;> cases m1
   by_cases hlt:n < nt
   ·rw [List.getElem?_append_left (by simpa using hlt),List.getElem?_replicate,if_pos hlt] at m1
    cases m1
   ·rw [List.getElem?_append_right (by simp; omega),List.length_replicate] at m1
    obtain ⟨j,qj,oj⟩:=freeV_get m1
    rw [List.getElem?_append_right (by simp; omega),List.length_replicate,List.getElem?_map,qj] at m2
    refine ⟨j,by omega,qj,.inl ⟨join_some oj.symm,.inl ?_⟩⟩
    rcases frS_cases (ρ:=ρ) j with z | ⟨dd,z,hj⟩ | ⟨z,hj⟩
    ·rw [Option.map_some,z] at m2; rcases m2 with q | ⟨_,q⟩ <;> cases q
    ·rw [Option.map_some,z] at m2; rcases m2 with q | ⟨_,q⟩ <;> cases q
    ·exact hj
  obtain ⟨j,l1,qj,mj⟩:=back n m1
  obtain ⟨j',l2,qj',mj'⟩:=back m m2
  have:=e.sep j j' a mj mj'
  subst this
  have l3:n - nt < js.length:=by
   by_cases z:n - nt < js.length
   ·exact z
   ·rw [List.getElem?_eq_none (by omega)] at qj; cases qj
  have:=(List.getElem?_inj l3 hnd).mp (qj.trans qj'.symm)
  omega
theorem mixB_at {R:Hp} {W:Addr→Prop} {B:Hp} {a:Addr} {vs:List V} (h:R a=some (.lst vs)) (nw:¬ W a):mixB R W B a=some (.lst vs):=by
 unfold mixB; rw [h]; dsimp only; rw [if_neg nw]
theorem mixB_W {R:Hp} {W:Addr→Prop} {B:Hp} {a:Addr} (h:W a):mixB R W B a=B a:=by
 unfold mixB
 split
 ·rw [if_pos h]
 ·rfl
theorem mixB_no {R:Hp} {W:Addr→Prop} {B:Hp} {a:Addr} (h:∀ vs,R a≠some (.lst vs)):mixB R W B a=B a:=by
 unfold mixB
 split
 ·rename_i vs e; exact absurd e (h vs)
 ·rfl
theorem mixB_out {R:Hp} {W:Addr→Prop} {B:Hp} {a:Addr} {o:HO} (h:mixB R W B a=some o):B a=some o∨(¬ W a∧R a=some o∧∃ vs,o=.lst vs):=by
 unfold mixB at h
 split at h
 ·rename_i vs e
  split at h
  ·exact .inl h
  ·rename_i z; cases h; exact .inr ⟨z,e,vs,rfl⟩
 ·exact .inl h
theorem mixB_in {R:Hp} {W:Addr→Prop} {B H:Hp} (w:Wd R W B H):Same B (mixB R W B):=fun a o h=>by
 by_cases z:W a
 ·rw [mixB_W z]; exact h
 ·by_cases q:∃ vs,R a=some (.lst vs)
  ·obtain ⟨vs,q⟩:=q
   have h1:=w.fr a _ q z
   rw [w.bh a o h] at h1
   cases h1
   exact mixB_at q z
  ·rw [mixB_no fun vs e=>q ⟨vs,e⟩]; exact h
theorem mixB_now {R:Hp} {W:Addr→Prop} {B H:Hp} (w:Wd R W B H):Same (mixB R W B) H:=fun a o h=>by
 rcases mixB_out h with h | ⟨h1,h2,_⟩
 ·exact w.bh a o h
 ·exact w.fr a o h2 h1
theorem mixB_re {R:Hp} {W W':Addr→Prop} {B B' H:Hp} (w:Wd R W B H) (s:Same B B') (sB:Same B' H) (hw:∀ a,W' a→R a≠none→W a) (hb:∀ a,W' a→B' a=none):Same (mixB R W B) (mixB H W' B'):=fun a o h=>by
 have hH:=mixB_now w a o h
 rcases mixB_out h with h | ⟨h1,h2,vs,rfl⟩
 ·have h':=s a o h
  by_cases z:W' a
  ·rw [hb a z] at h'; cases h'
  ·by_cases q:∃ vs,H a=some (.lst vs)
   ·obtain ⟨vs,q⟩:=q
    rw [hH] at q; cases q
    exact mixB_at hH z
   ·rw [mixB_no fun vs e=>q ⟨vs,e⟩]; exact h'
 ·exact mixB_at hH fun z=>h1 (hw a z (by rw [h2]; simp))
theorem Ev.rebase {R:Hp} {W:Addr→Prop} {B H:Hp} {σ:St} {ρ:List Sl} (e:Ev K R W B H σ ρ) (hm:∀ j a,MutAt σ ρ j a→W a):Ev K H W B H σ ρ:=by
 refine ⟨⟨fun _ _ z _=>z,e.bh,e.wb,e.wh,fun a z=>by obtain ⟨x',y',q',_⟩:=e.wh a z; rw [q']; simp⟩,e.len,fun j kk hj=>?_,e.sep⟩
 have:=e.ok j kk hj
 cases kk with
 | no=>trivial
 | new d =>
  obtain ⟨v,h1,h2⟩:=this
  exact ⟨v,h1,h2.mono (mixB_re e.toWd (Same.refl _) e.bh (fun _ z _=>z) e.wb)⟩
 | pin v d=>exact ⟨this.1,this.2.mono (mixB_re e.toWd (Same.refl _) e.bh (fun _ z _=>z) e.wb)⟩
 | val d=>exact this
 | own ds =>
  obtain ⟨a,q1,q2,_⟩:=this
  exact absurd q2 (e.wr a (hm j a (.inl ⟨join_some q1,.inr ⟨ds,hj⟩⟩)))
 | deep c=>exact absurd (this.2.fr _ List.mem_cons_self).1 (e.wr _ (hm j _ (.inr ⟨c,hj,List.mem_cons_self⟩)))
 | bag =>
  obtain ⟨c,c1,c2,c3,c4⟩:=this
  exact ⟨c,c1,.inl (hm j c (.inl ⟨join_some c1,.inl hj⟩)),c3,c4⟩
theorem Ev.unbase {R:Hp} {W:Addr→Prop} {B H B' H':Hp} {σ:St} {ρ:List Sl} (e:Ev K R W B H σ ρ) (hm:∀ j a,MutAt σ ρ j a→W a) (e':Ev K H W B' H' σ ρ) (g:Grow H B B'):Ev K R W B' H' σ ρ∧Grow R B B':=by
 refine ⟨⟨⟨fun a o z nw=>e'.fr a o (e.fr a o z nw) nw,e'.bh,e'.wb,e'.wh,e.wr⟩,e'.len,fun j kk hj=>?_,e'.sep⟩,⟨g.s,fun a o z=>?_⟩⟩
 ·have:=e'.ok j kk hj
  cases kk with
  | no=>trivial
  | new d =>
   obtain ⟨v,h1,h2⟩:=e.ok j _ hj
   exact ⟨v,h1,h2.mono (mixB_mono g.s)⟩
  | pin v d =>
   obtain ⟨h1,h2⟩:=e.ok j _ hj
   exact ⟨h1,h2.mono (mixB_mono g.s)⟩
  | val d=>exact this
  | own ds =>
   obtain ⟨a,q1,q2,_⟩:=e.ok j _ hj
   exact absurd q2 (e.wr a (hm j a (.inl ⟨join_some q1,.inr ⟨ds,hj⟩⟩)))
  | deep c=>exact absurd ((e.deepAt hj).2.fr _ List.mem_cons_self).1 (e.wr _ (hm j _ (.inr ⟨c,hj,List.mem_cons_self⟩)))
  | bag =>
   obtain ⟨c,c1,c2,c3,c4⟩:=this
   exact ⟨c,c1,.inl (hm j c (.inl ⟨join_some c1,.inl hj⟩)),c3,c4⟩
 ·rcases g.n a o z with q | q
  ·exact .inl q
  ·exact .inr (e.toWd.fresh q).1
theorem refCompG {wi:TI} {g:TG} {tt:TT} {te:TE} {ug:UG} {ut:UT} {nt:Nat} {js:List Nat} (h0:RefI K wi w) (hg:RefG K g ug) (ht:RefT K tt ut) (h1:RefE K te u) (hnd:js.Nodup):RefO K (tCompG wi g tt te nt js) (uCompG w ug ut u nt js):=by
 intro ρ k h R W B H σ Q e q
 refine h0 ρ _ h R W B H σ _ e fun ds J B1 H1 z1 e1 g1 it=>?_
 obtain ⟨hl,z1⟩:=z1
 intro D hD
 obtain ⟨f1,f2,f3⟩:=e1.toWd.fresh hD
 have nm1:∀ i,¬ MutAt σ ρ i D:=fun i m=>e1.notNew hD m rfl
 have ei:=e1.within nt hnd
 have hmi:∀ j a,MutAt (List.replicate nt none ++ freeV σ js) (List.replicate nt .no ++ js.map (frS ρ)) j a→∃ j,j∈js∧σ[j]?=some (some (V.ref a))∧ρ[j]?=some Sl.bag:=fun j a m=>by
  have q2:=(ei.mutOk m).2
  rcases m with ⟨m1,z | ⟨es,z⟩⟩ | ⟨c,z,mc⟩
  ·obtain ⟨c,c1,c2,_⟩:=ei.bagAt z
   rw [m1] at c1; cases c1
   rcases c2 with c2 | c2
   ·exact c2
   ·exact absurd c2 q2
  ·obtain ⟨c,c1,c2,_⟩:=ei.ownC z
   rw [m1] at c1; cases c1
   exact absurd c2 q2
  ·exact absurd ((ei.deepAt z).2.fr a mc).1 q2
 generalize hWW:(fun a=>∃ j,j∈js∧σ[j]?=some (some (V.ref a))∧ρ[j]?=some Sl.bag)=WW at ei
 have hmi:∀ j a,MutAt (List.replicate nt none ++ freeV σ js) (List.replicate nt .no ++ js.map (frS ρ)) j a→WW a:=fun j a m=>by rw [← hWW]; exact hmi j a m
 have hW:∀ a,WW a→∃ i:Nat,σ[i]?=some (some (.ref a))∧ρ[i]?=some .bag:=fun a z=>by
  rw [← hWW] at z
  obtain ⟨j,_,z⟩:=z
  exact ⟨j,z⟩
 have nWD:¬ WW D:=fun z=>by
  obtain ⟨i',y1,y2⟩:=hW D z
  exact nm1 i' (.inl ⟨y1,.inl y2⟩)
 refine ⟨fun i m σi H'=>∃ B' ys es ρi,m=ds.length - i∧i≤ds.length∧Ev K H1 WW B' H' σi ρi∧Grow H1 B1 B'∧H' D=some (.lst ys)∧B' D=none∧(∀ j a,MutAt σi ρi j a→WW a)∧ys.length≤i∧Reps K B' ys es∧compG ug ut u (ds.drop i) ρi fun r=>k (es ++ r),
  ⟨ds.length,B1,[],[],_,by simp,Nat.zero_le _,ei.allocH hD _,Grow.refl _ _,upd_same,f3,hmi,Nat.le_refl _,.nil,by simpa using z1⟩,?_⟩
 rintro i m σi H2 ⟨B2,ys,es,ρi,rfl,hi,e2,g2,hy,hb,hnm,hyl,ry,z2⟩
 obtain ⟨t1,t2,t3⟩:=it H2 (g2.s.trans e2.bh) i
 by_cases hlt:i < ds.length
 ·refine .inr ⟨t1 hlt,fun x H' y=>?_⟩
  obtain ⟨rfl,d,hd,rx⟩:=t3 x H' hlt y
  have ed:ds.drop i=d :: ds.drop (i + 1):=by
   rw [List.drop_eq_getElem_cons hlt]
   rw [List.getElem?_eq_getElem hlt] at hd
   rw [Option.some.inj hd]
  rw [ed] at z2
  refine hg d ρi _ z2 H1 WW B2 H' σi x _ e2 (rx.mono g2.s) fun ρ3 σ3 z3 e3 mm=>?_
  have hnm3:∀ j a,MutAt σ3 ρ3 j a→WW a:=fun j a m=>hnm j a (mm j a m)
  have bD:∀ {B4:Hp},Grow H' B2 B4→B4 D=none:=fun {B4} g4=>by
   cases qd:B4 D with
   | none=>rfl
   | some o =>
    rcases g4.n D o qd with z | z
    ·rw [hb] at z; cases z
    ·rw [hy] at z; cases z
  refine ht ρ3 _ z3 H' WW B2 H' σ3 _ (e3.rebase hnm3) fun b B4 H4 z4 e4 g4=>?_
  have hD4:H4 D=some (.lst ys):=e4.fr D _ hy nWD
  cases b with
  | false =>
   rw [if_neg Bool.false_ne_true] at z4 ⊢
   obtain ⟨e5,g5⟩:=e3.unbase hnm3 e4 g4
   exact ⟨ds.length - (i + 1),by omega,B4,ys,es,ρ3,rfl,hlt,e5,g2.trans g5,hD4,bD g4,hnm3,by omega,ry.mono g4.s,z4⟩
  | true =>
   rw [if_pos rfl] at z4 ⊢
   refine h1 ρ3 _ z4 H' WW B4 H4 σ3 _ e4 fun y' v B5 H5 z5 e5 g5 s5=>?_
   have g45:=g4.trans g5
   have hD5:H5 D=some (.lst ys):=e5.fr D _ hy nWD
   obtain ⟨e6,g6⟩:=e3.unbase hnm3 e5 g45
   refine ⟨ys,hD5,by omega,ds.length - (i + 1),by omega,B5,ys ++ [v],es ++ [y'],ρ3,rfl,hlt,e6.scribble hD (bD g45) (fun j m=>nWD (hnm3 j D m)) _,g2.trans g6,upd_same,bD g45,hnm3,by rw [List.length_append,List.length_singleton]; omega,(ry.mono g45.s).append (.cons s5 .nil),?_⟩
   simpa [List.append_assoc] using z5
 ·have eq:i=ds.length:=by omega
  subst eq
  rw [List.drop_length] at z2
  obtain ⟨e4,g4⟩:=e1.after hW e2.toWd g2
  refine .inl ⟨t2 (Nat.le_refl _),q _ D ys B2 H2 (by simpa [compG] using z2) e4 (g1.trans g4) f1 hb hy ry nm1⟩
def PIfs3 (X:Cx) (ifs:List Expr) (ut:UT):Prop:=∃ t,PIfs X ifs t∧RefT X.K t ut
theorem ifs_nil:PIfs3 X [] utTrue:=⟨_,pifs_nil,fun ρ k h R W B H σ Q e q=>q true B H h e (Grow.refl _ _)⟩
theorem ifs_one {c:Expr} {ut:UT} (h:PT3 X c ut):PIfs3 X [c] ut:=by
 obtain ⟨_,h1,r1⟩:=h
 exact ⟨_,pifs_one h1,r1⟩
theorem joinE {elt:Expr} {α:Type} {Xs:α→Cx} (hK:∀ a,(Xs a).K=K) (h:∀ a,PE3 (Xs a) elt u):∃ t,(∀ a,PE (Xs a) elt t)∧RefE K t u:=by
 refine ⟨fun σ H Q=>∀ a,∃ t,PE (Xs a) elt t∧RefE K t u∧t σ H Q,fun a pins s σ H Q I q=>?_,fun ρ k q R W B H σ Q e z a=>?_⟩
 ·obtain ⟨t,ht,_,hq⟩:=q a
  exact ht pins s σ H Q I hq
 ·obtain ⟨t,ht,hr⟩:=h a
  rw [hK a] at hr
  exact ⟨t,ht,hr,hr ρ k q R W B H σ Q e z⟩
theorem joinI {ifs:List Expr} {ut:UT} {α:Type} {Xs:α→Cx} (hK:∀ a,(Xs a).K=K) (h:∀ a,PIfs3 (Xs a) ifs ut):∃ t,(∀ a,PIfs (Xs a) ifs t)∧RefT K t ut:=by
 refine ⟨fun σ H Q=>∀ a,∃ t,PIfs (Xs a) ifs t∧RefT K t ut∧t σ H Q,fun a pins s σ H Q I q=>?_,fun ρ k q R W B H σ Q e z a=>?_⟩
 ·obtain ⟨t,ht,_,hq⟩:=q a
  exact ht pins s σ H Q I hq
 ·obtain ⟨t,ht,hr⟩:=h a
  rw [hK a] at hr
  exact ⟨t,ht,hr,hr ρ k q R W B H σ Q e z⟩
theorem joinG {tg:Expr} {ug:UG} {α:Type} {Xs:α→Cx} (hK:∀ a,(Xs a).K=K) (h:∀ a,PG3 (Xs a) tg ug):∃ t,(∀ a,PG (Xs a) tg t)∧RefG K t ug:=by
 refine ⟨fun v σ H Q=>∀ a,∃ t,PG (Xs a) tg t∧RefG K t ug∧t v σ H Q,fun a pins s σ H v x Q I r q=>?_,fun d ρ k q R W B H σ v Q e r z a=>?_⟩
 ·obtain ⟨t,ht,_,hq⟩:=q a
  exact ht pins s σ H v x Q I r hq
 ·obtain ⟨t,ht,hr⟩:=h a
  rw [hK a] at hr
  exact ⟨t,ht,hr,hr d ρ k q R W B H σ v Q e r z⟩
variable {elt iter tg:Expr} {ifs:List Expr} {scope:Scope} {cl:List (Str×Addr)} {ts fr:List Str} {js:List Nat} {ug:UG} {ut:UT}
theorem o_compG (hi:PI3 X tg iter w) (hg:∀ C s H ex,PG3 (compCx X (ts ++ fr) scope cl C s H ex) tg ug) (hts:∀ C s H ex,PIfs3 (compCx X (ts ++ fr) scope cl C s H ex) ifs ut) (helt:∀ C s H ex,PE3 (compCx X (ts ++ fr) scope cl C s H ex) elt u)
  (F:FreeOk X scope cl fr js) (hjn:js.Nodup:=by decide) (hc:X.calm=true:=by rfl) (hs:∀ v,foldedSetIterable iter X.env v=pure v:=by intro _; rfl):PO3 X (.ListComp elt [⟨tg,iter,ifs,0⟩] scope pos) (uCompG w ug ut u ts.length js):=by
 obtain ⟨_,h0,r0⟩:=hi
 obtain ⟨tg',hg',rg⟩:=joinG (K:=X.K) (Xs:=fun a:Addr×Shared×Hp×List Addr=>compCx X (ts ++ fr) scope cl a.1 a.2.1 a.2.2.1 a.2.2.2) (fun _=>rfl) fun a=>hg a.1 a.2.1 a.2.2.1 a.2.2.2
 obtain ⟨tt,ht',rt⟩:=joinI (K:=X.K) (Xs:=fun a:Addr×Shared×Hp×List Addr=>compCx X (ts ++ fr) scope cl a.1 a.2.1 a.2.2.1 a.2.2.2) (fun _=>rfl) fun a=>hts a.1 a.2.1 a.2.2.1 a.2.2.2
 obtain ⟨te,he',re⟩:=joinE (K:=X.K) (Xs:=fun a:Addr×Shared×Hp×List Addr=>compCx X (ts ++ fr) scope cl a.1 a.2.1 a.2.2.1 a.2.2.2) (fun _=>rfl) fun a=>helt a.1 a.2.1 a.2.2.1 a.2.2.2
 exact ⟨_,pe_compG h0 (fun C s H ex=>hg' (C,s,H,ex)) (fun C s H ex=>ht' (C,s,H,ex)) (fun C s H ex=>he' (C,s,H,ex)) F hc hs,refCompG r0 rg rt re hjn⟩
theorem s_compA {i:Nat} {y:Str} {py spos:Pos} (hN:X.N.Nodup) (hiN:X.N[i]?=some y) (hy:X.env.scope.names.lookup y=some .local)
  (hi:PI3 X tg iter w) (hg:∀ C s H ex,PG3 (compCx X (ts ++ fr) scope cl C s H ex) tg ug) (hts:∀ C s H ex,PIfs3 (compCx X (ts ++ fr) scope cl C s H ex) ifs ut) (helt:∀ C s H ex,PE3 (compCx X (ts ++ fr) scope cl C s H ex) elt u)
  (F:FreeOk X scope cl fr js) (hjn:js.Nodup:=by decide) (hc:X.calm=true:=by rfl) (hs:∀ v,foldedSetIterable iter X.env v=pure v:=by intro _; rfl)
  (hsw:swapsWith (.ListComp elt [⟨tg,iter,ifs,0⟩] scope pos) (some (.Name y py)) spos.line X.env=pure true:=by rfl) :
  PS3 X (.Assign [.Name y py] (.ListComp elt [⟨tg,iter,ifs,0⟩] scope pos) spos) (uSetO i (uCompG w ug ut u ts.length js)):=by
 obtain ⟨_,h0,r0⟩:=hi
 obtain ⟨tg',hg',rg⟩:=joinG (K:=X.K) (Xs:=fun a:Addr×Shared×Hp×List Addr=>compCx X (ts ++ fr) scope cl a.1 a.2.1 a.2.2.1 a.2.2.2) (fun _=>rfl) fun a=>hg a.1 a.2.1 a.2.2.1 a.2.2.2
 obtain ⟨tt,ht',rt⟩:=joinI (K:=X.K) (Xs:=fun a:Addr×Shared×Hp×List Addr=>compCx X (ts ++ fr) scope cl a.1 a.2.1 a.2.2.1 a.2.2.2) (fun _=>rfl) fun a=>hts a.1 a.2.1 a.2.2.1 a.2.2.2
 obtain ⟨te,he',re⟩:=joinE (K:=X.K) (Xs:=fun a:Addr×Shared×Hp×List Addr=>compCx X (ts ++ fr) scope cl a.1 a.2.1 a.2.2.1 a.2.2.2) (fun _=>rfl) fun a=>helt a.1 a.2.1 a.2.2.1 a.2.2.2
 refine ⟨_,ps_compA hN hiN hy h0 (fun C s H ex=>hg' (C,s,H,ex)) (fun C s H ex=>ht' (C,s,H,ex)) (fun C s H ex=>he' (C,s,H,ex)) F hc hs hsw,fun U ρ h R W B H σ D e s=>?_⟩
 exact refCompG r0 rg rt re hjn ρ _ h R W B H σ _ e fun ds a vs B1 H1 z1 e1 g1 f1 f2 f3 f4 f5=>s.nx _ _ B1 H1 z1 (e1.setO i f1 f2 f3 f4 fun j _=>f5 j) g1
theorem s_thenFz {st:Stmt} {s:US} (i:Nat) (h:PS3 X st s):PS3 X st (fun U ρ=>s { U with nx:=fun ρ'=>∃ ds:List D,ρ'[i]?=some (.own ds)∧U.nx (ρ'.set i (.val (.lst ds))) } ρ):=by
 obtain ⟨_,h1,r1⟩:=h
 refine ⟨_,h1,fun U ρ h R W B H σ D e sm=>?_⟩
 refine r1 _ ρ h R W B H σ D e ⟨fun ρ' σ' B' H' z e' g=>?_,sm.bk,sm.ct,sm.rt⟩
 obtain ⟨ds,ho,z⟩:=z
 obtain ⟨B2,e2,g2⟩:=e'.fz ho
 exact sm.nx _ σ' B2 H' z e2 (g.trans g2)
end
end L3
namespace L2
open PySem PySem.Spec PyProof.Rows
theorem newEnv_own {M:Model} {A:Around} {E:Value→Shared→Prop} {s:Shared} {scope:Scope} {globals:Addr} {qual:Str} {func:Option Addr} {code:Value} {outer:PySem.Env} {builtins:Addr} {Q:PySem.Env→Shared→Prop}
  (hQ:∀ h':Heap,h'.Ns s.heap.objs.size (fun _=>none)→(∀ b o,s.heap.get? b=some o→h'.get? b=some o)→CellsOk h' (s.heap.objs.size + 1) (cellsFrom (s.heap.objs.size + 1) scope.names []) →
   Q (newEnv scope s.heap.objs.size globals (cellsFrom (s.heap.objs.size + 1) scope.names []) qual func code (some outer) builtins) { s with heap:=h' }) :
  wpAny M A (newFunctionEnv scope globals [] [] qual func code (some outer) builtins) Q E s:=by
 simp only [newFunctionEnv,Option.isSome_some,if_true]
 refine wpAny_bind (wpAny_alloc ?_)
 refine wpAny_bind (wpAny_layCells _ (fun name kind cells=>by cases hkc:kind == NameKind.cell <;> simp [hkc]) _ _ _ _ ?_)
 have ok:=cellsFrom_ok scope.names (s.heap.push { cls:=.type "dict", data:=.dict #[] }) (s.heap.objs.size + 1) [] ⟨fun _ _ hm=>(nomatch hm),List.Pairwise.nil⟩ (by rw [Heap.size_push]; exact Nat.le_refl _)
 rw [Heap.size_push] at ok
 rw [show ({ s with heap:=s.heap.push { cls:=.type "dict", data:=.dict #[] } }:Shared).heap.objs.size=s.heap.objs.size + 1 from Heap.size_push ..]
 rw [List.forIn_nil]
 refine wpAny_bind (wpAny_pure (wpAny_pure ?_))
 exact hQ _ ((Heap.Ns.new s.heap (.type "dict")).keeps (pushCells_keeps _ _)) (fun b o e=>pushCells_keeps _ _ b o (Heap.get?_push_of_some _ e)) ok
def compCxC (X:Cx) (N:List Str) (scope:Scope) (C:Addr) (s:Shared) (H:Hp) (ex:List Addr):Cx :=
 { X with N:=N,s₀:=s,H₀:=H,env:=compEnvC scope (cellsFrom (C + 1) scope.names []) C X.env,outer:=X.stack,ex:=ex,fn:=fun _=>true,pn:=[],xe:=fun _ _=>False }
structure OwnOk (X:Cx) (scope:Scope):Prop where
 clos:closureFor scope X.env=pure []
 kind:scope.kind=.function
 names:∀ y∈scope.names,y.2=.local→scope.names.lookup y.1=some .local
 nofree:∀ y∈scope.names,y.2≠.free
theorem cellsFrom_acc {y:Str}:∀ (l:List (Str×NameKind)) (n:Nat) (acc:List (Str×Addr)),(∃ c,acc.lookup y=some c)→∃ c,(cellsFrom n l acc).lookup y=some c
 | [],_,_,h=>h
 | (m,k) :: r,n,acc,h=>by
  unfold cellsFrom
  split
  ·refine cellsFrom_acc r _ _ ?_
   rw [List.lookup_cons]
   split
   ·exact ⟨_,rfl⟩
   ·exact h
  ·exact cellsFrom_acc r _ _ h
theorem cellsFrom_has {y:Str}:∀ (l:List (Str×NameKind)) (n:Nat) (acc:List (Str×Addr)),l.lookup y=some .cell→∃ c,(cellsFrom n l acc).lookup y=some c
 | [],_,_,h=>by simp at h
 | (m,k) :: r,n,acc,h=>by
  unfold cellsFrom
  rw [List.lookup_cons] at h
  cases hx:y == m with
  | true =>
   rw [hx] at h
   cases h
   rw [if_pos (by rfl)]
   exact cellsFrom_acc r _ _ ⟨n,by rw [List.lookup_cons,hx]⟩
  | false =>
   rw [hx] at h
   split
   ·exact cellsFrom_has r _ _ h
   ·exact cellsFrom_has r _ _ h
theorem relab_id {env:PySem.Env}:∀ {l:List (Str×NameKind)},(∀ y∈l,y.2≠.free)→(l.map fun (n,k)=>if (k == NameKind.free && env.scope.kind == .function && env.kindOf n == some .cell) then (n,NameKind.cell) else (n,k))=l
 | [],_=>rfl
 | (n,k) :: r,h=>by
  have ih:=relab_id (env:=env) fun y hy=>h y (List.mem_cons_of_mem _ hy)
  have hk:k≠.free:=h (n,k) List.mem_cons_self
  rw [List.map_cons,ih]
  have:(k == NameKind.free)=false:=by cases k <;> first | rfl | exact absurd rfl hk
  dsimp only
  rw [this]
  rfl
theorem look_free {y:Str}:∀ {l:List (Str×NameKind)},(∀ y∈l,y.2≠.free)→l.lookup y≠some .free:=fun {l} h e=>h (y,.free) (mem_of_lookup e) rfl
theorem own_has {scope:Scope} {env:PySem.Env} {n:Nat} (h:∀ y∈scope.names,y.2≠.free):∀ y,((relabel scope env).names.lookup y=some .cell∨(relabel scope env).names.lookup y=some .free)→∃ c,(cellsFrom n scope.names []).lookup y=some c:=fun y hy=>by
 have e:(relabel scope env).names=scope.names:=relab_id h
 rw [e] at hy
 rcases hy with q | q
 ·exact cellsFrom_has _ _ _ q
 ·exact absurd q (look_free h)
section
variable {X:Cx}
theorem comp_blockC {elt iter tg:Expr} {ifs:List Expr} {pos:Pos} {scope:Scope} {ts:List Str} {wi:TI} {g:TG} {tt:TT} {te:TE} {use:Option (Value→Sem Unit)} {RQ:Value→Shared→Prop} {QE:VK}
  (hi:PI X tg iter wi) (hg:∀ C s H ex,PG (compCxC X ts scope C s H ex) tg g) (hts:∀ C s H ex,PIfs (compCxC X ts scope C s H ex) ifs tt) (helt:∀ C s H ex,PE (compCxC X ts scope C s H ex) elt te)
  (F:OwnOk X scope) (hc:X.calm=true) (hs:∀ v,foldedSetIterable iter X.env v=pure v)
  {pins:List (Addr×Obj)} {s:Shared} {σ:St} {H:Hp} (I:Inv X pins σ H s) (h:tCompG wi g tt te ts.length [] σ H QE) (newAcc:Sem Value) (hnew:newAcc=newList []) (pp:Pos)
  (hR:∀ (D C:Addr) (H5:Hp) (s6:Shared) (m:Str→Option Value),s6.heap.Ns C m→H5 C=none→C≠X.env.locals→X.s₀.heap.objs.size≤C→(∀ x c,X.env.cells.lookup x=some c→c≠C)→(∀ p∈X.pn ++ pins,p.1≠C)→C ∉ X.fs →
   (∀ h':Heap,(∀ b u,b≠C→s6.heap.get? b=some u→h'.get? b=some u)→Inv X pins σ H5 { s6 with heap:=h' })→QE (.ref D) H5→compPost (model X.prog X.w) X.A X.xe use RQ (.ref D) C (.ok .next) s6) :
  wpAny (model X.prog X.w) X.A (comprehension (.ListComp elt [⟨tg,iter,ifs,0⟩] scope pos) scope X.env pp newAcc false (eval iter X.env) use) RQ X.xe s:=by
 refine wpAny_comprehension_free (use:=use) rfl hs F.clos F.kind F.names (thn (hi pins s σ H _ I h) fun xv s1 h1=>thn h1 fun itv s2 h2=>?_)
 obtain ⟨it,fp,tn,J,H2,rfl,I2,T,st2,f2,h2⟩:=h2
 have hD:H2 s2.heap.objs.size=none:=I2.fresh
 obtain ⟨W,⟨m0,w0⟩,turn⟩:=h2 _ hD
 rw [hnew]
 refine wpAny_newObj_type ?_
 have I3:Inv X pins σ (upd H2 s2.heap.objs.size (.lst [])) { s2 with heap:=s2.heap.push { cls:=.type "list", data:=.seq ([]:List Value).toArray } }:=I2.lnew (t':=s2.toks) (its:=[]) .nil (by show 0≤sizeLine; decide)
 generalize hs3:({ s2 with heap:=s2.heap.push { cls:=.type "list", data:=.seq ([]:List Value).toArray } }:Shared)=s3 at I3
 have e3:s3.heap=s2.heap.push { cls:=.type "list", data:=.seq ([]:List Value).toArray }:=by rw [← hs3]
 generalize hH3:upd H2 s2.heap.objs.size (.lst [])=H3 at I3 w0
 generalize hDD:s2.heap.objs.size=D at hD hH3 w0 turn
 have k3:∀ b o,s2.heap.get? b=some o→s3.heap.get? b=some o:=fun b o e=>by rw [e3]; exact Heap.get?_push_of_some _ e
 have f3:∀ b∈fp,FpOk X pins H3 b:=fun b hb=>by
  obtain ⟨o,ho,_⟩:=T.obj _ _ st2 b hb
  have lt:=Heap.lt_size ho
  refine ⟨?_,(f2 b hb).2⟩
  rw [← hH3,upd_ne (by rw [← hDD]; exact Nat.ne_of_lt lt)]
  exact (f2 b hb).1
 refine newEnv_own (fun h1 hns k4 hcs=>?_)
 have hC3:s3.heap.get? s3.heap.objs.size=none:=Heap.get?_none_of_le (Nat.le_refl _)
 show codeAny (model X.prog X.w) X.A (.compStart (.ListComp elt [⟨tg,iter,ifs,0⟩] scope pos) 0 (.ref it) (.ref D) (compEnvC scope (cellsFrom (s3.heap.objs.size + 1) scope.names []) s3.heap.objs.size X.env)) (compPost (model X.prog X.w) X.A X.xe use RQ (.ref D) s3.heap.objs.size) _
 have ok:(compCxC X ts scope s3.heap.objs.size s3 H3 fp).Ok:=by
  refine ⟨I3.ok.mod,F.kind,I3.ok.glob,I3.ok.blt,Nat.le_refl _,fun y z c e1 e2=>name_of_addr hcs.apart (mem_of_lookup e1) (mem_of_lookup e2),fun y hy=>own_has F.nofree y hy,fun y c _ e=>Nat.le_of_succ_le (hcs.empty y c (mem_of_lookup e)).2,I3.ok.hd,I3.ok.frames,.inl rfl,fun b hb=>?_,I3.bs,Nat.le_trans I3.ok.bsz I3.sz,
   fun b o e hb=>?_,fun b hb hf=>?_,I3.stack,I3.stkFree⟩
  ·obtain ⟨o,ho,_⟩:=T.obj _ _ st2 b hb
   exact ⟨Nat.ne_of_lt (Heap.lt_size (k3 b o ho)),fun y c e z=>by
    have:=(hcs.empty y c (mem_of_lookup e)).2
    have l:=Heap.lt_size (k3 b o ho)
    rw [z] at this
    exact absurd (Nat.lt_of_lt_of_le l (Nat.le_of_succ_le this)) (Nat.lt_irrefl _)⟩
  ·obtain ⟨_,_,_,z,_⟩:=f3 b hb
   rcases z with z | z
   ·exact I3.ok.noex b o e z
   ·exact absurd (Nat.lt_of_lt_of_le (Heap.lt_size (I3.ok.bs b o e).1) z) (Nat.lt_irrefl _)
  ·rcases List.mem_cons.mp (I3.stkSub b hf) with z | z
   ·exact (f3 b hb).2.1 z
   ·exact (f3 b hb).2.2.1 z
 have I4:Inv (compCxC X ts scope s3.heap.objs.size s3 H3 fp) [] (List.replicate ts.length none ++ freeV σ []) H3 { s3 with heap:=h1 }:=by
  refine ⟨ok,rfl,I3.bare,Un.kept k4,⟨_,hns,fun i y v e1 e2 e3=>?_⟩,fun y c e=>⟨_,(hcs.empty y c (mem_of_lookup e)).1⟩,I3.fresh,fun y c e=>I3.hok.fresh (Nat.le_of_succ_le (hcs.empty y c (mem_of_lookup e)).2),fun p hp=>absurd (show p∈([]:List (Addr×Obj)) from hp) (by simp),I3.hok.kept k4,?_⟩
  ·have e2:(List.replicate ts.length (none:Option V) ++ [])[i]?=some (some v):=e2
   rw [List.append_nil,List.getElem?_replicate] at e2
   split at e2 <;> cases e2
  ·show (List.replicate ts.length (none:Option V) ++ []).length=ts.length
   rw [List.append_nil,List.length_replicate]
 have stat:∀ {H':Hp},(∀ b∈fp,H' b=none)→∀ b∈fp,FpOk (compCxC X ts scope s3.heap.objs.size s3 H3 fp) [] H' b:=fun hn b hb=>by
  obtain ⟨o,ho,_⟩:=T.obj _ _ st2 b hb
  exact ⟨hn b hb,(ok.exf b hb).1,ok.exfs b hb,.inl hb,(ok.exf b hb).2,fun p hp=>absurd (show p∈([]:List (Addr×Obj)) from hp) (by simp)⟩
 have loop:∀ s4:Shared,s4={ s3 with heap:=h1 } →
   codeAny (model X.prog X.w) X.A (.compLoop (.ListComp elt [⟨tg,iter,ifs,0⟩] scope pos) 0 (.ref it) (.ref D) (compEnvC scope (cellsFrom (s3.heap.objs.size + 1) scope.names []) s3.heap.objs.size X.env)) (compPost (model X.prog X.w) X.A X.xe use RQ (.ref D) s3.heap.objs.size) s4:=by
  intro s4 e4
  rw [← e4] at I4
  have st4:tn 0 s4.heap:=T.keep _ _ _ st2 fun b _ o e=>by rw [e4]; exact k4 b o (k3 b o e)
  refine comp_turns (fun n s'=>∃ i σ' H',Inv (compCxC X ts scope s3.heap.objs.size s3 H3 fp) [] σ' H' s'∧tn i s'.heap∧(∀ b∈fp,H' b=none)∧W i n σ' H') m0 ⟨0,_,H3,I4,st4,fun b hb=>(f3 b hb).1,w0⟩ ?_
  rintro n s5 ⟨i,σ5,H5,I5,st5,fr5,w5⟩
  rcases turn i n σ5 H5 w5 with ⟨stop,q⟩ | ⟨go,step⟩
  ·refine thn (T.done (compCxC X ts scope s3.heap.objs.size s3 H3 fp) rfl rfl rfl hc i [] s5 σ5 H5 _ I5 (stat fr5) st5 stop) fun r s6 ⟨hr,I6⟩=>?_
   subst hr
   obtain ⟨m,hn,_⟩:=id I6.loc
   refine hR D s3.heap.objs.size H5 s6 m hn I6.free (Nat.ne_of_gt I3.lt) I3.sz (fun y c e z=>?_) (fun p hp z=>?_) (I3.nofs (Nat.le_refl _)) (fun h' kb=>?_) q
   ·obtain ⟨v,oo,q1,q2⟩:=I3.cell y c e
    exact absurd (Heap.lt_size q1) (by rw [z]; exact Nat.lt_irrefl _)
   ·exact absurd (Heap.lt_size (I3.pin p hp).1) (by rw [z]; exact Nat.lt_irrefl _)
   ·refine I3.call' (s':={ s6 with heap:=h' }) (ch:=fp) I6.os ((show Un (frs X.stack) fp H3 H5 s3.heap s6.heap from I6.base).but hC3 kb) (I6.hok.but I6.free kb) I6.bare (fun b hb=>?_)
    obtain ⟨_,z1,_,z3,z4,z5⟩:=f3 b hb
    exact ⟨z3,z1,z4,z5⟩
  ·refine thn (T.item (compCxC X ts scope s3.heap.objs.size s3 H3 fp) rfl rfl rfl hc i [] s5 σ5 H5 _ I5 (stat fr5) st5 go) fun r s6 ⟨u,hr,h6⟩=>?_
   subst hr
   refine thn h6 fun _ s7 ⟨v,H7,I7,r7,y7,st7,fr7⟩=>?_
   have I7':=I7.pinned (stat fr7) (T.obj _ _ st7)
   have back:∀ {s9:Shared} {σ9:St} {H9:Hp} {n':Nat},Inv (compCxC X ts scope s3.heap.objs.size s3 H3 fp) ([] ++ pinsAt fp s7.heap) σ9 H9 s9→W (i + 1) n' σ9 H9→∃ i σ' H',Inv (compCxC X ts scope s3.heap.objs.size s3 H3 fp) [] σ' H' s9∧tn i s9.heap∧(∀ b∈fp,H' b=none)∧W i n' σ' H':=fun {s9 σ9 H9 n'} I9 w9=>by
    refine ⟨i + 1,σ9,H9,I9.unpinned (pins:=[]),T.keep _ _ _ st7 fun b hb oo ee=>(I9.pin (b,oo) (List.mem_append_right _ (List.mem_append_right _ (mem_pinsAt hb ee)))).1,fun b hb=>?_,w9⟩
    obtain ⟨oo,ee,_⟩:=T.obj _ _ st7 b hb
    exact (I9.pin (b,oo) (List.mem_append_right _ (List.mem_append_right _ (mem_pinsAt hb ee)))).2.1
   refine wpAny_mono (hg s3.heap.objs.size s3 H3 fp _ s7 σ5 H7 v u _ I7' r7 (step v H7 y7)) (fun _ s8 ⟨σ8,H8,I8,q8⟩=>?_) (fun _ _ z=>z.elim)
   refine wpAny_mono (hts s3.heap.objs.size s3 H3 fp _ s8 σ8 H8 _ I8 q8) (fun b s9 ⟨H9,I9,q9⟩=>?_) (fun _ _ z=>z.elim)
   cases b with
   | false =>
    rw [if_neg Bool.false_ne_true] at q9 ⊢
    obtain ⟨m',lm,w9⟩:=q9
    exact ⟨m',lm,back I9 w9⟩
   | true =>
    rw [if_pos rfl] at q9 ⊢
    refine wpAny_mono (helt s3.heap.objs.size s3 H3 fp _ s9 _ H9 _ I9 q9) (fun yv s10 ⟨y,H10,I10,r10,ys,e10,l10,m',lm,w10⟩=>?_) (fun _ _ z=>z.elim)
    have mt:=mt_append (X:=compCxC X ts scope s3.heap.objs.size s3 H3 fp) _ s10 _ H10 (.ref D) [y] (.ref D) [yv] (fun _ H'=>H'=upd H10 D (.lst (ys ++ [y]))) I10 rfl (.cons r10 .nil) ⟨D,ys,y,rfl,rfl,e10,l10,rfl⟩
    refine wpAny_mono mt (fun _ s11 ⟨_,H11,I11,_,e11⟩=>?_) (fun _ _ z=>z.elim)
    subst e11
    exact ⟨m',lm,back I11 w10⟩
 exact codeAny_compStart_list (loop _ rfl) (T.self _ 0 _ _ _ (T.keep _ _ _ st2 fun b _ o e=>k4 b o (k3 b o e)) (loop _ rfl))
theorem ps_compC {elt iter tg:Expr} {ifs:List Expr} {pos:Pos} {scope:Scope} {ts:List Str} {wi:TI} {g:TG} {tt:TT} {te:TE} {i:Nat} {y:Str} {py spos:Pos}
  (hN:X.N.Nodup) (hiN:X.N[i]?=some y) (hy:X.env.scope.names.lookup y=some .local)
  (hi:PI X tg iter wi) (hg:∀ C s H ex,PG (compCxC X ts scope C s H ex) tg g) (hts:∀ C s H ex,PIfs (compCxC X ts scope C s H ex) ifs tt) (helt:∀ C s H ex,PE (compCxC X ts scope C s H ex) elt te)
  (F:OwnOk X scope) (hc:X.calm=true) (hs:∀ v,foldedSetIterable iter X.env v=pure v) (hsw:swapsWith (.ListComp elt [⟨tg,iter,ifs,0⟩] scope pos) (some (.Name y py)) spos.line X.env=pure true) :
  PS X (.Assign [.Name y py] (.ListComp elt [⟨tg,iter,ifs,0⟩] scope pos) spos) (tAsg (tCompG wi g tt te ts.length []) (gName i)):=by
 intro pins s σ H D I h
 rw [exec_Assign_Name_used _ _ _ _ hsw]
 refine wpAny_bind (wpAny_standAt (wpAny_bind ?_))
 show wpAny _ X.A (do let _ ← comprehension (.ListComp elt [⟨tg,iter,ifs,0⟩] scope pos) scope X.env _ (newList []) false (eval iter X.env) (some (assign (.Name y py) X.env))) _ _ s
 refine wpAny_bind (thn (comp_blockC (RQ:=fun _ s'=>∃ σ' H',Inv X pins σ' H' s'∧D.nx σ' H') (QE:=fun v H1=>gName i v σ H1 D.nx) hi hg hts helt F hc hs I h _ rfl _ ?_) fun _ s' q=>wpAny_pure (wpAny_pure q))
 intro L C H5 s6 m hn hf hL hsz hcl hpn hfs iv q
 obtain ⟨o,es,ep,ho,hd,r⟩:=id hn
 have I6:Inv X pins σ H5 s6:=iv s6.heap fun b u _ e=>e
 have I6p:Inv X (pins ++ [(C,o)]) σ H5 s6:=I6.pins_of fun p hp=>by
  rcases List.mem_append.mp hp with z | z
  ·exact I6.pin p (List.mem_append_right _ z)
  ·have z:p=(C,o):=by simpa using z
   subst z
   exact ⟨ho,hf,hL,hfs,fun v z=>by rw [hd] at z; cases z⟩
 show wpAny _ X.A (assign (.Name y py) X.env (.ref L)) _ _ _
 refine wpAny_assign_Name (store_ok I6p hN hiN (.inl hy) (v:=.ref L) rfl (fun s7 I7=>?_) (.inr hy))
 have h7:s7.heap.get? C=some o:=(I7.pin (C,o) (List.mem_append_right _ (List.mem_append_right _ (List.mem_singleton.mpr rfl)))).1
 refine ⟨m,⟨o,es,ep,h7,hd,r⟩,fun h' hs'=>⟨_,H5,?_,q⟩⟩
 exact I7.unpinned.turned (t':=s7.toks) (fun b u hb e=>hs'.extBut b u hb e) hf hL (.inr hsz) hcl hpn
end
end L2
namespace L3
open PySem L2
section
variable {K:PySem.W.Frag} {X:Cx} {e:Expr} {es:List Expr} {u:UE} {w:UL} {pos p:Pos}
variable {elt iter tg:Expr} {ifs:List Expr} {scope:Scope} {ts:List Str} {ug:UG} {ut:UT}
theorem s_compC {i:Nat} {y:Str} {py spos:Pos} (hN:X.N.Nodup) (hiN:X.N[i]?=some y) (hy:X.env.scope.names.lookup y=some .local)
  (hi:PI3 X tg iter w) (hg:∀ C s H ex,PG3 (compCxC X ts scope C s H ex) tg ug) (hts:∀ C s H ex,PIfs3 (compCxC X ts scope C s H ex) ifs ut) (helt:∀ C s H ex,PE3 (compCxC X ts scope C s H ex) elt u)
  (F:OwnOk X scope) (hc:X.calm=true:=by rfl) (hs:∀ v,foldedSetIterable iter X.env v=pure v:=by intro _; rfl)
  (hsw:swapsWith (.ListComp elt [⟨tg,iter,ifs,0⟩] scope pos) (some (.Name y py)) spos.line X.env=pure true:=by rfl) :
  PS3 X (.Assign [.Name y py] (.ListComp elt [⟨tg,iter,ifs,0⟩] scope pos) spos) (uSetO i (uCompG w ug ut u ts.length [])):=by
 obtain ⟨_,h0,r0⟩:=hi
 obtain ⟨tg',hg',rg⟩:=joinG (K:=X.K) (Xs:=fun a:Addr×Shared×Hp×List Addr=>compCxC X ts scope a.1 a.2.1 a.2.2.1 a.2.2.2) (fun _=>rfl) fun a=>hg a.1 a.2.1 a.2.2.1 a.2.2.2
 obtain ⟨tt,ht',rt⟩:=joinI (K:=X.K) (Xs:=fun a:Addr×Shared×Hp×List Addr=>compCxC X ts scope a.1 a.2.1 a.2.2.1 a.2.2.2) (fun _=>rfl) fun a=>hts a.1 a.2.1 a.2.2.1 a.2.2.2
 obtain ⟨te,he',re⟩:=joinE (K:=X.K) (Xs:=fun a:Addr×Shared×Hp×List Addr=>compCxC X ts scope a.1 a.2.1 a.2.2.1 a.2.2.2) (fun _=>rfl) fun a=>helt a.1 a.2.1 a.2.2.1 a.2.2.2
 refine ⟨_,ps_compC hN hiN hy h0 (fun C s H ex=>hg' (C,s,H,ex)) (fun C s H ex=>ht' (C,s,H,ex)) (fun C s H ex=>he' (C,s,H,ex)) F hc hs hsw,fun U ρ h R W B H σ D e s=>?_⟩
 exact refCompG r0 rg rt re List.nodup_nil ρ _ h R W B H σ _ e fun ds a vs B1 H1 z1 e1 g1 f1 f2 f3 f4 f5=>s.nx _ _ B1 H1 z1 (e1.setO i f1 f2 f3 f4 fun j _=>f5 j) g1
end
end L3
namespace L3
open PySem L2
theorem forR_map {α:Type} {f:α→D} {s:US} {U:UEnds} {m:Nat} (I:List α→List Sl→Prop):∀ {rs done:List α} {ρ:List Sl},I done ρ →
  (∀ (pre:List α) (r:α) (rest:List α) ρ,done ++ rs=pre ++ r :: rest→I pre ρ→∀ N:List Sl→Prop,(∀ r',I (pre ++ [r]) r'→N r')→s { U with nx:=N,ct:=N,bk:=U.nx } (ρ.set m (.val (f r))))→(∀ ρ,I (done ++ rs) ρ→U.nx ρ)→forR (ugName m) s U (rs.map f) ρ
 | [],done,ρ,h0,_,h2=>h2 ρ (by rw [List.append_nil]; exact h0)
 | r :: rs,done,ρ,h0,h1,h2=>by
  refine h1 done r rs ρ rfl h0 _ fun r' hr=>?_
  have e:done ++ r :: rs=(done ++ [r]) ++ rs:=by simp
  rw [e] at h1 h2
  exact forR_map I hr h1 h2
theorem forR_rng0 {s:US} {U:UEnds} {m:Nat} (I:Nat→List Sl→Prop):∀ {n i:Nat} {ρ:List Sl},I i ρ→(∀ (j:Nat) ρ,i≤j→j < i + n→I j ρ→∀ N:List Sl→Prop,(∀ r,I (j + 1) r→N r)→s { U with nx:=N,ct:=N,bk:=U.nx } (ρ.set m (.val (.int j)))) →
  (∀ ρ,I (i + n) ρ→U.nx ρ)→forR (ugName m) s U ((List.range' i n).map fun j:Nat=>D.int j) ρ
 | 0,i,ρ,h0,_,h2=>h2 ρ h0
 | n + 1,i,ρ,h0,h1,h2=>by
  show forR (ugName m) s U (D.int i :: (List.range' (i + 1) n).map fun j:Nat=>D.int j) ρ
  refine h1 i ρ (Nat.le_refl _) (by omega) h0 _ fun r hr=>?_
  exact forR_rng0 I hr (fun j ρ hj hj2=>h1 j ρ (by omega) (by omega)) fun ρ h=>h2 ρ (by rw [show i + (n + 1)=i + 1 + n by omega]; exact h)
theorem forR_rng {s:US} {U:UEnds} {m n:Nat} {ρ:List Sl} (I:Nat→List Sl→Prop) (h0:I 0 ρ) (h1:∀ (j:Nat) ρ,j < n→I j ρ→∀ N:List Sl→Prop,(∀ r,I (j + 1) r→N r)→s { U with nx:=N,ct:=N,bk:=U.nx } (ρ.set m (.val (.int j))))
  (h2:∀ ρ,I n ρ→U.nx ρ):forR (ugName m) s U ((List.range n).map fun j:Nat=>D.int j) ρ:=by
 rw [List.range_eq_range']
 exact forR_rng0 I h0 (fun j ρ _ hj=>h1 j ρ (by omega)) fun ρ h=>h2 ρ (by rw [Nat.zero_add] at h; exact h)
theorem compG_map {α:Type} {f h:α→D} {u:UE} {fs:List Sl}:∀ {rs:List α} {v0:Sl} {k:List D→Prop},(∀ r∈rs,∀ k:D→Prop,k (h r)→u (.val (f r) :: fs) k)→k (rs.map h)→compG (ugName 0) utTrue u (rs.map f) (v0 :: fs) k
 | [],v0,k,_,hk=>hk
 | r :: rs,v0,k,hu,hk=>by
  show (if true=true then u (.val (f r) :: fs) fun y=>compG (ugName 0) utTrue u (rs.map f) (.val (f r) :: fs) fun ys=>k (y :: ys) else compG (ugName 0) utTrue u (rs.map f) (.val (f r) :: fs) k)
  rw [if_pos rfl]
  exact hu r List.mem_cons_self _ (compG_map (fun q hq=>hu q (List.mem_cons_of_mem _ hq)) hk)
theorem atI_map {α β:Type} {f:α→β} {rs:List α} {i:Int} {r:α} (h:atI rs i=some r):atI (rs.map f) i=some (f r):=by
 unfold atI at h ⊢
 rw [List.length_map]
 cases q:ixN rs.length i with
 | none=>rw [q] at h; cases h
 | some j =>
  rw [q] at h
  show (rs.map f)[j]?=_
  rw [List.getElem?_map,show rs[j]?=some r from h]
  rfl
theorem atI_ofNat {α:Type} {rs:List α} {i:Nat} (h:i < rs.length):atI rs (i:Int)=some rs[i]:=by
 unfold atI ixN
 rw [if_pos (by omega),if_pos (by omega)]
 show rs[((i:Int)).toNat]?=_
 rw [show ((i:Int)).toNat=i by omega,List.getElem?_eq_getElem h]
theorem cutL_drop {α:Type} {xs:List α} {i:Int} (h0:0≤i) (h1:i≤xs.length):cutL xs (some i) none=xs.drop i.toNat:=by
 unfold cutL
 have e1:HT.sIx xs.length 0 (some i)=i.toNat:=by
  unfold HT.sIx
  first | omega | (simp only []; split <;> omega) | (split <;> omega) | (dsimp only; split <;> (try split) <;> omega)
 have e2:HT.sIx xs.length xs.length none=xs.length:=rfl
 rw [e1,e2]
 exact List.take_of_length_le (by rw [List.length_drop]; omega)
theorem cutL_take {α:Type} {xs:List α} {i:Int} (h0:0≤i) (h1:i≤xs.length):cutL xs none (some i)=xs.take i.toNat:=by
 unfold cutL
 have e1:HT.sIx xs.length xs.length (some i)=i.toNat:=by
  unfold HT.sIx
  first | omega | (simp only []; split <;> omega) | (split <;> omega) | (dsimp only; split <;> (try split) <;> omega)
 have e2:HT.sIx xs.length 0 none=0:=rfl
 rw [e1,e2]
 rfl
end L3
namespace L3
open PySem L2
section
variable {K:PySem.W.Frag} {R:Hp} {W:Addr→Prop} {B B' H H':Hp} {σ:St} {ρ:List Sl}
theorem Ev.after2 {W':Addr→Prop} (e:Ev K R W B H σ ρ) (hW:∀ a,W' a→R a=none∧∀ i,¬ MutAt σ ρ i a) (wd:Wd H W' B' H') (g:Grow H B B'):Ev K R W B' H' σ ρ∧Grow R B B':=by
 have nb:∀ a,B a=none→H a≠none→B' a=none:=fun a h1 h2=>by
  cases q:B' a with
  | none=>rfl
  | some o =>
   rcases g.n a o q with z | z
   ·rw [h1] at z; cases z
   ·exact absurd z h2
 have st:∀ a,¬ W' a→H a≠none→H' a=H a:=fun a h1 h2=>by
  cases q:H a with
  | none=>exact absurd q h2
  | some o=>exact wd.fr a o q h1
 have bagS:∀ a,¬ W' a→Bag H a→Bag H' a:=fun a h1 ⟨x,y,e1,q⟩=>⟨x,y,by rw [st a h1 (by rw [e1]; simp)]; exact e1,q⟩
 have bagN:∀ a,Bag H a→H a≠none:=fun a ⟨x,y,e1,_⟩=>by rw [e1]; simp
 have nW:∀ a,W a→¬ W' a:=fun a h z=>e.wr a h (hW a z).1
 refine ⟨e.move ⟨fun a o h nw=>?_,wd.bh,fun a h=>nb a (e.wb a h) (bagN a (e.wh a h)),fun a h=>bagS a (nW a h) (e.wh a h),e.wr⟩ g.s (fun i a m=>⟨nb a (e.mutOk m).1 (e.mutOk m).2,fun z=>?_,fun z=>?_⟩),⟨g.s,fun a o h=>?_⟩⟩
 ·refine wd.fr a o (e.fr a o h nw) fun z=>?_
  rw [(hW a z).1] at h; cases h
 ·obtain ⟨b,y1,_,_,y4⟩:=e.bagAt z
  rw [mut_bag m z] at y1; cases y1
  exact bagS _ (fun q=>(hW _ q).2 i m) y4
 ·exact st a (fun q=>(hW a q).2 i m) (e.mutOk m).2
 ·rcases g.n a o h with z | z
  ·exact .inl z
  ·exact .inr (e.toWd.fresh z).1
end
section
variable {X:Cx} {F:FS} {pos p:Pos} {a0:Expr}
end
section
variable {X:Cx} {e:Expr} {u:UE} {pos p:Pos}
end
end L3
namespace L3
open PySem L2
section
variable {X:Cx} {e:Expr} {u:UE} {pos p:Pos}
end
section
variable {K:PySem.W.Frag}
end
end L3
namespace Cut
open PySem L2 L3
open PySem.Builtin.Int (intBits)
def dP (p:Int×Int×Int):D:=.tup [.int p.1,.int p.2.1,.int p.2.2]
def g3 (a b n:Int):Int:=((Int.gcd (Int.gcd a n:Nat) b:Nat):Int)
def gsp (a b n:Int):Int:=if n < 0 then -g3 a b n else g3 a b n
def npt (a b n:Int):Int×Int×Int:=(a.fdiv (gsp a b n),b.fdiv (gsp a b n),n.fdiv (gsp a b n))
theorem npt_spec {a b n:Int} (hn:n≠0):Pt (npt a b n).1 (npt a b n).2.1 (npt a b n).2.2∧(npt a b n).1 * n=a * (npt a b n).2.2∧(npt a b n).2.1 * n=b * (npt a b n).2.2∧(npt a b n).1.natAbs≤a.natAbs∧(npt a b n).2.1.natAbs≤b.natAbs∧(npt a b n).2.2.natAbs≤n.natAbs:=by
 unfold npt gsp
 split
 ·exact pt_of hn rfl (.inr ⟨rfl,by assumption⟩)
 ·exact pt_of hn rfl (.inl ⟨rfl,by omega⟩)
theorem g3_xy (a b n:Int):((Int.gcd (Int.gcd a b:Nat) n:Nat):Int)=g3 a b n:=by
 unfold g3
 rw [gcd3]
 rfl
theorem g3_pos {a b n:Int} (hn:n≠0):0 < g3 a b n:=gcd3_pos hn
theorem g3_bits {a b n:Int} {k:Nat} (hn:n≠0) (h:intBits n≤k):intBits (g3 a b n)≤k:=gcd3_bits hn h
theorem gcd_bits {a b:Int} {k:Nat} (hb:b≠0) (h:intBits b≤k):intBits ((Int.gcd a b:Nat):Int)≤k:=by
 refine intBits_le_of_natAbs ?_ h
 exact Nat.le_of_dvd (by omega) (by simpa using Int.natAbs_dvd_natAbs.mpr (Int.gcd_dvd_right a b))
theorem fdiv_of {a s x:Int} (h:a=s * x) (s0:s≠0):a.fdiv s=x:=by rw [h]; exact Int.mul_fdiv_cancel_left x s0
theorem gcd_fac {a b s x y:Int} (h1:a=s * x) (h2:b=s * y):Int.gcd a b=s.natAbs * Int.gcd x y:=by rw [h1,h2,Int.gcd_mul_left]
theorem dP_inj {p q:Int×Int×Int} (h:dP p=dP q):p=q:=by
 obtain ⟨a,b,c⟩:=p
 obtain ⟨d,e,f⟩:=q
 unfold dP at h
 cases h
 rfl
end Cut
namespace Cut
open PySem L2 L3
open PySem.Builtin.Int (intBits)
end Cut
namespace Cut
open PySem L2 L3
open PySem.Builtin.Int (intBits)
end Cut
namespace Cut
open PySem L2 L3
open PySem.Builtin.Int (intBits)
abbrev P3:=Int×Int×Int
def crs (p q:P3):P3:=(p.2.1 * q.2.2 - p.2.2 * q.2.1,p.2.2 * q.1 - p.1 * q.2.2,p.1 * q.2.1 - p.2.1 * q.1)
def sc (c:Int) (p:P3):P3:=(c * p.1,c * p.2.1,c * p.2.2)
def nP (p:P3):P3:=npt p.1 p.2.1 p.2.2
theorem p3_ext {p q:P3} (h1:p.1=q.1) (h2:p.2.1=q.2.1) (h3:p.2.2=q.2.2):p=q:=Prod.ext h1 (Prod.ext h2 h3)
variable {P:Program} {w:World} {K:PySem.W.Frag} {mg:Str→Option Value} {base:Heap}
theorem sc_out {c d:Int} {p q:P3} (h:sc c p=sc d q):c * p.1=d * q.1∧c * p.2.1=d * q.2.1∧c * p.2.2=d * q.2.2 :=
 ⟨congrArg (·.1) h,congrArg (·.2.1) h,congrArg (·.2.2) h⟩
theorem crs_sc (c d:Int) (p q:P3):crs (sc c p) (sc d q)=sc (c * d) (crs p q):=by
 refine p3_ext ?_ ?_ ?_ <;> simp only [crs,sc] <;> grind
theorem sc_sc (c d:Int) (p:P3):sc c (sc d p)=sc (c * d) p:=by
 refine p3_ext ?_ ?_ ?_ <;> simp only [sc] <;> grind
theorem nP_sc {p:P3} (hn:p.2.2≠0):∃ g,g≠0∧p=sc g (nP p):=by
 obtain ⟨pt,e1,e2,_⟩:=npt_spec (a:=p.1) (b:=p.2.1) hn
 have z0:(nP p).2.2≠0:=Int.ne_of_gt pt.1
 obtain ⟨g,hg⟩:=pt_dvd pt.2 e1 e2
 have g0:g≠0:=fun z=>hn (by rw [hg,z,Int.mul_zero])
 refine ⟨g,g0,p3_ext ?_ ?_ ?_⟩
 ·refine Int.eq_of_mul_eq_mul_right z0 ?_
  show p.1 * (npt p.1 p.2.1 p.2.2).2.2=g * (npt p.1 p.2.1 p.2.2).1 * (npt p.1 p.2.1 p.2.2).2.2
  rw [← e1]
  grind
 ·refine Int.eq_of_mul_eq_mul_right z0 ?_
  show p.2.1 * (npt p.1 p.2.1 p.2.2).2.2=g * (npt p.1 p.2.1 p.2.2).2.1 * (npt p.1 p.2.1 p.2.2).2.2
  rw [← e2]
  grind
 ·show p.2.2=g * (npt p.1 p.2.1 p.2.2).2.2
  rw [Int.mul_comm]
  exact hg
abbrev PtP (p:P3):Prop:=Pt p.1 p.2.1 p.2.2
theorem nP_pt {p:P3} (hn:p.2.2≠0):PtP (nP p):=(npt_spec hn).1
theorem nP_of_sc {M h:P3} {G c:Int} (hG:G≠0) (hc:c≠0) (hp:PtP h) (e:sc G M=sc c h):M.2.2≠0∧nP M=h:=by
 obtain ⟨e1,e2,e3⟩:=sc_out e
 have h0:h.2.2≠0:=Int.ne_of_gt hp.1
 have m0:M.2.2≠0:=fun z=>by
  rw [z,Int.mul_zero] at e3
  exact Int.mul_ne_zero hc h0 e3.symm
 refine ⟨m0,?_⟩
 obtain ⟨pt,f1,f2,_⟩:=npt_spec (a:=M.1) (b:=M.2.1) m0
 have k1:M.1 * h.2.2=h.1 * M.2.2:=Int.eq_of_mul_eq_mul_left (Int.mul_ne_zero hG hc) (by grind)
 have k2:M.2.1 * h.2.2=h.2.1 * M.2.2:=Int.eq_of_mul_eq_mul_left (Int.mul_ne_zero hG hc) (by grind)
 obtain ⟨q1,q2,q3⟩:=pt_uniq pt hp (Int.eq_of_mul_eq_mul_right m0 (by grind)) (Int.eq_of_mul_eq_mul_right m0 (by grind))
 exact p3_ext q1 q2 q3
theorem nP_self {h:P3} (hp:PtP h):nP h=h:=(nP_of_sc (M:=h) (h:=h) (G:=1) (c:=1) (by decide) (by decide) hp rfl).2
structure BP (m:Nat) (p:P3):Prop where
 a:intBits p.1≤m
 b:intBits p.2.1≤m
 c:intBits p.2.2≤m
theorem BP.mono {m n:Nat} {p:P3} (h:BP m p) (l:m≤n):BP n p:=⟨Nat.le_trans h.a l,Nat.le_trans h.b l,Nat.le_trans h.c l⟩
theorem BP.nP {m:Nat} {p:P3} (h:BP m p) (hn:p.2.2≠0):BP m (Cut.nP p):=by
 obtain ⟨_,_,_,c1,c2,c3⟩:=npt_spec (a:=p.1) (b:=p.2.1) hn
 exact ⟨bits_of_abs c1 h.a,bits_of_abs c2 h.b,bits_of_abs c3 h.c⟩
theorem BP.crs {m n:Nat} {p q:P3} (hp:BP m p) (hq:BP n q):BP (m + n + 1) (Cut.crs p q):=by
 have e:∀ {x y u v:Int},intBits x≤m→intBits y≤n→intBits u≤m→intBits v≤n→intBits (x * y - u * v)≤m + n + 1:=fun a b c d=>Nat.le_trans (intBits_sub_le (intBits_mul_le a b) (intBits_mul_le c d)) (by omega)
 exact ⟨e hp.b hq.c hp.c hq.b,e hp.c hq.a hp.a hq.c,e hp.a hq.b hp.b hq.a⟩
end Cut
namespace PySem
open Sem (wp)
abbrev IsZ (h:Heap) (z TI TO:Addr) (f0 f1:Value):Prop :=
 h.get? z=some { cls:=.type "zip", dict:=none,data:=.fields #[f0,f1,.bool false,.ref TI,.ref TO],slots := #[] }
section
variable {prog:Program} {w:World} {A:Around} {E:Value→Shared→Prop} {s:Shared}
theorem wpAny_alive {a:Addr} {Q:Option Obj→Shared→Prop} (h:Q (s.heap.get? a) s):wpAny (model prog w) A (loadIfAlive a) Q E s:=fun _ _ _=>h
theorem zip_notFree {z TI TO T:Addr} {b:Bool} {oT:Obj} {Q:Bool→Shared→Prop} (hz:IsZ s.heap z TI TO (rawInt T) (.bool b)) (hT:s.heap.get? T=some oT)
  (hQ:∀ h',IsZ h' z TI TO (rawInt T) (.bool true)→Heap.SameBut z s.heap h'→Q false { s with heap:=h' }):wpAny (model prog w) A (Builtin.SmallTypes.ownedTupleIsFree (.ref z)) Q E s:=by
 unfold Builtin.SmallTypes.ownedTupleIsFree
 refine wpAny_bind (wpAny_field hz rfl (x:=rawInt T) rfl ?_)
 show wpAny _ _ (loadIfAlive ((T:Int).toNat) >>= _) _ _ _
 rw [Int.toNat_natCast]
 refine wpAny_bind (wpAny_alive ?_)
 rw [hT]
 show wpAny _ _ (field (.ref z) 1 >>= _) _ _ _
 refine wpAny_bind (wpAny_field hz rfl (x:=.bool b) rfl ?_)
 cases b with
 | true =>
  show wpAny _ _ (pure false) _ _ _
  exact wpAny_pure (hQ s.heap hz ⟨rfl,fun _ _=>rfl⟩)
 | false =>
  show wpAny _ _ (setField (.ref z) 1 (.bool true) >>= fun _=>pure false) _ _ _
  exact wpAny_bind (wpAny_setField_rec hz (by simp) fun h' hz' hs'=>wpAny_pure (hQ h' hz' hs'))
theorem zip_next_item2 {z TI TO i1 i2 l1 l2 T:Addr} {f1:Bool} {oT:Obj} {k1 k2:Nat} {xs ys:Array Value} {x y:Value} {Q:Value→Shared→Prop} (D:ZipApart z TI TO i1 i2 l1 l2)
  (hz:IsZ s.heap z TI TO (rawInt T) (.bool f1)) (hT:s.heap.get? T=some oT) (hTI:IsPair s.heap TI (.ref i1) (.ref i2))
  (h1:s.heap.IsListIter i1 l1 k1) (h2:s.heap.IsListIter i2 l2 k2) (hl1:s.heap.IsList l1 xs) (hl2:s.heap.IsList l2 ys) (hx:xs[k1]?=some x) (hy:ys[k2]?=some y)
  (hQ:∀ h',IsZ h' z TI TO (rawInt T) (.bool true)→h'.IsListIter i1 l1 (k1 + 1)→h'.IsListIter i2 l2 (k2 + 1)→IsPair h' s.heap.objs.size x y→h'.objs.size=s.heap.objs.size + 1 →
   (∀ c o,c≠z→c≠i1→c≠i2→s.heap.get? c=some o→h'.get? c=some o)→Q (.ref s.heap.objs.size) { s with heap:=h' }) :
  wpAny (model prog w) A (Builtin.«zip.__next__» ⟨[.ref z],[]⟩) (fun fin s'=>∃ v,fin=.done (.ret v)∧Q v s') E s:=by
 show wpAny _ _ (field (.ref z) 2 >>= _) _ _ _
 refine wpAny_bind (wpAny_field hz rfl (x:=.bool false) rfl ?_)
 show wpAny _ _ (field (.ref z) 3 >>= _) _ _ _
 refine wpAny_bind (wpAny_field hz rfl (x:=.ref TI) rfl ?_)
 refine wpAny_bind (wpAny_seqItems hTI rfl ?_)
 show wpAny _ _ (Builtin.SmallTypes.ownedTupleIsFree (.ref z) >>= _) _ _ _
 refine wpAny_bind (zip_notFree hz hT fun h₁ hz₁ hs₁=>?_)
 simp only [Bool.false_eq_true,if_false]
 refine wpAny_bind ?_
 simp only [← Array.forIn_toList,List.forIn_cons,List.forIn_nil]
 refine wpAny_bind (wpAny_bind (wpAny_holding ?_))
 show wpAny _ _ (Builtin.SmallTypes.nextOf (.ref i1) >>= _) _ _ _
 refine wpAny_bind (wpAny_nextOf_list_item (h1.extBut hs₁.extBut D.i1z) (hl1.extBut hs₁.extBut D.l1z) hx fun h₂ h1₂ hs₂=>wpAny_pure ?_)
 refine wpAny_pure ?_
 refine wpAny_bind (wpAny_bind (wpAny_holding ?_))
 show wpAny _ _ (Builtin.SmallTypes.nextOf (.ref i2) >>= _) _ _ _
 refine wpAny_bind (wpAny_nextOf_list_item ((h2.extBut hs₁.extBut D.i2z).extBut hs₂.extBut D.i12.symm) ((hl2.extBut hs₁.extBut D.l2z).extBut hs₂.extBut D.l2i1) hy fun h₃ h2₃ hs₃=>wpAny_pure ?_)
 refine wpAny_pure (wpAny_pure ?_)
 refine wpAny_bind (wpAny_newTuple (hsz:=by show 2≤sizeLine; decide) ?_)
 have hsz:h₃.objs.size=s.heap.objs.size:=by rw [hs₃.1,hs₂.1,hs₁.1]
 have hz₃:IsZ h₃ z TI TO (rawInt T) (.bool true):=hs₃.extBut _ _ D.i2z.symm (hs₂.extBut _ _ D.i1z.symm hz₁)
 have hk₃:∀ c o,c≠z→c≠i1→c≠i2→s.heap.get? c=some o→h₃.get? c=some o:=fun c o c1 c3 c4 e=>hs₃.extBut _ _ c4 (hs₂.extBut _ _ c3 (hs₁.extBut _ _ c1 e))
 have h1₃:h₃.IsListIter i1 l1 (k1 + 1):=h1₂.extBut hs₃.extBut D.i12
 refine wpAny_pure ⟨_,rfl,?_⟩
 show Q (.ref h₃.objs.size) _
 rw [hsz]
 refine hQ _ (Heap.get?_push_of_some _ hz₃) (h1₃.at fun o e=>Heap.get?_push_of_some _ e) (h2₃.at fun o e=>Heap.get?_push_of_some _ e) ?_ (by rw [Heap.size_push,hsz]) fun c o c1 c2 c3 e=>Heap.get?_push_of_some _ (hk₃ c o c1 c2 c3 e)
 have:=Heap.get?_push_size h₃ (o:={ cls:=.type "tuple", data:=.seq #[x,y] }) rfl
 rw [hsz] at this
 exact this
theorem zip_next_end2 {z TI TO i1 i2 l1 l2 T:Addr} {f1:Bool} {oT:Obj} {k1 k2:Nat} {xs ys:Array Value} {Q:Fin→Shared→Prop} (hh:A.handled=none) (D:ZipApart z TI TO i1 i2 l1 l2)
  (hz:IsZ s.heap z TI TO (rawInt T) (.bool f1)) (hT:s.heap.get? T=some oT) (hTI:IsPair s.heap TI (.ref i1) (.ref i2))
  (h1:s.heap.IsListIter i1 l1 k1) (h2:s.heap.IsListIter i2 l2 k2) (hl1:s.heap.IsList l1 xs) (hl2:s.heap.IsList l2 ys) (hend:xs[k1]?=none∨ys[k2]?=none)
  (hE:∀ h' e,(∀ c o,c≠z→c≠i1→c≠i2→s.heap.get? c=some o→h'.get? c=some o)→(∃ o,h'.get? e=some o∧o.cls=.type "StopIteration")→E (.ref e) { s with heap:=h' }) :
  wpAny (model prog w) A (Builtin.«zip.__next__» ⟨[.ref z],[]⟩) Q E s:=by
 show wpAny _ _ (field (.ref z) 2 >>= _) _ _ _
 refine wpAny_bind (wpAny_field hz rfl (x:=.bool false) rfl ?_)
 show wpAny _ _ (field (.ref z) 3 >>= _) _ _ _
 refine wpAny_bind (wpAny_field hz rfl (x:=.ref TI) rfl ?_)
 refine wpAny_bind (wpAny_seqItems hTI rfl ?_)
 show wpAny _ _ (Builtin.SmallTypes.ownedTupleIsFree (.ref z) >>= _) _ _ _
 refine wpAny_bind (zip_notFree hz hT fun h₁ hz₁ hs₁=>?_)
 simp only [Bool.false_eq_true,if_false]
 refine wpAny_bind ?_
 simp only [← Array.forIn_toList,List.forIn_cons,List.forIn_nil]
 refine wpAny_bind (wpAny_bind (wpAny_holding ?_))
 show wpAny _ _ (Builtin.SmallTypes.nextOf (.ref i1) >>= _) _ _ _
 cases hx:xs[k1]? with
 | none =>
  exact wpAny_bind (wpAny_nextOf_list_end hh (h1.extBut hs₁.extBut D.i1z) (hl1.extBut hs₁.extBut D.l1z) hx fun h₂ e hs₂ he=>hE h₂ e (fun c o c1 c3 _ x=>hs₂ _ _ c3 (hs₁.extBut _ _ c1 x)) he)
 | some x =>
  have hy:ys[k2]?=none:=by rcases hend with h | h; rw [hx] at h; cases h; exact h
  refine wpAny_bind (wpAny_nextOf_list_item (h1.extBut hs₁.extBut D.i1z) (hl1.extBut hs₁.extBut D.l1z) hx fun h₂ h1₂ hs₂=>wpAny_pure ?_)
  refine wpAny_pure ?_
  refine wpAny_bind (wpAny_bind (wpAny_holding ?_))
  show wpAny _ _ (Builtin.SmallTypes.nextOf (.ref i2) >>= _) _ _ _
  exact wpAny_bind (wpAny_nextOf_list_end hh ((h2.extBut hs₁.extBut D.i2z).extBut hs₂.extBut D.i12.symm) ((hl2.extBut hs₁.extBut D.l2z).extBut hs₂.extBut D.l2i1) hy fun h₄ e hs₄ he=>hE h₄ e (fun c o c1 c3 c4 x=>hs₄ _ _ c4 (hs₂.extBut _ _ c3 (hs₁.extBut _ _ c1 x))) he)
structure ZSt (S z TI TO i1 i2 l1 l2:Addr) (xs ys:Array Value) (i:Nat) (h:Heap):Prop where
 fl:(IsZ h z TI TO .none (.bool false)∧∃ a b,IsPair h TO a b)∨∃ (T:Addr) (b:Bool) (oT:Obj),IsZ h z TI TO (rawInt T) (.bool b)∧h.get? T=some oT∧T≠z∧T≠i1∧T≠i2∧T≠S
 tp:IsPair h TI (.ref i1) (.ref i2)
 it1:h.IsListIter i1 l1 i
 it2:h.IsListIter i2 l2 i
 ls1:h.IsList l1 xs
 ls2:h.IsList l2 ys
theorem ZSt.frame {S z TI TO i1 i2 l1 l2:Addr} {xs ys:Array Value} {i:Nat} {h h':Heap} (Z:ZSt S z TI TO i1 i2 l1 l2 xs ys i h) (nS:S ∉ [z,TI,TO,i1,i2,l1,l2]) (k:∀ c o,c≠S→h.get? c=some o→h'.get? c=some o):ZSt S z TI TO i1 i2 l1 l2 xs ys i h':=by
 have ne:∀ c,c∈[z,TI,TO,i1,i2,l1,l2]→c≠S:=fun c hc e=>nS (e ▸ hc)
 refine ⟨?_,k _ _ (ne _ (by simp)) Z.tp,Z.it1.at fun o e=>k _ o (ne _ (by simp)) e,Z.it2.at fun o e=>k _ o (ne _ (by simp)) e,Z.ls1.at fun o e=>k _ o (ne _ (by simp)) e,Z.ls2.at fun o e=>k _ o (ne _ (by simp)) e⟩
 rcases Z.fl with ⟨h1,a,b,h2⟩ | ⟨T,b,oT,h1,h2,h3,h4,h5,h6⟩
 ·exact .inl ⟨k _ _ (ne _ (by simp)) h1,a,b,k _ _ (ne _ (by simp)) h2⟩
 ·exact .inr ⟨T,b,oT,k _ _ (ne _ (by simp)) h1,k _ _ h6 h2,h3,h4,h5,h6⟩
theorem zip_step {S z TI TO i1 i2 l1 l2:Addr} {xs ys:Array Value} {i:Nat} {x y:Value} {Q:Option Value→Shared→Prop} (D:ZipApart z TI TO i1 i2 l1 l2) (Z:ZSt S z TI TO i1 i2 l1 l2 xs ys i s.heap) (hS:S < s.heap.objs.size) (hx:xs[i]?=some x) (hy:ys[i]?=some y)
  (hQ:∀ h',ZSt S z TI TO i1 i2 l1 l2 xs ys (i + 1) h'→IsPair h' s.heap.objs.size x y→h'.objs.size=s.heap.objs.size + 1→(∀ c o,c≠z→c≠TO→c≠i1→c≠i2→s.heap.get? c=some o→h'.get? c=some o)→Q (some (.ref s.heap.objs.size)) { s with heap:=h' }) :
  wpAny (model prog w) A (pyNext (.ref z)) Q E s:=by
 have lt1:i1 < s.heap.objs.size:=by obtain ⟨_,e,_⟩:=Z.it1; exact Heap.lt_size e
 have lt2:i2 < s.heap.objs.size:=by obtain ⟨_,e,_⟩:=Z.it2; exact Heap.lt_size e
 rcases Z.fl with ⟨hz,a,b,hTO⟩ | ⟨T,b,oT,hz,hT,t1,t2,t3,t4⟩
 ·have ltz:z < s.heap.objs.size:=Heap.lt_size hz
  refine wpAny_pyNext_zip_item D hz Z.tp hTO Z.it1 Z.it2 Z.ls1 Z.ls2 hx hy fun h' a1 a2 a3 a4 a5 a6 hk=>?_
  exact hQ h' ⟨.inr ⟨_,false,_,a1,a5,Nat.ne_of_gt ltz,Nat.ne_of_gt lt1,Nat.ne_of_gt lt2,Nat.ne_of_gt hS⟩,hk _ _ D.TIz D.TITO D.TIi1 D.TIi2 Z.tp,a3,a4,Z.ls1.at fun o e=>hk _ o D.l1z D.l1TO D.l1i1 D.l1i2 e,Z.ls2.at fun o e=>hk _ o D.l2z D.l2TO D.l2i1 D.l2i2 e⟩ a5 a6 hk
 ·have hTy:s.TypeIs (.ref z) "zip" := ⟨_,hz,rfl⟩
  unfold pyNext
  refine wpAny_bind (wpAny_attempt (wpAny_callSpecial?_slot (name:=Str.ofString "__next__") hTy F.slot_zip_next
   (wpAny_call_entry F.slot_zip_next hTy F.entry_zip_next
    (zip_next_item2 D hz hT Z.tp Z.it1 Z.it2 Z.ls1 Z.ls2 hx hy fun h' a1 a3 a4 a5 a6 hk=>wpAny_pure ?_) (F.args_zip_next_1 _))))
  exact hQ h' ⟨.inr ⟨T,true,oT,a1,hk _ _ t1 t2 t3 hT,t1,t2,t3,t4⟩,hk _ _ D.TIz D.TIi1 D.TIi2 Z.tp,a3,a4,Z.ls1.at fun o e=>hk _ o D.l1z D.l1i1 D.l1i2 e,Z.ls2.at fun o e=>hk _ o D.l2z D.l2i1 D.l2i2 e⟩ a5 a6 fun c o c1 _ c3 c4 e=>hk c o c1 c3 c4 e
theorem zip_stop {S z TI TO i1 i2 l1 l2:Addr} {xs ys:Array Value} {i:Nat} {Q:Option Value→Shared→Prop} (hh:A.handled=none) (D:ZipApart z TI TO i1 i2 l1 l2) (Z:ZSt S z TI TO i1 i2 l1 l2 xs ys i s.heap) (hend:xs[i]?=none∨ys[i]?=none)
  (hQ:∀ h',(∀ c o,c≠z→c≠TO→c≠i1→c≠i2→s.heap.get? c=some o→h'.get? c=some o)→Q none { s with heap:=h' }) :
  wpAny (model prog w) A (pyNext (.ref z)) Q E s:=by
 rcases Z.fl with ⟨hz,a,b,hTO⟩ | ⟨T,b,oT,hz,hT,t1,t2,t3,t4⟩
 ·exact wpAny_pyNext_zip_end hh D hz Z.tp hTO Z.it1 Z.it2 Z.ls1 Z.ls2 hend hQ
 ·have hTy:s.TypeIs (.ref z) "zip" := ⟨_,hz,rfl⟩
  unfold pyNext
  refine wpAny_bind (wpAny_attempt (wpAny_callSpecial?_slot (name:=Str.ofString "__next__") hTy F.slot_zip_next
   (wpAny_call_entry F.slot_zip_next hTy F.entry_zip_next (zip_next_end2 hh D hz hT Z.tp Z.it1 Z.it2 Z.ls1 Z.ls2 hend fun h' e hk he=>?_) (F.args_zip_next_1 _))))
  obtain ⟨o,ho,hc⟩:=he
  refine wpAny_bind (wpAny_isInstance (T := "StopIteration") (b:=true) ⟨o,ho,hc⟩ isSubtype_stop ?_)
  exact wpAny_pure (hQ _ fun c o c1 _ c3 c4 e=>hk c o c1 c3 c4 e)
end
structure Got (lo:Nat) (av:List Addr) (xs ys:Array Value) (h:Heap) (ts:List Addr):Prop where
 nd:ts.Nodup
 new:∀ t∈ts,lo≤t∧t ∉ av
 pair:∀ (j:Nat) (t:Addr),ts[j]?=some t→∃ x y,xs[j]?=some x∧ys[j]?=some y∧IsPair h t x y
theorem Got.frame {lo:Nat} {av:List Addr} {xs ys:Array Value} {h h':Heap} {ts:List Addr} (g:Got lo av xs ys h ts) (k:∀ c o,c ∉ av→h.get? c=some o→h'.get? c=some o):Got lo av xs ys h' ts :=
 ⟨g.nd,g.new,fun j t e=>let ⟨x,y,h1,h2,h3⟩:=g.pair j t e; ⟨x,y,h1,h2,k t _ (g.new t (List.mem_of_getElem? e)).2 h3⟩⟩
section
variable {prog:Program} {w:World} {A:Around} {R:Result→Shared→Prop}
theorem zip_loop {S z TI TO i1 i2 l1 l2:Addr} {xs ys:Array Value} {lo n:Nat} (hh:A.in1.handled=none) (D:ZipApart z TI TO i1 i2 l1 l2) (nS:S ∉ [z,TI,TO,i1,i2,l1,l2]) (hn:n≤sizeLine) (en:n=min xs.size ys.size) (hav:∀ a∈[z,TO,i1,i2,S],a < lo) (res:Value) :
  ∀ (k i:Nat) (s:Shared) (ts:List Addr) (c:Nat),n - i=k→i≤n→lo≤s.heap.objs.size→ZSt S z TI TO i1 i2 l1 l2 xs ys i s.heap→s.heap.get? S=some { cls:=.type "list", dict:=none,data:=.seq (ts.map Value.ref).toArray c,slots := #[] }→ts.length=i→Got lo [z,TO,i1,i2,S] xs ys s.heap ts →
  (∀ h' ts' c',h'.get? S=some { cls:=.type "list", dict:=none,data:=.seq (ts'.map Value.ref).toArray c',slots := #[] }→ts'.length=n→Got lo [z,TO,i1,i2,S] xs ys h' ts'→(∀ c o,c ∉ [z,TO,i1,i2,S]→s.heap.get? c=some o→h'.get? c=some o)→R (.ok (.ret res)) { s with heap:=h' }) →
  codeAny (model prog w) A (.builtin "list.extend.loop" ⟨[.ref S,.ref z,res],[]⟩) R s:=by
 intro k
 induction k with
 | zero =>
  intro i s ts c hk hi hlo hst hS hl hg hR
  have hin:i=n:=by omega
  subst hin
  refine codeAny_builtin F.entry_extend_loop ?_
  rw [Around.under_plainId F.plain_extend_loop _]
  show wpAny _ A.in1 (pyNext (.ref z) >>= _) _ _ s
  refine wpAny_bind (zip_stop hh D hst ?_ fun h' hk'=>?_)
  ·rcases Nat.le_total xs.size ys.size with h | h
   ·exact .inl (Array.getElem?_eq_none (by omega))
   ·exact .inr (Array.getElem?_eq_none (by omega))
  have k2:∀ c o,c ∉ [z,TO,i1,i2,S]→s.heap.get? c=some o→h'.get? c=some o:=fun c o hc e=>hk' c o (fun h=>hc (by simp [h])) (fun h=>hc (by simp [h])) (fun h=>hc (by simp [h])) (fun h=>hc (by simp [h])) e
  exact wpAny_pure (hR h' ts c (hk' S _ (fun h=>nS (by simp [h])) (fun h=>nS (by simp [h])) (fun h=>nS (by simp [h])) (fun h=>nS (by simp [h])) hS) hl (hg.frame k2) k2)
 | succ k ih =>
  intro i s ts c hk hi hlo hst hS hl hg hR
  have hlt:i < n:=by omega
  refine codeAny_builtin F.entry_extend_loop ?_
  rw [Around.under_plainId F.plain_extend_loop _]
  show wpAny _ A.in1 (pyNext (.ref z) >>= _) _ _ s
  have hx:xs[i]?=some xs[i]:=Array.getElem?_eq_getElem (by omega)
  have hy:ys[i]?=some ys[i]:=Array.getElem?_eq_getElem (by omega)
  refine wpAny_bind (zip_step D hst (Heap.lt_size hS) hx hy fun h' Z' pr sz hk'=>?_)
  have hS':h'.get? S=_:=hk' S _ (fun h=>nS (by simp [h])) (fun h=>nS (by simp [h])) (fun h=>nS (by simp [h])) (fun h=>nS (by simp [h])) hS
  have k2:∀ c o,c ∉ [z,TO,i1,i2,S]→s.heap.get? c=some o→h'.get? c=some o:=fun c o hc e=>hk' c o (fun h=>hc (by simp [h])) (fun h=>hc (by simp [h])) (fun h=>hc (by simp [h])) (fun h=>hc (by simp [h])) e
  have ltS:S < s.heap.objs.size:=Heap.lt_size hS
  have nav:s.heap.objs.size ∉ [z,TO,i1,i2,S]:=fun hm=>by
   exact absurd (hav _ hm) (Nat.not_lt.mpr hlo)
  show wpAny _ A.in1 (updateSeq S (·.push (.ref s.heap.objs.size)) >>= _) _ _ _
  refine wpAny_bind ?_
  have sz1:(ts.map Value.ref).toArray.size=i:=by simp [hl]
  have sb:Heap.SameBut S h' (h'.update S (Obj.mapSeq (·.push (Value.ref s.heap.objs.size)))):=Heap.SameBut.update ..
  have e1:(ts.map Value.ref).toArray.push (.ref s.heap.objs.size)=((ts ++ [s.heap.objs.size]).map Value.ref).toArray:=by simp
  have hS₂:=Heap.get?_update_self (Obj.mapSeq (·.push (Value.ref s.heap.objs.size))) hS' rfl
  replace hS₂:(h'.update S (Obj.mapSeq (·.push (Value.ref s.heap.objs.size)))).get? S=some { cls:=.type "list", dict:=none,data:=.seq ((ts.map Value.ref).toArray.push (.ref s.heap.objs.size)) _,slots := #[] }:=hS₂
  rw [e1] at hS₂
  refine wpAny_updateSeq hS' rfl (wpAny_pure ⟨plainId_quiet F.plain_extend_loop _,ih (i + 1) _ (ts ++ [s.heap.objs.size]) _ (by omega) hlt ?_ (Z'.frame nS fun c o hc e=>?_) hS₂ (by simp [hl]) ?_ fun h'' ts' c' q1 q2 q3 q4=>?_⟩)
   (by rw [sz1]; omega) (by show (Array.push _ _).size≤sizeLine + 1; rw [Array.size_push,sz1]; omega)
  ·show lo≤(h'.update S (Obj.mapSeq (·.push (Value.ref s.heap.objs.size)))).objs.size
   rw [sb.1,sz]
   omega
  ·exact sb.extBut _ _ hc e
  ·refine Got.frame (h:=h') ⟨?_,fun t ht=>?_,fun j t hj=>?_⟩ fun c o hc e=>sb.extBut _ _ (fun h=>hc (by simp [h])) e
   ·refine List.nodup_append.mpr ⟨hg.nd,by simp,fun a ha b hb e=>?_⟩
    have hb:b=s.heap.objs.size:=by simpa using hb
    subst hb e
    obtain ⟨j,hj⟩:=List.getElem?_of_mem ha
    obtain ⟨_,_,_,_,q⟩:=hg.pair j _ hj
    exact Nat.lt_irrefl _ (Heap.lt_size q)
   ·rcases List.mem_append.mp ht with ht | ht
    ·exact hg.new t ht
    ·have:t=s.heap.objs.size:=by simpa using ht
     subst this
     exact ⟨hlo,nav⟩
   ·rcases Nat.lt_or_ge j ts.length with hjl | hjl
    ·rw [List.getElem?_append_left hjl] at hj
     obtain ⟨x,y,q1,q2,q3⟩:=hg.pair j t hj
     exact ⟨x,y,q1,q2,k2 _ _ (hg.new t (List.mem_of_getElem? hj)).2 q3⟩
    ·rw [List.getElem?_append_right hjl] at hj
     have jl:j - ts.length=0:=by
      rcases Nat.eq_zero_or_pos (j - ts.length) with z | z
      ·exact z
      ·rw [List.getElem?_eq_none (by show 1≤_; omega)] at hj; cases hj
     rw [jl] at hj
     have ej:j=i:=by omega
     subst ej
     cases hj
     exact ⟨_,_,hx,hy,pr⟩
  ·exact hR h'' ts' c' q1 q2 q3 fun c o hc e=>q4 c o hc (sb.extBut _ _ (fun h=>hc (by simp [h])) (k2 c o hc e))
theorem zip_no_len:typeLookup (.type "zip") "__len__" = pure none:=by rw [typeLookup_type,builtinLookup_eq_fast]; kernel_rfl
theorem zip_no_hint:typeLookup (.type "zip") "__length_hint__" = pure none:=by rw [typeLookup_type,builtinLookup_eq_fast]; kernel_rfl
theorem list_init_zip {s:Shared} {S z TI TO i1 i2 l1 l2:Addr} {xs ys:Array Value} {lo n:Nat} (hh:A.in1.handled=none) (D:ZipApart z TI TO i1 i2 l1 l2) (nS:S ∉ [z,TI,TO,i1,i2,l1,l2]) (hn:n≤sizeLine) (en:n=min xs.size ys.size) (hav:∀ a∈[z,TO,i1,i2,S],a < lo)
  (hlo:lo≤s.heap.objs.size) (Z:ZSt S z TI TO i1 i2 l1 l2 xs ys 0 s.heap) (hz0:IsZ s.heap z TI TO .none (.bool false)) (hS:s.heap.get? S=some { cls:=.type "list", data:=.seq #[] })
  (hR:∀ h' ts c',h'.get? S=some { cls:=.type "list", dict:=none,data:=.seq (ts.map Value.ref).toArray c',slots := #[] }→ts.length=n→Got lo [z,TO,i1,i2,S] xs ys h' ts→(∀ c o,c ∉ [z,TO,i1,i2,S]→s.heap.get? c=some o→h'.get? c=some o)→R (.ok (.ret .none)) { s with heap:=h' }) :
  wpAny (model prog w) A.in1 (Builtin.«list.__init__» ⟨[.ref S,.ref z],[]⟩)
   (fun fin s'=>match fin with | .done f=>R (.ok f) s' | .again c'=>c'.quiet=true∧codeAny (model prog w) A c' R s') (fun e s'=>R (.error e) s') s:=by
 have zS:z≠S:=fun h=>nS (by simp [h])
 show wpAny _ A.in1 (do let old ← Builtin.List.listItems (.ref S); Builtin.List.listUpdate (.ref S) (fun _ => #[]); letGo old.toList.reverse; Builtin.List.listExtendWith (.ref S) (.ref z) .none) _ _ s
 refine wpAny_bind ?_
 unfold Builtin.List.listItems
 refine wpAny_bind (wpAny_seqItems hS rfl (wpAny_pure ?_))
 show wpAny _ A.in1 (updateSeq S (fun _ => #[]) >>= fun _=>letGo (#[]:Array Value).toList.reverse >>= fun _=>Builtin.List.listExtendWith (.ref S) (.ref z) .none) _ _ s
 refine wpAny_bind (wpAny_updateSeq hS rfl ?_)
 have sb1:Heap.SameBut S s.heap (s.heap.update S (Obj.mapSeq (fun _=>(#[]:Array Value)))):=Heap.SameBut.update ..
 have hS₂:=Heap.get?_update_self (Obj.mapSeq (fun _=>(#[]:Array Value))) hS rfl
 refine wpAny_bind (wpAny_letGo ?_)
 have hz1:IsZ (s.heap.update S (Obj.mapSeq (fun _=>(#[]:Array Value)))) z TI TO .none (.bool false):=sb1.extBut _ _ zS hz0
 have hT:Shared.TypeIs { s with heap:=s.heap.update S (Obj.mapSeq (fun _=>(#[]:Array Value))) } (.ref z) "zip" := ⟨_,hz1,rfl⟩
 unfold Builtin.List.listExtendWith
 refine wpAny_bind (wpAny_typeOf hT ?_)
 have h1:Builtin.List.listSameRef (.ref S) (.ref z)=false:=by simp [Builtin.List.listSameRef,zS.symm]
 have h2:(Value.type "zip" == Value.type "list")=false:=by decide
 have h3:(Value.type "zip" == Value.type "tuple")=false:=by decide
 simp only [h1,h2,h3,Bool.or_false,Bool.false_eq_true,if_false]
 refine wpAny_bind (wpAny_pyIter_zip hz1 ?_)
 refine wpAny_bind (wpAny_holding ?_)
 unfold Builtin.List.listLengthHint
 refine wpAny_bind (wpAny_specialOf hT zip_no_len ?_)
 show wpAny _ A.in1 (specialOf (Value.ref z) (Str.ofString "__length_hint__") >>= _) _ _ _
 refine wpAny_bind (wpAny_specialOf hT zip_no_hint ?_)
 refine wpAny_pure ?_
 show wpAny _ A.in1 (rule "list.extend.makes-room" >>= fun _=>Builtin.List.listTouch (.ref S) >>= fun _ =>
  again (.builtin "list.extend.loop" ⟨[.ref S,.ref z,.none],[]⟩)) _ _ _
 refine wpAny_bind (wpAny_rule ?_)
 refine wpAny_bind ?_
 show wpAny _ A.in1 (updateSeq S (·.push .none) >>= fun _=>updateSeq S (·.pop)) _ _ _
 refine wpAny_bind (wpAny_updateSeq hS₂ rfl ?_)
 have hS₃:=Heap.get?_update_self (Obj.mapSeq (·.push Value.none)) hS₂ rfl
 refine wpAny_updateSeq (hz:=by seq_fits) hS₃ rfl ?_
 have hS₄:=Heap.get?_update_self (Obj.mapSeq (·.pop)) hS₃ rfl
 have sb2:Heap.SameBut S (s.heap.update S (Obj.mapSeq (fun _=>(#[]:Array Value)))) ((s.heap.update S (Obj.mapSeq (fun _=>(#[]:Array Value)))).update S (Obj.mapSeq (·.push Value.none))):=Heap.SameBut.update ..
 have sb3:Heap.SameBut S ((s.heap.update S (Obj.mapSeq (fun _=>(#[]:Array Value)))).update S (Obj.mapSeq (·.push Value.none))) (((s.heap.update S (Obj.mapSeq (fun _=>(#[]:Array Value)))).update S (Obj.mapSeq (·.push Value.none))).update S (Obj.mapSeq (·.pop))):=Heap.SameBut.update ..
 have oth:∀ b o,b≠S→s.heap.get? b=some o→(((s.heap.update S (Obj.mapSeq (fun _=>(#[]:Array Value)))).update S (Obj.mapSeq (·.push Value.none))).update S (Obj.mapSeq (·.pop))).get? b=some o :=
  fun b o hb e=>sb3.extBut _ _ hb (sb2.extBut _ _ hb (sb1.extBut _ _ hb e))
 refine wpAny_pure ⟨plainId_quiet F.plain_extend_loop _,zip_loop (lo:=lo) (n:=n) hh D nS hn en hav .none n 0 _ [] _ rfl (Nat.zero_le _) ?_ (Z.frame nS fun c o hc e=>oth c o hc e) hS₄ rfl ⟨by simp,by simp,by simp⟩ fun h' ts c' q1 q2 q3 q4=>?_⟩
 ·show lo≤(((s.heap.update S (Obj.mapSeq (fun _=>(#[]:Array Value)))).update S (Obj.mapSeq (·.push Value.none))).update S (Obj.mapSeq (·.pop))).objs.size
  rw [sb3.1,sb2.1,sb1.1]
  exact hlo
 ·exact hR h' ts c' q1 q2 q3 fun c o hc e=>q4 c o hc (oth c o (fun h=>hc (by simp [h])) e)
end
section
variable {prog:Program} {w:World} {A:Around} {E:Value→Shared→Prop} {s:Shared}
theorem call_list_zip {Q:Value→Shared→Prop} {z TI TO i1 i2 l1 l2:Addr} {xs ys:Array Value} {n:Nat} (hh:A.handled=none) (D:ZipApart z TI TO i1 i2 l1 l2) (hn:n≤sizeLine) (en:n=min xs.size ys.size)
  (hz:IsZ s.heap z TI TO .none (.bool false)) (hTO:∃ a b,IsPair s.heap TO a b) (hTI:IsPair s.heap TI (.ref i1) (.ref i2)) (h1:s.heap.IsListIter i1 l1 0) (h2:s.heap.IsListIter i2 l2 0) (hl1:s.heap.IsList l1 xs) (hl2:s.heap.IsList l2 ys)
  (hQ:∀ h' ts c',h'.get? s.heap.objs.size=some { cls:=.type "list", dict:=none,data:=.seq (ts.map Value.ref).toArray c',slots := #[] }→ts.length=n→Got (s.heap.objs.size + 1) [] xs ys h' ts→(∀ c o,c ∉ [z,TO,i1,i2]→s.heap.get? c=some o→h'.get? c=some o)→Q (.ref s.heap.objs.size) { s with heap:=h' }) :
  wpAny (model prog w) A (call (.type "list") [.ref z]) Q E s:=by
 refine callType_codes (Q₁:=fun obj s₁=>obj=.ref s.heap.objs.size∧s₁={ s with heap:=s.heap.push { cls:=.type "list", data:=.seq #[] } }) F.called_list (F.typeCall_list_1 _) F.entry_list_init
  (code_list_new _ ⟨rfl,rfl⟩) fun obj s₁ h₁=>?_
 obtain ⟨rfl,rfl⟩:=h₁
 have hS:(s.heap.push { cls:=.type "list", data:=.seq #[] }).get? s.heap.objs.size=some { cls:=.type "list", data:=.seq #[] }:=Heap.get?_push_size _ rfl
 have up:∀ {b o},s.heap.get? b=some o→(s.heap.push { cls:=.type "list", data:=.seq #[] }).get? b=some o:=fun e=>Heap.get?_push_of_some _ e
 obtain ⟨a,b,hTO⟩:=hTO
 have lz:z < s.heap.objs.size:=Heap.lt_size hz
 have lTI:TI < s.heap.objs.size:=Heap.lt_size hTI
 have lTO:TO < s.heap.objs.size:=Heap.lt_size hTO
 have li1:i1 < s.heap.objs.size:=by obtain ⟨_,e,_⟩:=h1; exact Heap.lt_size e
 have li2:i2 < s.heap.objs.size:=by obtain ⟨_,e,_⟩:=h2; exact Heap.lt_size e
 have ll1:l1 < s.heap.objs.size:=by obtain ⟨_,e,_⟩:=hl1; exact Heap.lt_size e
 have ll2:l2 < s.heap.objs.size:=by obtain ⟨_,e,_⟩:=hl2; exact Heap.lt_size e
 have nS:s.heap.objs.size ∉ [z,TI,TO,i1,i2,l1,l2]:=fun hm=>by
  simp only [List.mem_cons,List.not_mem_nil,or_false] at hm
  have ne:∀ {b:Addr},b < s.heap.objs.size→s.heap.objs.size≠b:=fun l e=>Nat.lt_irrefl _ (Nat.lt_of_lt_of_eq l e)
  rcases hm with h | h | h | h | h | h | h <;> first | exact ne lz h | exact ne lTI h | exact ne lTO h | exact ne li1 h | exact ne li2 h | exact ne ll1 h | exact ne ll2 h
 refine ⟨⟨_,hS,rfl⟩,F.args_list_init_2 _ _,list_init_zip (lo:=s.heap.objs.size + 1) (n:=n) hh D nS hn en ?_ (by rw [Heap.size_push]; exact Nat.le_refl _) ⟨.inl ⟨up hz,a,b,up hTO⟩,up hTI,h1.at fun o e=>up e,h2.at fun o e=>up e,hl1.at fun o e=>up e,hl2.at fun o e=>up e⟩ (up hz) hS fun h' ts c' q1 q2 q3 q4=>⟨rfl,?_⟩⟩
 ·intro a ha
  simp only [List.mem_cons,List.not_mem_nil,or_false] at ha
  rcases ha with rfl | rfl | rfl | rfl | rfl
  ·exact Nat.lt_succ_of_lt lz
  ·exact Nat.lt_succ_of_lt lTO
  ·exact Nat.lt_succ_of_lt li1
  ·exact Nat.lt_succ_of_lt li2
  ·exact Nat.lt_succ_self _
 ·refine hQ h' ts c' q1 q2 ⟨q3.nd,fun t ht=>⟨(q3.new t ht).1,by simp⟩,q3.pair⟩ fun c o hc e=>q4 c o ?_ (up e)
  have:=Heap.lt_size e
  intro hm
  simp only [List.mem_cons,List.not_mem_nil,or_false] at hm hc
  rcases hm with h | h | h | h | h
  ·exact hc (.inl h)
  ·exact hc (.inr (.inl h))
  ·exact hc (.inr (.inr (.inl h)))
  ·exact hc (.inr (.inr (.inr h)))
  ·exact Nat.lt_irrefl _ (Nat.lt_of_lt_of_eq this h.symm)
end
end PySem
namespace L2
open PySem PySem.Spec PyProof.Rows PySem.W
def lays (H:Hp):List Addr→List (V×V)→Hp
 | t :: ts,p :: ps=>lays (upd H t (.tup [p.1,p.2])) ts ps
 | _,_=>H
theorem lays_old:∀ {ts:List Addr} {ps:List (V×V)} {H:Hp} {b:Addr},b ∉ ts→lays H ts ps b=H b
 | [],_,_,_,_=>rfl
 | _ :: _,[],_,_,_=>rfl
 | t :: ts,p :: ps,H,b,h=>by
  show lays (upd H t _) ts ps b=H b
  rw [lays_old (fun z=>h (List.mem_cons_of_mem _ z)),upd_ne (fun z:b=t=>h (by rw [z]; exact List.mem_cons_self))]
theorem lays_cases:∀ {ts:List Addr} {ps:List (V×V)} {H:Hp} {b:Addr} {o:HO},lays H ts ps b=some o→(∃ (j:Nat) (p:V×V),ts[j]?=some b∧ps[j]?=some p∧o=.tup [p.1,p.2])∨H b=some o
 | [],_,_,_,_,h=>.inr h
 | _ :: _,[],_,_,_,h=>.inr h
 | t :: ts,p :: ps,H,b,o,h=>by
  rcases lays_cases (ts:=ts) (ps:=ps) h with ⟨j,q,h1,h2,h3⟩ | h
  ·exact .inl ⟨j + 1,q,by simpa using h1,by simpa using h2,h3⟩
  ·by_cases hb:b=t
   ·subst hb
    rw [upd_same] at h
    cases h
    exact .inl ⟨0,p,rfl,rfl,rfl⟩
   ·rw [upd_ne hb] at h
    exact .inr h
theorem vals_refs2:∀ (ts:List Addr),Vals (ts.map V.ref) (ts.map Value.ref)
 | []=>.nil
 | t :: ts=>.cons rfl (vals_refs2 ts)
theorem neN {x y:Nat} (h:x < y∨y < x):x≠y:=by omega
theorem zipApart_at {n a b:Nat} (ha:a < n) (hb:b < n):ZipApart (n + 4) (n + 2) (n + 3) n (n + 1) a b :=
 ⟨neN (by omega),neN (by omega),neN (by omega),neN (by omega),neN (by omega),neN (by omega),neN (by omega),neN (by omega),neN (by omega),neN (by omega),neN (by omega),neN (by omega),neN (by omega),neN (by omega),neN (by omega),neN (by omega),neN (by omega),neN (by omega)⟩
theorem outN {n c:Nat} (h:c < n) (hm:c∈[n + 4,n + 3,n,n + 1]):False:=by
 simp only [List.mem_cons,List.not_mem_nil,or_false] at hm
 omega
section
variable {X:Cx}
def tLZ (t:TA):TE:=fun σ H Q=>t σ H fun vs H1=>∃ a b xs ys,vs=[.ref a,.ref b]∧H1 a=some (.lst xs)∧H1 b=some (.lst ys) ∧
 ∀ (ts:List Addr) (S:Addr),ts.length=(xs.zip ys).length→ts.Nodup→S ∉ ts→(∀ t∈ts,H1 t=none)→H1 S=none→Q (.ref S) (upd (lays H1 ts (xs.zip ys)) S (.lst (ts.map V.ref)))
theorem pe_listzip {e1 e2:Expr} {t:TA} {p1 p2 pos1 pos2:Pos} (ha:PA X [e1,e2] t) (hc:X.calm=true) (hgl:Gl X "list") (hml:X.mg "list" = none) (hgz:Gl X "zip") (hmz:X.mg "zip" = none)
  (he1:starEach [.Call (.Name "zip" p2) [e1,e2] [] pos2] X.env=(false,eval (.Call (.Name "zip" p2) [e1,e2] [] pos2) X.env) :: starEach [] X.env:=by rfl)
  (he2:starEach [e1,e2] X.env=(false,eval e1 X.env) :: starEach [e2] X.env:=by rfl) (hpl:(backTo pos2 (starEach [e2] X.env)).any (·.1)=false:=by rfl) :
  PE X (.Call (.Name "list" p1) [.Call (.Name "zip" p2) [e1,e2] [] pos2] [] pos1) (tLZ t):=by
 intro pins s σ H Q I h
 refine wpAny_Call_Name_kw (ld_blt (u:=.type "list") I hgl hml (by decide +kernel) ?_)
 refine PyProof.Rows.callWith_type1 ?_ he1 rfl
 rw [he1]
 refine Calls.spliced_cons ?_
 refine wpAny_Call_Name_kw (ld_blt (u:=.type "zip") I hgz hmz (by decide +kernel) ?_)
 refine PyProof.Rows.callWith_type1 (thn (ha pos2 pins s σ H _ I h) fun us s1 ⟨vs,H1,I1,r1,q1⟩=>?_) he2 hpl
 obtain ⟨a,b,xs,ys,rfl,hA,hB,q⟩:=q1
 obtain ⟨u,v,rfl,ru,rv⟩:=vals2 r1
 cases ru; cases rv
 obtain ⟨z1,its1,n1,v1,len1,o1⟩:=I1.lstM hA
 obtain ⟨z2,its2,n2,v2,len2,o2⟩:=I1.lstM hB
 have L1:s1.heap.IsList a its1.toArray:=⟨_,o1,rfl,n1,rfl⟩
 have L2:s1.heap.IsList b its2.toArray:=⟨_,o2,rfl,n2,rfl⟩
 have la:a < s1.heap.objs.size:=Heap.lt_size o1
 have lb:b < s1.heap.objs.size:=Heap.lt_size o2
 refine call_zip_2 L1 L2 fun h1 a1 a2 a3 a4 a5 a6 k1=>?_
 refine Calls.spliced_nil ?_
 have D:ZipApart (s1.heap.objs.size + 4) (s1.heap.objs.size + 2) (s1.heap.objs.size + 3) s1.heap.objs.size (s1.heap.objs.size + 1) a b:=zipApart_at la lb
 refine call_list_zip (n:=min its1.length its2.length) (I1.ok.hd hc) D (by omega) (by simp) a1 ⟨_,_,a3⟩ a2 a4 a5 (L1.at fun o e=>k1 _ _ e) (L2.at fun o e=>k1 _ _ e) fun h2 ts c' g1 g2 g3 g4=>?_
 have keep:∀ c o,s1.heap.get? c=some o→h2.get? c=some o:=fun c o e=>g4 c o (fun hm=>outN (Heap.lt_size e) hm) (k1 c o e)
 have S5:h1.objs.size=s1.heap.objs.size + 5:=a6
 have big:∀ t∈ts,s1.heap.objs.size≤t∧t≠h1.objs.size:=fun t ht =>
  have q:h1.objs.size + 1≤t:=(g3.new t ht).1
  ⟨Nat.le_trans (by rw [S5]; exact Nat.le_add_right _ 6) q,fun z=>Nat.lt_irrefl _ (Nat.lt_of_lt_of_eq q z)⟩
 have nS:h1.objs.size ∉ ts:=fun hm=>(big _ hm).2 rfl
 have fr:∀ {t:Addr},s1.heap.objs.size≤t→H1 t=none:=fun h=>I1.hok.fresh h
 have leS:s1.heap.objs.size≤h1.objs.size:=by rw [S5]; exact Nat.le_add_right _ 5
 have frS:H1 h1.objs.size=none:=fr leS
 have tl:ts.length=(xs.zip ys).length:=by rw [List.length_zip,g2]; omega
 have old:∀ {b:Addr} {o:HO},H1 b=some o→upd (lays H1 ts (xs.zip ys)) h1.objs.size (.lst (ts.map V.ref)) b=some o:=fun {b o} e=>by
  have hb:b < s1.heap.objs.size:=I1.hok.lt e
  rw [upd_ne (Nat.ne_of_lt (Nat.lt_of_lt_of_le hb leS)),lays_old (fun hm=>Nat.lt_irrefl _ (Nat.lt_of_lt_of_le hb (big b hm).1))]
  exact e
 have newN:∀ {b:Addr} {o:Obj},s1.heap.get? b=some o→H1 b=none→upd (lays H1 ts (xs.zip ys)) h1.objs.size (.lst (ts.map V.ref)) b=none:=fun {b o} e n=>by
  have hb:=Heap.lt_size e
  rw [upd_ne (Nat.ne_of_lt (Nat.lt_of_lt_of_le hb leS)),lays_old (fun hm=>Nat.lt_irrefl _ (Nat.lt_of_lt_of_le hb (big b hm).1))]
  exact n
 refine ⟨.ref h1.objs.size,upd (lays H1 ts (xs.zip ys)) h1.objs.size (.lst (ts.map V.ref)),I1.un (t':=s1.toks) ⟨fun b o e _ _ _=>keep b o e,fun b o e _ _ _=>⟨o.slots,keep b o e⟩,fun b o e n _=>newN e n,fun b o e _=>⟨o,keep b o e⟩,fun b xs e=>old e,fun b o u e=>old e,fun b ps e=>⟨#[],by rw [old e]; simp⟩⟩ ?_,rfl,q ts _ tl g3.nd nS (fun t ht=>fr (big t ht).1) frS⟩
 intro b o e
 by_cases hb:b=h1.objs.size
 ·subst hb
  rw [upd_same] at e
  cases e
  exact ⟨by rw [List.length_map,g2]; omega,_,c',vals_refs2 ts,g1⟩
 ·rw [upd_ne hb] at e
  rcases lays_cases e with ⟨j,p,e1,e2,rfl⟩ | e
  ·obtain ⟨x,y,q1,q2,q3⟩:=g3.pair j b e1
   rw [List.getElem?_zip_eq_some] at e2
   obtain ⟨w1,w2⟩:=e2
   obtain ⟨u1,m1,m2⟩:=v1.get w1
   obtain ⟨u2,m3,m4⟩:=v2.get w2
   rw [List.getElem?_toArray] at q1 q2
   rw [m1] at q1; rw [m3] at q2
   cases q1; cases q2
   exact ⟨by show 2≤sizeLine; decide,[_,_],.cons m2 (.cons m4 .nil),⟨_,q3,rfl,_,rfl⟩⟩
  ·exact (I1.hok b o e).stay (fun c u _ g=>keep c u g) (fun c g=>old g) fun c xs g=>old g
end
end L2
namespace L3
open PySem L2
section
variable {K:PySem.W.Frag} {R:Hp} {W:Addr→Prop} {σ:St} {ρ:List Sl}
theorem Ev.lays:∀ {ts:List Addr} {vs ws:List V} {ds es:List D} {B H:Hp},Ev K R W B H σ ρ→Reps K B vs ds→Reps K B ws es→ts.length=(vs.zip ws).length→ts.Nodup→(∀ t∈ts,H t=none) →
  Ev K R W (L2.lays B ts (vs.zip ws)) (L2.lays H ts (vs.zip ws)) σ ρ∧Grow R B (L2.lays B ts (vs.zip ws))∧Reps K (L2.lays B ts (vs.zip ws)) (ts.map V.ref) ((ds.zip es).map fun p=>D.tup [p.1,p.2])
 | [],vs,ws,ds,es,B,H,e,r1,r2,hl,_,_=>by
  have q:(ds.zip es).length=0:=by
   rw [List.length_zip,← r1.length,← r2.length,← List.length_zip]
   exact hl.symm
  rw [List.length_eq_zero_iff.mp q]
  exact ⟨e,Grow.refl _ _,.nil⟩
 | t :: ts,vs,ws,ds,es,B,H,e,r1,r2,hl,nd,fr=>by
  cases r1 with
  | nil=>simp at hl
  | cons a1 r1 =>
   cases r2 with
   | nil=>simp at hl
   | cons a2 r2 =>
    rename_i v d vs ds w d2 ws es
    have ht:=fr t List.mem_cons_self
    have g:=e.grow ht (.tup [v,w])
    have nd':=List.nodup_cons.mp nd
    obtain ⟨h1,h2,h3⟩:=Ev.lays (ts:=ts) (e.alloc ht (.tup [v,w])) (r1.mono g.s) (r2.mono g.s) (by simpa using hl) nd'.2 (fun x hx=>by
     rw [upd_ne (fun z:x=t=>nd'.1 (by rw [← z]; exact hx))]
     exact fr x (List.mem_cons_of_mem _ hx))
    refine ⟨h1,g.trans h2,.cons (.tup (vs:=[v,w]) (h2.s _ _ upd_same) (.cons ((a1.mono g.s).mono h2.s) (.cons ((a2.mono g.s).mono h2.s) .nil))) h3⟩
end
section
variable {X:Cx} {e1 e2:Expr} {ua ub:UE}
def uZip (ua ub:UE):UL:=fun ρ k=>ua ρ fun x=>ub ρ fun y=>∃ ds es,x=.lst ds∧y=.lst es∧k ((ds.zip es).map fun p=>.tup [p.1,p.2])
theorem o_zip {p1 p2 pos1 pos2:Pos} (ha:PE3 X e1 ua) (hb:PE3 X e2 ub) (hc:X.calm=true) (hgl:Gl X "list") (hml:X.mg "list" = none) (hgz:Gl X "zip") (hmz:X.mg "zip" = none)
  (he1:starEach [.Call (.Name "zip" p2) [e1,e2] [] pos2] X.env=(false,eval (.Call (.Name "zip" p2) [e1,e2] [] pos2) X.env) :: starEach [] X.env:=by rfl)
  (he2:starEach [e1,e2] X.env=(false,eval e1 X.env) :: starEach [e2] X.env:=by rfl) (he3:starEach [e2] X.env=(false,eval e2 X.env) :: starEach [] X.env:=by rfl) (hpl:(backTo pos2 (starEach [e2] X.env)).any (·.1)=false:=by rfl) :
  PO3 X (.Call (.Name "list" p1) [.Call (.Name "zip" p2) [e1,e2] [] pos2] [] pos1) (uZip ua ub):=by
 obtain ⟨_,h1,r1⟩:=ha; obtain ⟨_,h2,r2⟩:=hb
 refine ⟨_,pe_listzip (pa_cons h1 (pa_cons h2 pa_nil he3) he2) hc hgl hml hgz hmz he1 he2 hpl,fun ρ k h R W B H σ Q e q=>?_⟩
 refine r1 ρ _ h R W B H σ _ e fun d v B1 H1 z1 e1 g1 s1=>?_
 refine r2 ρ _ z1 R W B1 H1 σ _ e1 fun d' v' B2 H2 z2 e2 g2 s2=>?_
 obtain ⟨ds,es,rfl,rfl,z⟩:=z2
 obtain ⟨a,vs,rfl,ha,rs⟩:=(s1.mono g2.s).lstV
 obtain ⟨b,ws,rfl,hb,rt⟩:=s2.lstV
 refine ⟨a,b,vs,ws,rfl,e2.bh _ _ ha,e2.bh _ _ hb,fun ts S hl nd nS fr frS=>?_⟩
 obtain ⟨e3,g3,r3⟩:=e2.lays rs rt hl nd fr
 obtain ⟨f1,f2,f3,f4,f5⟩:=e3.newO (by rw [lays_old nS]; exact frS) r3
 exact q _ S _ _ _ z f1 ((g1.trans g2).trans g3) f2 f3 f4 r3 f5
end
end L3
namespace L2
open PySem PySem.Spec PyProof.Rows PySem.W
theorem rev_take (its:List Value):∀ m,m≤its.length→(List.range m).filterMap (fun k=>its[its.length - 1 - k]?)=its.reverse.take m
 | 0,_=>rfl
 | m + 1,h=>by
  rw [List.range_succ,List.filterMap_append,rev_take its m (by omega),List.take_add_one,List.getElem?_reverse (by omega)]
  congr 1
theorem slicePick_rev (its:List Value):slicePick its.toArray none none (some (-1))=its.reverse.toArray:=by
 have hb:sliceBounds none none (some (-1)) its.toArray.size=((its.length:Int) - 1,-1,-1):=by simp [sliceBounds]
 unfold slicePick
 rw [hb]
 have hr:sliceRange ((its.length:Int) - 1) (-1) (-1)=(List.range its.length).map fun k=>its.length - 1 - k:=by
  unfold sliceRange
  have c:(if (-1:Int) > 0 then (if (its.length:Int) - 1 < -1 then (-1 - ((its.length:Int) - 1) + -1 - 1) / -1 else 0) else (if (its.length:Int) - 1 > -1 then ((its.length:Int) - 1 - -1 - -1 - 1) / (- -1) else 0))=(its.length:Int):=by
   rw [if_neg (by decide)]
   split
   ·rw [show (- -1:Int)=1 by decide,Int.ediv_one]; omega
   ·omega
  simp only [c,Int.toNat_natCast]
  refine List.map_congr_left fun k hk=>?_
  omega
 simp only [hr,List.filterMap_map]
 have:=rev_take its its.length (Nat.le_refl _)
 rw [List.take_of_length_le (by simp)] at this
 rw [← this]
 have e:((fun x=>its.toArray[x]?) ∘ fun k=>its.length - 1 - k)=fun k=>its[its.length - 1 - k]?:=by
  funext k
  simp
 rw [e]
section
variable {X:Cx} {e st:Expr} {te ts:TE} {p2 pos:Pos}
end
end L2
namespace L3
open PySem L2
section
variable {X:Cx} {e st:Expr} {u us:UE} {p2 pos:Pos}
theorem Reps.reverse {K:PySem.W.Frag} {B:Hp}:∀ {vs:List V} {ds:List D},Reps K B vs ds→Reps K B vs.reverse ds.reverse
 | _,_,.nil=>.nil
 | _,_,.cons h r=>by
  rw [List.reverse_cons,List.reverse_cons]
  exact (Reps.reverse r).append (.cons h .nil)
end
end L3
namespace Cut
open PySem L2 L3
open PySem.Builtin.Int (intBits)
end Cut
namespace Cut
open PySem L2 L3
open PySem.Builtin.Int (intBits)
end Cut
namespace Cut
open PySem L2 L3
open PySem.Builtin.Int (intBits)
end Cut
namespace L2
open PySem PySem.Spec PyProof.Rows PySem.W
section
variable {X:Cx} {pins:List (Addr×Obj)} {σ:St} {H:Hp} {s:Shared}
end
end L2
namespace L3
open PySem L2 PySem.W
section
variable {X:Cx} {a b:Expr} {ua ub:UE} {pos:Pos}
end
end L3
namespace L2
open PySem PySem.Spec PyProof.Rows
section
variable {X:Cx} {pos:Pos}
end
end L2
namespace L3
open PySem L2
section
variable {X:Cx} {w:UL} {pos:Pos}
end
end L3
namespace L3
open PySem L2
section
variable {K:PySem.W.Frag} {R:Hp} {W:Addr→Prop} {B B' H H':Hp} {σ:St} {ρ:List Sl}
def fz1:Sl→Sl
 | .own (.l ds)=>.val (.lst ds)
 | .own (.d b _ ks ds)=>.val (.dct b ks ds)
 | .deep _=>.no
 | s=>s
def frW (W:Addr→Prop) (σ:St) (ρ:List Sl) (a:Addr):Prop:=W a∨∃ i:Nat,σ[i]?=some (some (.ref a))∧ρ[i]?=some .bag
def OwnAd (σ:St) (ρ:List Sl) (a:Addr):Prop:=∃ (i:Nat) (ds:Cn),σ[i]?=some (some (.ref a))∧ρ[i]?=some (.own ds)
open Classical in
noncomputable def frB (B H:Hp) (σ:St) (ρ:List Sl):Hp:=fun a=>if OwnAd σ ρ a then H a else B a
theorem frB_own {a:Addr} (h:OwnAd σ ρ a):frB B H σ ρ a=H a:=by unfold frB; rw [if_pos h]
theorem frB_not {a:Addr} (h:¬ OwnAd σ ρ a):frB B H σ ρ a=B a:=by unfold frB; rw [if_neg h]
theorem Ev.frW_B (e:Ev K R W B H σ ρ) {a:Addr} (h:frW W σ ρ a):B a=none∧Bag H a:=by
 rcases h with h | ⟨i,h1,h2⟩
 ·exact ⟨e.wb a h,e.wh a h⟩
 ·obtain ⟨b,c1,_,c3,c4⟩:=e.bagAt h2
  rw [h1] at c1; cases c1
  exact ⟨c3,c4⟩
theorem Ev.own_out (e:Ev K R W B H σ ρ) {a:Addr} (h:OwnAd σ ρ a):R a=none∧B a=none∧H a≠none∧¬ frW W σ ρ a:=by
 obtain ⟨i,ds,h1,h2⟩:=h
 obtain ⟨b,c1,c2,c3,c4⟩:=e.ownC h2
 rw [h1] at c1; cases c1
 refine ⟨c2,c3,c4.ne,fun z=>?_⟩
 rcases z with z | ⟨j,z1,z2⟩
 ·exact e.wr a z c2
 ·have:=e.sep i j a (.inl ⟨h1,.inr ⟨ds,h2⟩⟩) (.inl ⟨z1,.inl z2⟩)
  subst this
  rw [h2] at z2; cases z2
theorem Ev.deep_out (e:Ev K R W B H σ ρ) {i:Nat} {c:Dp} (h:ρ[i]?=some (.deep c)) {a:Addr} (m:a∈c.adr :: c.ins):¬ frW W σ ρ a:=fun z=>by
 rcases z with z | ⟨j,z1,z2⟩
 ·exact e.wr a z ((e.deepAt h).2.fr a m).1
 ·have:=e.sep i j a (.inr ⟨c,h,m⟩) (.inl ⟨z1,.inl z2⟩)
  subst this
  rw [h] at z2; cases z2
theorem Ev.frB_same (e:Ev K R W B H σ ρ):Same B (frB B H σ ρ):=fun a o h=>by
 by_cases z:OwnAd σ ρ a
 ·rw [(e.own_out z).2.1] at h; cases h
 ·rw [frB_not z]; exact h
theorem Ev.frame (e:Ev K R W B H σ ρ):Ev K H (frW W σ ρ) (frB B H σ ρ) H σ (ρ.map fz1):=by
 have nb:∀ a,frW W σ ρ a→frB B H σ ρ a=none:=fun a h=>by
  by_cases z:OwnAd σ ρ a
  ·exact absurd h (e.own_out z).2.2.2
  ·rw [frB_not z]; exact (e.frW_B h).1
 refine ⟨⟨fun _ _ z _=>z,fun a o h=>?_,nb,fun a h=>(e.frW_B h).2,fun a h=>?_⟩,by rw [List.length_map]; exact e.len,fun i k h=>?_,fun i j a m1 m2=>?_⟩
 ·by_cases z:OwnAd σ ρ a
  ·rw [frB_own z] at h; exact h
  ·rw [frB_not z] at h; exact e.bh a o h
 ·obtain ⟨x,y,q,_⟩:=(e.frW_B h).2
  rw [q]; simp
 ·rw [List.getElem?_map] at h
  cases q:ρ[i]? with
  | none=>rw [q] at h; cases h
  | some k0 =>
   rw [q] at h
   have h:=Option.some.inj h
   subst h
   have z:=e.ok i _ q
   cases k0 with
   | no=>trivial
   | new d =>
    obtain ⟨v,h1,h2⟩:=z
    refine ⟨v,h1,h2.mono (mixB_re e.toWd e.frB_same (fun a o h=>?_) (fun a z hr=>?_) nb)⟩
    ·by_cases z:OwnAd σ ρ a
     ·rw [frB_own z] at h; exact h
     ·rw [frB_not z] at h; exact e.bh a o h
    ·rcases z with z | ⟨i,z1,z2⟩
     ·exact z
     ·obtain ⟨b,c1,c2,_⟩:=e.bagAt z2
      rw [z1] at c1; cases c1
      exact c2.resolve_right hr
   | deep c=>trivial
   | pin v d =>
    obtain ⟨h1,h2⟩:=z
    refine ⟨h1,h2.mono (mixB_re e.toWd e.frB_same (fun a o h=>?_) (fun a z hr=>?_) nb)⟩
    ·by_cases z:OwnAd σ ρ a
     ·rw [frB_own z] at h; exact h
     ·rw [frB_not z] at h; exact e.bh a o h
    ·rcases z with z | ⟨i,z1,z2⟩
     ·exact z
     ·obtain ⟨b,c1,c2,_⟩:=e.bagAt z2
      rw [z1] at c1; cases c1
      exact c2.resolve_right hr
   | val d =>
    obtain ⟨v,h1,h2⟩:=z
    exact ⟨v,h1,h2.mono e.frB_same⟩
   | own ds =>
    obtain ⟨a,h1,h2,h3,z⟩:=z
    cases ds with
    | l ds =>
     obtain ⟨vs,h4,h5⟩:=z
     exact ⟨.ref a,h1,.lst (by rw [frB_own ⟨i,_,join_some h1,q⟩]; exact h4) (h5.mono e.frB_same)⟩
    | d b t ks ds =>
     obtain ⟨ep,as,vs,_,h4,h5,h6,h7⟩:=z
     exact ⟨.ref a,h1,.dct (by rw [frB_own ⟨i,_,join_some h1,q⟩]; exact h4) (h5.mono e.frB_same) h6 (h7.mono e.frB_same)⟩
   | bag =>
    obtain ⟨b,h1,h2,h3,h4⟩:=z
    have w:frW W σ ρ b:=.inr ⟨i,join_some h1,q⟩
    exact ⟨b,h1,.inl w,nb b w,h4⟩
 ·have back:∀ i,MutAt σ (ρ.map fz1) i a→MutAt σ ρ i a:=fun i m=>by
   rcases m with ⟨h1,h2⟩ | ⟨c,h1,_⟩
   rotate_left
   ·rw [List.getElem?_map] at h1
    cases q:ρ[i]? with
    | none=>rw [q] at h1; cases h1
    | some k0 =>
     rw [q] at h1
     cases k0 with
     | own ds=>cases ds <;> cases h1
     | _=>cases h1
   refine .inl ⟨h1,?_⟩
   rw [List.getElem?_map] at h2
   cases q:ρ[i]? with
   | none=>rw [q] at h2; rcases h2 with h2 | ⟨_,h2⟩ <;> cases h2
   | some k0 =>
    rw [q] at h2
    cases k0 with
    | bag=>exact .inl rfl
    | no=>rcases h2 with h2 | ⟨_,h2⟩ <;> cases h2
    | new d=>rcases h2 with h2 | ⟨_,h2⟩ <;> cases h2
    | pin v d=>rcases h2 with h2 | ⟨_,h2⟩ <;> cases h2
    | deep d=>rcases h2 with h2 | ⟨_,h2⟩ <;> cases h2
    | val d=>rcases h2 with h2 | ⟨_,h2⟩ <;> cases h2
    | own ds=>cases ds <;> rcases h2 with h2 | ⟨_,h2⟩ <;> cases h2
  exact e.sep i j a (back i m1) (back j m2)
theorem Ev.unframe (e:Ev K R W B H σ ρ) (fr:∀ a o,H a=some o→¬ frW W σ ρ a→H' a=some o) (wh:∀ a,frW W σ ρ a→Bag H' a):Ev K R W B H' σ ρ:=by
 have nW:∀ a,R a≠none→¬ W a→¬ frW W σ ρ a:=fun a h1 h2 z=>by
  rcases z with z | ⟨i,z1,z2⟩
  ·exact h2 z
  ·obtain ⟨b,c1,c2,_⟩:=e.bagAt z2
   rw [z1] at c1; cases c1
   rcases c2 with c2 | c2
   ·exact h2 c2
   ·exact h1 c2
 refine ⟨⟨fun a o h nw=>fr a o (e.fr a o h nw) (nW a (by rw [h]; simp) nw),fun a o h=>fr a o (e.bh a o h) fun z=>?_,e.wb,fun a h=>wh a (.inl h),e.wr⟩,e.len,fun i k h=>?_,e.sep⟩
 ·rw [(e.frW_B z).1] at h; cases h
 ·have z:=e.ok i k h
  cases k with
  | no=>trivial
  | new d=>exact z
  | pin v d=>exact z
  | val d=>exact z
  | own ds =>
   obtain ⟨a,h1,h2,h3,h4⟩:=z
   refine ⟨a,h1,h2,h3,h4.mono (Same.refl _) ?_⟩
   cases q:H a with
   | none=>exact absurd q h4.ne
   | some o=>exact fr a _ q (e.own_out ⟨i,ds,join_some h1,h⟩).2.2.2
  | deep c =>
   refine ⟨z.1,z.2.fr,z.2.nd,z.2.ok.mono (Same.refl _) fun a ma=>?_⟩
   cases q:H a with
   | none=>exact absurd q (z.2.ok.ne ma)
   | some o=>exact fr a _ q (e.deep_out h ma)
  | bag =>
   obtain ⟨b,h1,h2,h3,h4⟩:=z
   exact ⟨b,h1,h2,h3,wh b (.inr ⟨i,join_some h1,h⟩)⟩
theorem Ev.forget (e:Ev K R W B H σ ρ) {σ':St} {ρ':List Sl} (hl:σ'.length=ρ'.length) (h:∀ (i:Nat) (k:Sl),ρ'[i]?=some k→k=.no∨(ρ[i]?=some k∧σ'[i]?=σ[i]?)):Ev K R W B H σ' ρ':=by
 have back:∀ i a,MutAt σ' ρ' i a→MutAt σ ρ i a:=fun i a m=>by
  rcases m with ⟨h1,h2 | ⟨ds,h2⟩⟩ | ⟨c,h1,h2⟩
  ·rcases h i _ h2 with z | ⟨z1,z2⟩
   ·cases z
   ·exact .inl ⟨by rw [← z2]; exact h1,.inl z1⟩
  ·rcases h i _ h2 with z | ⟨z1,z2⟩
   ·cases z
   ·exact .inl ⟨by rw [← z2]; exact h1,.inr ⟨ds,z1⟩⟩
  ·rcases h i _ h1 with z | ⟨z1,z2⟩
   ·cases z
   ·exact .inr ⟨c,z1,h2⟩
 refine ⟨e.toWd,hl,fun i k q=>?_,fun i j a m1 m2=>e.sep i j a (back i a m1) (back j a m2)⟩
 rcases h i k q with rfl | ⟨z1,z2⟩
 ·trivial
 ·rw [z2]; exact e.ok i k z1
end
section
variable {K:PySem.W.Frag} {X:Cx} {e:Expr} {es:List Expr} {u:UE} {w:UL} {pos p:Pos}
mutual
def flat:D→Bool
 | .tup xs=>flats xs
 | .lst _=>false
 | .scr _=>false
 | .ktup _=>false
 | .dct _ _ _=>false
 | .non=>true
 | .bl _=>true
 | .int _=>true
 | .str _=>true
 | .ty _=>true
def flats:List D→Bool
 | []=>true
 | x :: r=>flat x && flats r
end
theorem newL_tup {R B:Hp} {a:Addr} {vs:List V} (h:B a=some (.tup vs)):newL R B a=some (.tup vs):=by
 unfold newL
 rw [h]
mutual
theorem Rep.flat {R B:Hp}:∀ {v:V} {d:D},Rep K B v d→flat d=true→Rep K (newL R B) v d
 | _,_,.non,_=>.non
 | _,_,.bl b,_=>.bl b
 | _,_,.int i,_=>.int i
 | _,_,.str x,_=>.str x
 | _,_,.ty n,_=>.ty n
 | _,_,.tup h r,f=>.tup (newL_tup h) (Reps.flat r f)
 | _,_,.lst h r,f=>by simp [L3.flat] at f
 | _,_,.scr h,f=>by simp [L3.flat] at f
 | _,_,.ktup h _,f=>by simp [L3.flat] at f
 | _,_,.dct _ _ _ _,f=>by simp [L3.flat] at f
theorem Reps.flat {R B:Hp}:∀ {vs:List V} {ds:List D},Reps K B vs ds→flats ds=true→Reps K (newL R B) vs ds
 | _,_,.nil,_=>.nil
 | _,_,.cons h r,f=>by
  rw [flats,Bool.and_eq_true] at f
  exact .cons (Rep.flat h f.1) (Reps.flat r f.2)
end
def RefD (K:PySem.W.Frag) (t:TE) (u:UE):Prop:=∀ (ρ:List Sl) (k:D→Prop),u ρ k→∀ (R:Hp) (W:Addr→Prop) (B H:Hp) (σ:St) (Q:VK),Ev K R W B H σ ρ →
 (∀ d v B' H',k d→Ev K R W B' H' σ ρ→Grow R B B'→Rep K (newL R B') v d→Q v H')→t σ H Q
def RefDL (K:PySem.W.Frag) (t:TA) (u:UL):Prop:=∀ (ρ:List Sl) (k:List D→Prop),u ρ k→∀ (R:Hp) (W:Addr→Prop) (B H:Hp) (σ:St) (Q:List V→Hp→Prop),Ev K R W B H σ ρ →
 (∀ ds vs B' H',k ds→Ev K R W B' H' σ ρ→Grow R B B'→Reps K (newL R B') vs ds→Q vs H')→t σ H Q
def PD3 (X:Cx) (e:Expr) (u:UE):Prop:=∃ t,PE X e t∧RefD X.K t u
def PDL3 (X:Cx) (es:List Expr) (u:UL):Prop:=∃ t,PA X es t∧RefDL X.K t u
def unF (u:UE):UE:=fun ρ k=>u ρ fun d=>flat d=true∧k d
def unO (w:UL):UE:=fun ρ k=>w ρ fun ds=>flats ds=true∧k (.lst ds)
theorem d_flat (h:PE3 X e u):PD3 X e (unF u):=by
 obtain ⟨_,h1,r1⟩:=h
 refine ⟨_,h1,fun ρ k h R W B H σ Q e q=>?_⟩
 exact r1 ρ _ h R W B H σ _ e fun d v B1 H1 z1 e1 g1 s1=>q d v B1 H1 z1.2 e1 g1 (s1.flat z1.1)
theorem d_list (h:PO3 X e w):PD3 X e (unO w):=by
 obtain ⟨_,h1,r1⟩:=h
 refine ⟨_,h1,fun ρ k h R W B H σ Q e q=>?_⟩
 refine r1 ρ _ h R W B H σ _ e fun ds a vs B1 H1 z1 e1 g1 f1 f2 f3 f4 f5=>?_
 obtain ⟨e2,g2⟩:=e1.freeze f3 f1 f2 f5
 exact q _ _ _ _ z1.2 e2 (g1.trans g2) (.lst (newL_at upd_same f1) ((f4.mono g2.s).flat z1.1))
theorem dl_nil:PDL3 X [] uNil:=⟨_,pa_nil,fun ρ k h R W B H σ Q e q=>q [] [] B H h e (Grow.refl _ _) .nil⟩
theorem dl_cons (ha:PD3 X e u) (hr:PDL3 X es w) (hs:starEach (e :: es) X.env=(false,eval e X.env) :: starEach es X.env:=by rfl):PDL3 X (e :: es) (uCons u w):=by
 obtain ⟨_,h1,r1⟩:=ha; obtain ⟨_,h2,r2⟩:=hr
 refine ⟨_,pa_cons h1 h2 hs,fun ρ k h R W B H σ Q e q=>?_⟩
 refine r1 ρ _ h R W B H σ _ e fun d v B1 H1 z1 e1 g1 s1=>?_
 refine r2 ρ _ z1 R W B1 H1 σ _ e1 fun ds vs B2 H2 z2 e2 g2 s2=>?_
 exact q _ _ B2 H2 z2 e2 (g1.trans g2) (.cons (s1.mono (newL_mono g2.s)) s2)
theorem d_tup {x1} (h:PDL3 X es w):PD3 X (.Tuple es x1 pos) (uTup w):=by
 obtain ⟨_,h1,r1⟩:=h
 refine ⟨_,pe_tup h1,fun ρ k z R W B H σ Q e q=>?_⟩
 refine r1 ρ _ z R W B H σ _ e fun ds vs B1 H1 z1 e1 g1 s1=>?_
 refine ⟨by rw [s1.length]; exact z1.1,fun p hp=>?_⟩
 have g2:=e1.grow hp (.tup vs)
 exact q _ _ _ _ z1.2 (e1.alloc hp _) (g1.trans g2) (.tup (newL_tup upd_same) (s1.mono (newL_mono g2.s)))
def uCallD (n:Nat) (F:FS) (w:UA):UE:=fun ρ k=>w ρ fun as=>sh as n=true∧F (as.map Arg.sl) fun r=>∃ d,r=.new d∧k d
theorem d_call {n:Nat} {F:FS} {w:UA} {x:Str} {ps:List Str} {j lv:Nat} (c:Cal X.prog X.w X.K X.mg X.base x ps j (Con X.K n F)) (hr:Room lv X.A) (hg:Gl X x) (ha:PA3 X (e :: es) w) (hjk:j≤lv:=by decide)
  (hdb:(x == ("__debug__" : Str))=false:=by decide) (he:starEach (e :: es) X.env=(false,eval e X.env) :: starEach es X.env:=by rfl) (hpl:(backTo pos (starEach es X.env)).any (·.1)=false:=by rfl) :
  PD3 X (.Call (.Name x p) (e :: es) [] pos) (uCallD n F w):=by
 obtain ⟨_,h1,r1⟩:=ha
 refine ⟨_,pe_cal c hr hg h1 hjk hdb he hpl,fun ρ k h R W B H σ Q e q=>?_⟩
 refine r1 ρ _ h R W B H σ _ e fun as vs B1 H1 z1 e1 g1 s1=>?_
 rw [List.append_nil]
 refine call_ok e1 s1 z1.1 z1.2 fun r v B2 H2 hk e2 g2 res=>?_
 obtain ⟨d,rfl,hk⟩:=hk
 have res:Rep X.K (newL H1 B2) v d:=res
 exact q d v B2 H2 hk e2 (g1.trans g2) (res.mono (newL_weak fun a z=>(e1.toWd.fresh z).1))
def uRetD (u:UE):US:=fun U ρ=>u ρ fun d=>U.rt (.new d)
theorem s_retD (h:PD3 X e u):PS3 X (.Return (some e) pos) (uRetD u):=by
 obtain ⟨_,h1,r1⟩:=h
 refine ⟨_,ps_ret h1,fun U ρ h R W B H σ D e s=>?_⟩
 exact r1 ρ _ h R W B H σ _ e fun d v B1 H1 z1 e1 g1 s1=>s.rt (.new d) v B1 H1 z1 e1.toWd g1 s1
theorem refCompD {wi:TI} {g:TG} {tt:TT} {te:TE} {ug:UG} {ut:UT} {nt:Nat} {js:List Nat} (h0:RefI K wi w) (hg:RefG K g ug) (ht:RefT K tt ut) (h1:RefD K te u) (hnd:js.Nodup):RefD K (tCompG wi g tt te nt js) (fun ρ k=>uCompG w ug ut u nt js ρ fun ds=>k (.lst ds)):=by
 intro ρ k h R W B H σ Q e q
 refine h0 ρ _ h R W B H σ _ e fun ds J B1 H1 z1 e1 g1 it=>?_
 obtain ⟨hl,z1⟩:=z1
 intro D hD
 obtain ⟨f1,f2,f3⟩:=e1.toWd.fresh hD
 have nm1:∀ i,¬ MutAt σ ρ i D:=fun i m=>e1.notNew hD m rfl
 have ei:=e1.within nt hnd
 have hmi:∀ j a,MutAt (List.replicate nt none ++ freeV σ js) (List.replicate nt .no ++ js.map (frS ρ)) j a→∃ j,j∈js∧σ[j]?=some (some (V.ref a))∧ρ[j]?=some Sl.bag:=fun j a m=>by
  have q2:=(ei.mutOk m).2
  rcases m with ⟨m1,z | ⟨es,z⟩⟩ | ⟨c,z,mc⟩
  ·obtain ⟨c,c1,c2,_⟩:=ei.bagAt z
   rw [m1] at c1; cases c1
   rcases c2 with c2 | c2
   ·exact c2
   ·exact absurd c2 q2
  ·obtain ⟨c,c1,c2,_⟩:=ei.ownC z
   rw [m1] at c1; cases c1
   exact absurd c2 q2
  ·exact absurd ((ei.deepAt z).2.fr a mc).1 q2
 generalize hWW:(fun a=>∃ j,j∈js∧σ[j]?=some (some (V.ref a))∧ρ[j]?=some Sl.bag)=WW at ei
 have hmi:∀ j a,MutAt (List.replicate nt none ++ freeV σ js) (List.replicate nt .no ++ js.map (frS ρ)) j a→WW a:=fun j a m=>by rw [← hWW]; exact hmi j a m
 have hW:∀ a,WW a→∃ i:Nat,σ[i]?=some (some (.ref a))∧ρ[i]?=some .bag:=fun a z=>by
  rw [← hWW] at z
  obtain ⟨j,_,z⟩:=z
  exact ⟨j,z⟩
 have nWD:¬ WW D:=fun z=>by
  obtain ⟨i',y1,y2⟩:=hW D z
  exact nm1 i' (.inl ⟨y1,.inl y2⟩)
 refine ⟨fun i m σi H'=>∃ B' ys es ρi,m=ds.length - i∧i≤ds.length∧Ev K H1 WW B' H' σi ρi∧Grow H1 B1 B'∧H' D=some (.lst ys)∧B' D=none∧(∀ j a,MutAt σi ρi j a→WW a)∧ys.length≤i∧Reps K (newL H1 B') ys es∧compG ug ut u (ds.drop i) ρi fun r=>k (.lst (es ++ r)),
  ⟨ds.length,B1,[],[],_,by simp,Nat.zero_le _,ei.allocH hD _,Grow.refl _ _,upd_same,f3,hmi,Nat.le_refl _,.nil,by simpa using z1⟩,?_⟩
 rintro i m σi H2 ⟨B2,ys,es,ρi,rfl,hi,e2,g2,hy,hb,hnm,hyl,ry,z2⟩
 obtain ⟨t1,t2,t3⟩:=it H2 (g2.s.trans e2.bh) i
 by_cases hlt:i < ds.length
 ·refine .inr ⟨t1 hlt,fun x H' y=>?_⟩
  obtain ⟨rfl,d,hd,rx⟩:=t3 x H' hlt y
  have ed:ds.drop i=d :: ds.drop (i + 1):=by
   rw [List.drop_eq_getElem_cons hlt]
   rw [List.getElem?_eq_getElem hlt] at hd
   rw [Option.some.inj hd]
  rw [ed] at z2
  refine hg d ρi _ z2 H1 WW B2 H' σi x _ e2 (rx.mono g2.s) fun ρ3 σ3 z3 e3 mm=>?_
  have hnm3:∀ j a,MutAt σ3 ρ3 j a→WW a:=fun j a m=>hnm j a (mm j a m)
  have bD:∀ {B4:Hp},Grow H' B2 B4→B4 D=none:=fun {B4} g4=>by
   cases qd:B4 D with
   | none=>rfl
   | some o =>
    rcases g4.n D o qd with z | z
    ·rw [hb] at z; cases z
    ·rw [hy] at z; cases z
  refine ht ρ3 _ z3 H' WW B2 H' σ3 _ (e3.rebase hnm3) fun b B4 H4 z4 e4 g4=>?_
  have hD4:H4 D=some (.lst ys):=e4.fr D _ hy nWD
  cases b with
  | false =>
   rw [if_neg Bool.false_ne_true] at z4 ⊢
   obtain ⟨e5,g5⟩:=e3.unbase hnm3 e4 g4
   exact ⟨ds.length - (i + 1),by omega,B4,ys,es,ρ3,rfl,hlt,e5,g2.trans g5,hD4,bD g4,hnm3,by omega,ry.mono (newL_mono g4.s),z4⟩
  | true =>
   rw [if_pos rfl] at z4 ⊢
   refine h1 ρ3 _ z4 H' WW B4 H4 σ3 _ e4 fun y' v B5 H5 z5 e5 g5 s5=>?_
   have g45:=g4.trans g5
   have hD5:H5 D=some (.lst ys):=e5.fr D _ hy nWD
   obtain ⟨e6,g6⟩:=e3.unbase hnm3 e5 g45
   have s5:=s5.mono (newL_weak (R:=H1) fun a z=>(e2.toWd.fresh z).1)
   refine ⟨ys,hD5,by omega,ds.length - (i + 1),by omega,B5,ys ++ [v],es ++ [y'],ρ3,rfl,hlt,e6.scribble hD (bD g45) (fun j m=>nWD (hnm3 j D m)) _,g2.trans g6,upd_same,bD g45,hnm3,by rw [List.length_append,List.length_singleton]; omega,(ry.mono (newL_mono g45.s)).append (.cons s5 .nil),?_⟩
   simpa [List.append_assoc] using z5
 ·have eq:i=ds.length:=by omega
  subst eq
  rw [List.drop_length] at z2
  obtain ⟨e4,g4⟩:=e1.after hW e2.toWd g2
  obtain ⟨e5,g5⟩:=e4.freeze hy f1 hb nm1
  refine .inl ⟨t2 (Nat.le_refl _),q _ (.ref D) _ H2 (by simpa [compG] using z2) e5 ((g1.trans g4).trans g5) (.lst (newL_at upd_same f1) ?_)⟩
  exact (ry.mono (newL_weak fun a z=>(e1.toWd.fresh z).1)).mono (newL_mono g5.s)
theorem joinD {elt:Expr} {α:Type} {Xs:α→Cx} (hK:∀ a,(Xs a).K=K) (h:∀ a,PD3 (Xs a) elt u):∃ t,(∀ a,PE (Xs a) elt t)∧RefD K t u:=by
 refine ⟨fun σ H Q=>∀ a,∃ t,PE (Xs a) elt t∧RefD K t u∧t σ H Q,fun a pins s σ H Q I q=>?_,fun ρ k q R W B H σ Q e z a=>?_⟩
 ·obtain ⟨t,ht,_,hq⟩:=q a
  exact ht pins s σ H Q I hq
 ·obtain ⟨t,ht,hr⟩:=h a
  rw [hK a] at hr
  exact ⟨t,ht,hr,hr ρ k q R W B H σ Q e z⟩
variable {elt iter tg:Expr} {ifs:List Expr} {scope:Scope} {cl:List (Str×Addr)} {ts fr:List Str} {js:List Nat} {ug:UG} {ut:UT}
def unC (w:UL):UE:=fun ρ k=>w ρ fun ds=>k (.lst ds)
theorem d_comp (hi:PI3 X tg iter w) (hg:∀ C s H ex,PG3 (compCx X (ts ++ fr) scope cl C s H ex) tg ug) (hts:∀ C s H ex,PIfs3 (compCx X (ts ++ fr) scope cl C s H ex) ifs ut) (helt:∀ C s H ex,PD3 (compCx X (ts ++ fr) scope cl C s H ex) elt u)
  (F:FreeOk X scope cl fr js) (hjn:js.Nodup:=by decide) (hc:X.calm=true:=by rfl) (hs:∀ v,foldedSetIterable iter X.env v=pure v:=by intro _; rfl):PD3 X (.ListComp elt [⟨tg,iter,ifs,0⟩] scope pos) (unC (uCompG w ug ut u ts.length js)):=by
 obtain ⟨_,h0,r0⟩:=hi
 obtain ⟨tg',hg',rg⟩:=joinG (K:=X.K) (Xs:=fun a:Addr×Shared×Hp×List Addr=>compCx X (ts ++ fr) scope cl a.1 a.2.1 a.2.2.1 a.2.2.2) (fun _=>rfl) fun a=>hg a.1 a.2.1 a.2.2.1 a.2.2.2
 obtain ⟨tt,ht',rt⟩:=joinI (K:=X.K) (Xs:=fun a:Addr×Shared×Hp×List Addr=>compCx X (ts ++ fr) scope cl a.1 a.2.1 a.2.2.1 a.2.2.2) (fun _=>rfl) fun a=>hts a.1 a.2.1 a.2.2.1 a.2.2.2
 obtain ⟨te,he',re⟩:=joinD (K:=X.K) (Xs:=fun a:Addr×Shared×Hp×List Addr=>compCx X (ts ++ fr) scope cl a.1 a.2.1 a.2.2.1 a.2.2.2) (fun _=>rfl) fun a=>helt a.1 a.2.1 a.2.2.1 a.2.2.2
 exact ⟨_,pe_compG h0 (fun C s H ex=>hg' (C,s,H,ex)) (fun C s H ex=>ht' (C,s,H,ex)) (fun C s H ex=>he' (C,s,H,ex)) F hc hs,refCompD r0 rg rt re hjn⟩
end
end L3
namespace L3
open PySem L2
section
variable {K:PySem.W.Frag} {X:Cx} {e:Expr} {es:List Expr} {u:UE} {w:UL} {pos p:Pos} {I:List Nat} {i:Nat} {rest:List Stmt} {uz:UEnds→List Sl→D→List Sl→Prop}
theorem Rep.lst_of {B:Hp} {v:V} {ds:List D} (r:Rep K B v (.lst ds)):∃ a vs,v=.ref a∧B a=some (.lst vs)∧Reps K B vs ds:=by
 cases r with | lst h r=>exact ⟨_,_,rfl,h,r⟩
theorem Rep.tup_of {B:Hp} {v:V} {ds:List D} (r:Rep K B v (.tup ds)):∃ a vs,v=.ref a∧B a=some (.tup vs)∧Reps K B vs ds:=by
 cases r with | tup h r=>exact ⟨_,_,rfl,h,r⟩
theorem flat_no_lst {B:Hp} {b:Addr} {d:D} {l:List V} (r:Rep K B (.ref b) d) (f:flat d=true) (h:B b=some (.lst l)):False:=by
 cases r with
 | tup h2 _=>rw [h] at h2; cases h2
 | lst _ _=>simp [flat] at f
 | scr _=>simp [flat] at f
 | ktup _ _=>simp [flat] at f
 | dct _ _ _ _=>simp [flat] at f
theorem flats_at:∀ {ds:List D} {n:Nat} {d:D},flats ds=true→ds[n]?=some d→flat d=true
 | [],n,d,_,h=>by simp at h
 | x :: r,0,d,f,h=>by rw [flats,Bool.and_eq_true] at f; simp at h; subst h; exact f.1
 | x :: r,n + 1,d,f,h=>by rw [flats,Bool.and_eq_true] at f; exact flats_at (n:=n) f.2 (by simpa using h)
structure Emp (K:PySem.W.Frag) (W:Addr→Prop) (σ:St) (ρ:List Sl) (H N H':Hp):Prop where
 fr:∀ a o,H a=some o→¬ frW W σ ρ a→H' a=some o
 wh:∀ a,frW W σ ρ a→Bag H' a
 tp:∀ a vs,N a=some (.tup vs)→H' a=some (.tup vs)
 ls:∀ a vs,N a=some (.lst vs)→∃ ws,H' a=some (.lst ws)
theorem Emp.clear {W:Addr→Prop} {σ:St} {ρ:List Sl} {H N H':Hp} (m:Emp K W σ ρ H N H') (hb:∀ a,frW W σ ρ a→H a≠none) {b:Addr} {vs:List V} (hN:N b=some (.lst vs)) (hH:H b=none):Emp K W σ ρ H N (upd H' b (.lst [])):=by
 refine ⟨fun a o h nw=>?_,fun a h=>?_,fun a ws h=>?_,fun a ws h=>?_⟩
 ·rw [upd_ne (by rintro rfl; rw [hH] at h; cases h)]; exact m.fr a o h nw
 ·exact (m.wh a h).upd (by rintro rfl; exact hb _ h hH)
 ·rw [upd_ne (by rintro rfl; rw [hN] at h; cases h)]; exact m.tp a ws h
 ·by_cases z:a=b
  ·subst z; exact ⟨[],upd_same⟩
  ·rw [upd_ne z]; exact m.ls a ws h
theorem Emp.start {R:Hp} {W:Addr→Prop} {B H Bz Hz:Hp} {σ σz:St} {ρ ρz:List Sl} (e:Ev K R W B H σ ρ) (ez:Ev K H (frW W σ ρ) Bz Hz σz ρz):Emp K W σ ρ H (newL H Bz) Hz∧∀ a,frW W σ ρ a→H a≠none :=
 ⟨⟨ez.fr,ez.wh,fun a vs h=>ez.bh a _ (newL_sub a _ h),fun a vs h=>⟨vs,ez.bh a _ (newL_sub a _ h)⟩⟩,ez.wr⟩
end
end L3
namespace L3
open PySem L2
section
variable {K:PySem.W.Frag} {X:Cx} {e:Expr} {es:List Expr} {u:UE} {w:UL} {pos p:Pos} {i:Nat} {rest:List Stmt}
end
end L3
namespace L2
open PySem PySem.Spec PyProof.Rows PySem.W
theorem slicePick_one (its:List Value):slicePick its.toArray none none (some 1)=its.toArray:=by
 have hb:sliceBounds none none (some 1) its.toArray.size=(0,(its.length:Int),1):=by simp [sliceBounds]
 unfold slicePick
 rw [hb]
 have hr:sliceRange 0 (its.length:Int) 1=List.range its.length:=by
  unfold sliceRange
  have c:(if (1:Int) > 0 then (if (0:Int) < (its.length:Int) then ((its.length:Int) - 0 + 1 - 1) / 1 else 0) else (if (0:Int) > (its.length:Int) then (0 - (its.length:Int) - 1 - 1) / (-1) else 0))=(its.length:Int):=by
   rw [if_pos (by decide)]
   split
   ·rw [Int.ediv_one]; omega
   ·omega
  simp only [c,Int.toNat_natCast]
  refine (List.map_congr_left (g:=id) fun k hk=>?_).trans (List.map_id _)
  show (0 + 1 * (k:Int)).toNat=k
  omega
 simp only [hr]
 congr 1
 have:∀ (l:List Value) (m:Nat),m≤l.length→(List.range m).filterMap (fun k=>l[k]?)=l.take m:=by
  intro l m
  induction m with
  | zero=>intro _; rfl
  | succ m ih =>
   intro h
   rw [List.range_succ,List.filterMap_append,ih (by omega),List.take_add_one]
   simp [List.getElem?_eq_getElem (show m < l.length by omega)]
 have z:=this its its.length (Nat.le_refl _)
 rw [List.take_length] at z
 refine Eq.trans ?_ z
 congr 1
 funext k
 simp
section
variable {X:Cx} {e st:Expr} {te ts:TE} {p2 pos:Pos}
def hand (xs:List α) (i:Int):List α:=if i=1 then xs else xs.reverse
def tHand (te ts:TE) (K:PySem.W.Frag):TE:=fun σ H Q=>te σ H fun x H1=>ts σ H1 fun i H2=>∃ n:Int,i=.int n∧(n=1∨n = -1)∧∃ a xs,x=.ref a∧SqL K H2 a xs∧∀ p,H2 p=none→Q (.ref p) (upd H2 p (.lst (hand xs n)))
theorem pe_hand (he:PE X e te) (hs:PE X st ts):PE X (.Subscript e (.Slice none none (some st) p2) pos) (tHand te ts X.K):=by
 intro pins s σ H Q I h
 refine Subscript_ (thn (he pins s σ H _ I h) fun v s1 ⟨x,H1,I1,r1,q1⟩=>?_)
 refine wpAny_Slice ?_
 rw [evalPart_none]
 refine wpAny_pure ?_
 refine wpAny_pure ?_
 rw [evalPart_some]
 refine thn (hs pins s1 σ H1 _ I1 q1) fun u s3 ⟨i,H3,I3,ri,q3⟩=>?_
 obtain ⟨n,rfl,hn,a,xs,rfl,hx,q⟩:=q3
 obtain ⟨tk,rfl⟩:=ri
 cases r1
 have I4:Inv X pins σ H3 { s3 with heap:=s3.heap.push { cls:=.type "slice", data:=.fields #[.none,.none,.int n tk] } }:=I3.kept (t':=s3.toks) fun b ob q=>Heap.get?_push_of_some _ q
 obtain ⟨its,r,ht,hz⟩:=I4.list hx
 have hlen:=r.length
 show wpAny (model X.prog X.w) X.A (subscriptTail e (.Slice none none (some st) p2) (.ref a) (.ref s3.heap.objs.size)) (EP X pins σ Q) X.xe { s3 with heap:=s3.heap.push { cls:=.type "slice", data:=.fields #[.none,.none,.int n tk] } }
 refine tail_any (ops:=[.ref a,.ref s3.heap.objs.size]) ht.isList.typeIs slot_list_getitem.lookup ?_ (by with_unfolding_all rfl)
 have hlen2:=hlen
 rcases hn with rfl | rfl
 ·have e1:hand xs 1=xs:=rfl
  rw [e1] at q
  refine wpAny_getItem_list_slice (st:=some 1) ht.isList (Heap.IsSliceOf.new ..) .none .none (.int _ _) (by simp) ?_ (by rw [List.size_toArray] <;> omega)
  rw [slicePick_one]
  refine ⟨.ref _,_,I4.laid (t':=s3.toks) (o:=.lst xs) (fun b ob q=>Heap.get?_push_of_some _ q) (Nat.le_refl _) ?_,rfl,q _ (I4.hok.fresh (Nat.le_refl _))⟩
  exact ⟨by exact hz,_,0,r,Heap.get?_push_size _ rfl⟩
 ·have e1:hand xs (-1)=xs.reverse:=rfl
  rw [e1] at q
  refine wpAny_getItem_list_slice (st:=some (-1)) ht.isList (Heap.IsSliceOf.new ..) .none .none (.int _ _) (by simp) ?_ (by rw [List.size_toArray] <;> omega)
  rw [slicePick_rev]
  refine ⟨.ref _,_,I4.laid (t':=s3.toks) (o:=.lst xs.reverse) (fun b ob q=>Heap.get?_push_of_some _ q) (Nat.le_refl _) ?_,rfl,q _ (I4.hok.fresh (Nat.le_refl _))⟩
  exact ⟨by rw [List.length_reverse]; exact hz,_,0,r.reverse,Heap.get?_push_size _ rfl⟩
end
end L2
namespace L3
open PySem L2
section
variable {X:Cx} {e st:Expr} {u us:UE} {p2 pos p:Pos} {F:FS} {a0:Expr}
theorem Reps.hand {K:PySem.W.Frag} {B:Hp} {vs:List V} {ds:List D} {n:Int} (r:Reps K B vs ds):Reps K B (L2.hand vs n) (L2.hand ds n):=by
 unfold L2.hand
 split
 ·exact r
 ·exact r.reverse
def uHand (u us:UE):UL:=fun ρ k=>u ρ fun x=>us ρ fun i=>∃ n:Int,i=.int n∧(n=1∨n = -1)∧∃ ds,itemsD x=some ds∧k (L2.hand ds n)
theorem o_hand (he:PE3 X e u) (hs:PE3 X st us):PO3 X (.Subscript e (.Slice none none (some st) p2) pos) (uHand u us):=by
 obtain ⟨_,h1,r1⟩:=he; obtain ⟨_,h2,r2⟩:=hs
 refine ⟨_,pe_hand h1 h2,fun ρ k h R W B H σ Q e q=>?_⟩
 refine r1 ρ _ h R W B H σ _ e fun d v B1 H1 z1 e1 g1 s1=>?_
 refine r2 ρ _ z1 R W B1 H1 σ _ e1 fun i iv B2 H2 z2 e2 g2 s2=>?_
 obtain ⟨n,rfl,hn,ds,hd,z⟩:=z2
 obtain ⟨a,vs,rfl,ha,rs⟩:=itemsD_ok e2.bh (s1.mono g2.s) hd
 refine ⟨n,s2.intV,hn,a,vs,rfl,ha,fun p hp=>?_⟩
 obtain ⟨f1,f2,f3,f4,f5⟩:=e2.newO hp rs.hand
 exact q _ p _ B2 _ z f1 (g1.trans g2) f2 f3 f4 rs.hand f5
end
end L3
namespace L3
open PySem L2
section
variable {X:Cx} {a b:Expr} {ua ub:UE} {pos:Pos}
end
end L3
namespace L3
open PySem PySem.W L2
def allK (h:Heap):Frag:=(List.range h.objs.size).filterMap fun a=>(h.get? a).map fun o=>(a,o)
theorem lookup_pairs (g:Nat→Option Obj) (a:Nat):∀ l:List Nat,(l.filterMap fun b=>(g b).map fun o=>(b,o)).lookup a=if a∈l then g a else none
 | []=>rfl
 | b :: l=>by
  have ih:=lookup_pairs g a l
  cases q:g b with
  | none =>
   rw [List.filterMap_cons_none (by rw [q]; rfl),ih]
   by_cases e:a=b
   ·subst e; rw [q]; simp
   ·simp [e]
  | some o =>
   rw [List.filterMap_cons_some (b:=(b,o)) (by rw [q]; rfl),List.lookup_cons]
   by_cases e:a=b
   ·subst e; simp [q]
   ·have:(a == b)=false:=by simpa using e
    simp only [this,ih,List.mem_cons,e,false_or]
theorem allK_at (h:Heap) (a:Addr):(allK h).lookup a=h.get? a:=by
 refine (lookup_pairs h.get? a _).trans ?_
 by_cases e:a < h.objs.size
 ·rw [if_pos (List.mem_range.mpr e)]
 ·rw [if_neg (fun z=>e (List.mem_range.mp z))]
  exact (Heap.get?_none_of_le (Nat.le_of_not_lt e)).symm
theorem allK_in (h:Heap):Frag.In (allK h) h:=fun a o e=>by rw [allK_at] at e; exact e
theorem nsH_is (h:Heap) (name:Str):nsIn (allK h) mainGlobals name=nsH h name:=by unfold nsIn nsH; rw [allK_at]; rfl
theorem cdH_is (h:Heap) (cd:Value) (q:Str):codeIn (allK h) cd q=cdH h cd q:=by
 unfold codeIn cdH
 cases cd <;> first | rfl | (simp only [allK_at]; rfl)
def FunOf (K:Frag) (x:Str) (st:Stmt):Prop:=∃ f fd,nsIn K mainGlobals x=some (some (.ref f))∧Fun K x x st f fd
theorem dueF_is (x:Str) (st:Stmt):dueF x st=some (x,x,defArgs st,.stmts (defBody st),defScope st,mainGlobals,[],.none,builtinsNs,true):=by cases st <;> rfl
theorem seeF_ok {h:Heap} {x:Str} {st:Stmt} (e:seeF h x=dueF x st):FunOf (allK h) x st:=by
 unfold seeF at e
 split at e
 ·rename_i f hf
  split at e
  ·rename_i oc od fd osl ho
   obtain ⟨nm,qn,ps,bd,sc,gl,cl,df,kd,doc,pm,an,cdv,ct,bu⟩:=fd
   rw [dueF_is] at e
   simp only [Option.some.injEq,Prod.mk.injEq] at e
   obtain ⟨rfl,rfl,rfl,rfl,rfl,rfl,rfl,rfl,rfl,e⟩:=e
   refine ⟨f,_,by rw [nsH_is]; exact hf,fun_mk (oc:=oc) (od:=od) (osl:=osl) (kV:=kd) (doc:=doc) (pm:=pm) (an:=an) (cdv:=cdv) (ct:=ct) (by rw [allK_at]; exact ho) (by rw [cdH_is]; exact e) ?_⟩
   unfold keepIn
   simp only [allK_at,ho]
  ·rw [dueF_is] at e; cases e
 ·rw [dueF_is] at e; cases e
def AllF (K:Frag):List (Str×Stmt)→Prop
 | []=>True
 | p :: l=>FunOf K p.1 p.2∧AllF K l
def AllB (K:Frag):List Str→Prop
 | []=>True
 | b :: l=>nsIn K mainGlobals b=some none∧AllB K l
def TupOf (K:Frag) (x:Str) (i j:Int):Prop:=∃ p od sl n ti tj,nsIn K mainGlobals x=some (some (.ref p))∧K.lookup p=some ⟨.type "tuple", od,.seq #[.int i ti,.int j tj] n,sl⟩
def AllT (K:Frag):List (Str×Int×Int)→Prop
 | []=>True
 | p :: l=>TupOf K p.1 p.2.1 p.2.2∧AllT K l
def ConOf (K:Frag) (x:Str) (c:Int ⊕ Str):Prop:=match c with
 | .inl i=>∃ t,nsIn K mainGlobals x=some (some (.int i t))
 | .inr s=>∃ t,nsIn K mainGlobals x=some (some (.str s t))
def AllC (K:Frag):List (Str×(Int ⊕ Str))→Prop
 | []=>True
 | p :: l=>ConOf K p.1 p.2∧AllC K l
structure Tab (t:Tabs) (K:Frag):Prop where
 tf:AllF K t.fs
 tb:AllB K t.bs
 tt:AllT K t.ts
 tc:AllC K t.cs
def saysH (t:Tabs) (_:World) (h:Heap):Prop:=∃ K:Frag,K.In h∧Tab t K
theorem allF_of {h:Heap}:∀ {l:List (Str×Stmt)},(l.map fun p=>seeF h p.1)=(l.map fun p=>dueF p.1 p.2)→AllF (allK h) l
 | [],_=>trivial
 | p :: l,e=>by
  simp only [List.map_cons,List.cons.injEq] at e
  exact ⟨seeF_ok e.1,allF_of e.2⟩
theorem allB_of {h:Heap}:∀ {l:List Str},(l.map fun b=>nsH h b)=(l.map fun _=>some none)→AllB (allK h) l
 | [],_=>trivial
 | p :: l,e=>by
  simp only [List.map_cons,List.cons.injEq] at e
  exact ⟨by rw [nsH_is]; exact e.1,allB_of e.2⟩
theorem seeT_ok {h:Heap} {x:Str} {i j:Int} (e:seeT h x=some (x,i,j)):TupOf (allK h) x i j:=by
 unfold seeT at e
 split at e
 ·rename_i p hp
  split at e
  ·rename_i od its n sl ho
   split at e
   ·rename_i i' ti j' tj hi
    simp only [Option.some.injEq,Prod.mk.injEq] at e
    obtain ⟨_,rfl,rfl⟩:=e
    have ea:its = #[.int i' ti,.int j' tj]:=Array.toList_inj.mp hi
    subst ea
    exact ⟨p,od,sl,n,ti,tj,by rw [nsH_is]; exact hp,by rw [allK_at]; exact ho⟩
   ·cases e
  ·cases e
 ·cases e
theorem allT_of {h:Heap}:∀ {l:List (Str×Int×Int)},(l.map fun p=>seeT h p.1)=(l.map fun p=>some p)→AllT (allK h) l
 | [],_=>trivial
 | p :: l,e=>by
  simp only [List.map_cons,List.cons.injEq] at e
  exact ⟨seeT_ok e.1,allT_of e.2⟩
theorem seeC_ok {h:Heap} {x:Str} {c:Int ⊕ Str} (e:seeC h x=some (x,c)):ConOf (allK h) x c:=by
 unfold seeC at e
 split at e
 ·rename_i i t hp
  simp only [Option.some.injEq,Prod.mk.injEq] at e
  obtain ⟨_,rfl⟩:=e
  exact ⟨t,by rw [nsH_is]; exact hp⟩
 ·rename_i i t hp
  simp only [Option.some.injEq,Prod.mk.injEq] at e
  obtain ⟨_,rfl⟩:=e
  exact ⟨t,by rw [nsH_is]; exact hp⟩
 ·cases e
theorem allC_of {h:Heap}:∀ {l:List (Str×(Int ⊕ Str))},(l.map fun p=>seeC h p.1)=(l.map fun p=>some p)→AllC (allK h) l
 | [],_=>trivial
 | p :: l,e=>by
  simp only [List.map_cons,List.cons.injEq] at e
  exact ⟨seeC_ok e.1,allC_of e.2⟩
theorem ofH (t:Tabs) (w:World) (s:Shared) (e:obsH t s=valH t w):saysH t w s.heap:=by
 simp only [obsH,valH,Prod.mk.injEq] at e
 exact ⟨allK s.heap,allK_in _,allF_of e.1,allB_of e.2.1,allT_of e.2.2.1,allC_of e.2.2.2⟩
theorem keepsH (t:Tabs) (w:World) (h h':Heap) (y:saysH t w h) (k:∀ b o,h.get? b=some o→h'.get? b=some o):saysH t w h':=by
 obtain ⟨K,x,r⟩:=y
 exact ⟨K,x.keeps k,r⟩
theorem FunOf.fnd {K:Frag} {h:Heap} {mg:Str→Option Value} {x:Str} {st:Stmt} {ps:List Str} (X:K.In h) (G:h.Ns mainGlobals mg) (F:FunOf K x st) (b:∀ f fd,Fun K x x st f fd→Binds K fd ps []):Fnd K mg x st ps:=by
 obtain ⟨f,fd,m,F⟩:=F
 exact ⟨f,fd,mg_of X G m,F,b f fd F⟩
theorem walkH {l:OpenLaw} {k:Nat} {q:Program} {loose:List Str} {XP:(Str→Option Value)→Heap→Prop} {t:Tabs} {d:DefRec} (hn:l.most=some 63) (hdf:d.params.defaults=[]) (hr:Room k callerA)
  (F:∀ (w:World) (K:Frag) (mg:Str→Option Value) (fa:Addr) (h:Heap),Tab t K→K.In h→h.Ns mainGlobals mg→mg d.name=some (.ref fa) →
   ∃ fd:FuncData,(∀ (s:Shared) (u:Value),BindsTo s fd ⟨[u],[]⟩ [("_law_script", u)])∧∀ base:Heap,K.In base→base.Ns mainGlobals mg→FnOk l.prog w K mg base CX0 k fa fd ["_law_script"] (spLaw K)) :
  WalkO q loose XP (saysH t) l.row.toRowW d [] (fun f vs=>PySem.call f vs):=by
 refine Att.attach_call hn hdf fun w s₀ s₁ mg mb fa o pm cd doc a vs ns G Y ho hd hcd hmg hobj hints hlen hg=>?_
 obtain ⟨K,KX,T⟩:=Y
 obtain ⟨fd,hb,hF⟩:=F w K mg fa _ T KX G.T.g hmg
 exact law_call KX G.T.g G.T.b G.T.builtins G.T.nolimit hg hobj hints (Nat.le_trans hlen (by decide)) hr hF hb (fun H hO hS=>⟨a,ns,rfl,hS,hlen,fun _=>rfl⟩) fun H e s' z=>z
end L3
namespace L2
open PySem PySem.Spec PyProof.Rows PySem.W
section
variable {prog:Program} {w:World} {A:Around} {E:Value→Shared→Prop} {s:Shared}
end
section
variable {X:Cx} {pos:Pos}
end
end L2
namespace L3
open PySem L2
section
variable {X:Cx} {es:List Expr} {pos:Pos}
end
end L3
namespace Cut
open PySem L2 L3
open PySem.Builtin.Int (intBits)
def sld (g p:P3):P3:=(p.1 * g.2.2 + g.1 * p.2.2,p.2.1 * g.2.2 + g.2.1 * p.2.2,p.2.2 * g.2.2)
def trn (p:P3):P3:=(-p.1,-p.2.1,p.2.2)
def mt4 (p q r s:P3):P3:=crs (crs p q) (crs r s)
def det3 (p q r:P3):Int:=(crs p q).1 * r.1 + (crs p q).2.1 * r.2.1 + (crs p q).2.2 * r.2.2
def sg (x:Int):Int:=if 0 < x then 1 else if x < 0 then -1 else 0
theorem sg_eq {x y c d:Int} (hc:0 < c) (hd:0 < d) (h:c * x=d * y):sg x=sg y:=by
 have pos:0 < x↔0 < y:=by
  constructor
  ·intro hx
   have:=Int.mul_pos hc hx
   rw [h] at this
   exact Int.pos_of_mul_pos_right this hd
  ·intro hy
   have:=Int.mul_pos hd hy
   rw [← h] at this
   exact Int.pos_of_mul_pos_right this hc
 have zer:x=0↔y=0:=by
  constructor
  ·intro hx
   rw [hx,Int.mul_zero] at h
   exact (Int.mul_eq_zero.mp h.symm).resolve_left (Int.ne_of_gt hd)
  ·intro hy
   rw [hy,Int.mul_zero] at h
   exact (Int.mul_eq_zero.mp h).resolve_left (Int.ne_of_gt hc)
 unfold sg
 by_cases h1:0 < x
 ·rw [if_pos h1,if_pos (pos.mp h1)]
 ·rw [if_neg h1,if_neg (fun z=>h1 (pos.mpr z))]
  by_cases h2:x=0
  ·rw [if_neg (by omega),if_neg (by have:=zer.mp h2; omega)]
  ·have:y≠0:=fun z=>h2 (zer.mpr z)
   have:¬ 0 < y:=fun z=>h1 (pos.mpr z)
   rw [if_pos (by omega),if_pos (by omega)]
structure Lin (L:P3→P3):Prop where
 hom:∀ c p,L (sc c p)=sc c (L p)
 z:∃ k,0 < k∧∀ p,(L p).2.2=k * p.2.2
 mt:∃ d,d≠0∧∀ p q r s,mt4 (L p) (L q) (L r) (L s)=sc d (L (mt4 p q r s))
 dt:∃ d,0 < d∧∀ p q r,det3 (L p) (L q) (L r)=d * det3 p q r
def cs (g c:P3):P3:=(g.2.2 * c.1,g.2.2 * c.2.1,g.2.2 * c.2.2 - g.1 * c.1 - g.2.1 * c.2.1)
theorem crs_sld (g p q:P3):crs (sld g p) (sld g q)=sc g.2.2 (cs g (crs p q)):=by
 refine p3_ext ?_ ?_ ?_ <;> simp only [crs,sc,sld,cs] <;> grind
theorem crs_cs (g u v:P3):crs (cs g u) (cs g v)=sc g.2.2 (sld g (crs u v)):=by
 refine p3_ext ?_ ?_ ?_ <;> simp only [crs,sc,sld,cs] <;> grind
theorem lin_sld {g:P3} (hg:0 < g.2.2):Lin (sld g):=by
 have g0:=Int.ne_of_gt hg
 refine ⟨fun c p=>by refine p3_ext ?_ ?_ ?_ <;> simp only [sc,sld] <;> grind,⟨g.2.2,hg,fun p=>by simp only [sld]; grind⟩,⟨g.2.2 * g.2.2 * g.2.2,Int.mul_ne_zero (Int.mul_ne_zero g0 g0) g0,fun p q r s=>?_⟩,⟨g.2.2 * g.2.2 * g.2.2,Int.mul_pos (Int.mul_pos hg hg) hg,fun p q r=>?_⟩⟩
 ·unfold mt4
  rw [crs_sld,crs_sld,crs_sc,crs_cs,sc_sc]
 ·unfold det3
  rw [crs_sld]
  generalize crs p q=c
  simp only [sc,cs,sld]
  grind
theorem crs_trn (p q:P3):crs (trn p) (trn q)=trn (crs p q):=by
 refine p3_ext ?_ ?_ ?_ <;> simp only [crs,trn] <;> grind
theorem lin_trn:Lin trn:=by
 refine ⟨fun c p=>by refine p3_ext ?_ ?_ ?_ <;> simp only [sc,trn] <;> grind,⟨1,by decide,fun p=>by simp only [trn]; grind⟩,⟨1,by decide,fun p q r s=>?_⟩,⟨1,by decide,fun p q r=>?_⟩⟩
 ·unfold mt4
  rw [crs_trn,crs_trn,crs_trn]
  refine p3_ext ?_ ?_ ?_ <;> simp only [sc] <;> grind
 ·unfold det3
  rw [crs_trn]
  generalize crs p q=c
  simp only [trn]
  grind
theorem Lin.low {L:P3→P3} (l:Lin L) {p:P3} (hp:0 < p.2.2):0 < (L p).2.2∧∃ k,0 < k∧L p=sc k (nP (L p)):=by
 obtain ⟨k,k0,e⟩:=l.z
 have pos:0 < (L p).2.2:=by rw [e]; exact Int.mul_pos k0 hp
 obtain ⟨g,g0,eg⟩:=nP_sc (Int.ne_of_gt pos)
 have n0:=(nP_pt (Int.ne_of_gt pos)).1
 refine ⟨pos,g,?_,eg⟩
 have e3:(L p).2.2=g * (nP (L p)).2.2:=congrArg (fun p:P3=>p.2.2) eg
 rw [e3] at pos
 exact Int.pos_of_mul_pos_left pos n0
theorem det3_sc (a b c:Int) (p q r:P3):det3 (sc a p) (sc b q) (sc c r)=a * b * c * det3 p q r:=by
 simp only [det3,crs_sc]
 generalize crs p q=u
 simp only [sc]
 grind
theorem Lin.side {L:P3→P3} (l:Lin L) {p q r:P3} (hp:0 < p.2.2) (hq:0 < q.2.2) (hr:0 < r.2.2):sg (det3 (nP (L p)) (nP (L q)) (nP (L r)))=sg (det3 p q r):=by
 obtain ⟨_,a,a0,ea⟩:=l.low hp
 obtain ⟨_,b,b0,eb⟩:=l.low hq
 obtain ⟨_,c,c0,ec⟩:=l.low hr
 obtain ⟨d,d0,ed⟩:=l.dt
 refine sg_eq (Int.mul_pos (Int.mul_pos a0 b0) c0) d0 ?_
 rw [← det3_sc,← ea,← eb,← ec,ed]
theorem nP_trn {p:P3} (hp:PtP p):nP (trn p)=trn p:=nP_self (pt_neg hp)
end Cut
namespace Cut
open PySem L2 L3
open PySem.Builtin.Int (intBits)
theorem cop_of {a b:Int} (h:∀ k:Int,k ∣ a→k ∣ b→k ∣ 1):Int.gcd a b=1:=by
 have q:=Int.natAbs_dvd_natAbs.mpr (h _ (Int.gcd_dvd_left a b) (Int.gcd_dvd_right a b))
 simpa using q
theorem cop_out {a b k:Int} (g:Int.gcd a b=1) (h1:k ∣ a) (h2:k ∣ b):k ∣ 1:=by
 have:=Int.dvd_coe_gcd h1 h2
 rw [g] at this
 exact this
theorem dvd_co' {k n m:Int} (h:k ∣ n * m) (g:Int.gcd k m=1):k ∣ n:=dvd_co (by rw [Int.mul_comm]; exact h) g
theorem cop_sub {a b k:Int} (g:Int.gcd a b=1) (h:k ∣ a):Int.gcd k b=1:=cop_of fun j h1 h2=>cop_out g (Int.dvd_trans h1 h) h2
theorem npt_eq {x y z a b n:Int} (p:Pt x y z) (hn:n≠0) (e1:x * n=a * z) (e2:y * n=b * z):npt a b n=(x,y,z):=by
 obtain ⟨q,f1,f2,_⟩:=npt_spec (a:=a) (b:=b) hn
 obtain ⟨h1,h2,h3⟩:=pt_uniq q p (Int.eq_of_mul_eq_mul_right hn (by grind)) (Int.eq_of_mul_eq_mul_right hn (by grind))
 exact Prod.ext h1 (Prod.ext h2 h3)
theorem gcd_parts {a b:Int} (h:a≠0∨b≠0):∃ x y:Int,a=((Int.gcd a b:Nat):Int) * x∧b=((Int.gcd a b:Nat):Int) * y∧Int.gcd x y=1:=by
 obtain ⟨x,hx⟩:=Int.gcd_dvd_left a b
 obtain ⟨y,hy⟩:=Int.gcd_dvd_right a b
 refine ⟨x,y,hx,hy,?_⟩
 have pos:0 < Int.gcd a b:=by
  rcases h with h | h
  ·exact Int.gcd_pos_of_ne_zero_left b h
  ·exact Int.gcd_pos_of_ne_zero_right a h
 have q:Int.gcd a b=(((Int.gcd a b:Nat):Int)).natAbs * Int.gcd x y:=gcd_fac hx hy
 rw [Int.natAbs_natCast] at q
 exact Nat.eq_of_mul_eq_mul_left pos (by omega)
theorem gcd_ne {a b:Int} (h:a≠0∨b≠0):((Int.gcd a b:Nat):Int)≠0:=by
 have pos:0 < Int.gcd a b:=by
  rcases h with h | h
  ·exact Int.gcd_pos_of_ne_zero_left b h
  ·exact Int.gcd_pos_of_ne_zero_right a h
 omega
theorem gcd_pos2 {a b:Int} (h:a≠0∨b≠0):0 < ((Int.gcd a b:Nat):Int):=by
 have:=gcd_ne h
 omega
theorem pos_r {s y:Int} (s0:0 < s) (h:0 < s * y):0 < y:=Int.pos_of_mul_pos_right h s0
theorem pt_cop {x y z:Int} (h:∀ k:Int,k ∣ x→k ∣ y→k ∣ z→k ∣ 1):Int.gcd (Int.gcd x y:Nat) z=1 :=
 cop_of fun k h1 h2=>h k (Int.dvd_trans h1 (Int.gcd_dvd_left x y)) (Int.dvd_trans h1 (Int.gcd_dvd_right x y)) h2
theorem pt_out {x y z k:Int} (g:Int.gcd (Int.gcd x y:Nat) z=1) (h1:k ∣ x) (h2:k ∣ y) (h3:k ∣ z):k ∣ 1:=cop_out g (Int.dvd_coe_gcd h1 h2) h3
theorem slid_cop {a b n r w k N M:Int} (g:Int.gcd (Int.gcd a b:Nat) n=1) (hn:N ∣ n) (gN:Int.gcd N M=1) (h1:k ∣ a * M + r * N) (h2:k ∣ b * M + w * N) (h3:k ∣ N):k ∣ 1:=by
 have q1:k ∣ a * M:=by
  have:=Int.dvd_sub h1 (Int.dvd_mul_of_dvd_right h3 (b:=r))
  simpa using this
 have q2:k ∣ b * M:=by
  have:=Int.dvd_sub h2 (Int.dvd_mul_of_dvd_right h3 (b:=w))
  simpa using this
 exact pt_out g (dvd_co' q1 (cop_sub gN h3)) (dvd_co' q2 (cop_sub gN h3)) (Int.dvd_trans h3 hn)
theorem slid_low {a b n r w m : Int} (p1 : Pt a b n) (p2 : Pt r w m) {s X Y d : Int} (hs : s = (Int.gcd n m : Nat)) (hX : X = a * m.fdiv s + r * n.fdiv s) (hYY : Y = b * m.fdiv s + w * n.fdiv s) (hd : d = (Int.gcd ((Int.gcd s X : Nat) : Int) Y : Nat)) :
    (X.fdiv d, Y.fdiv d, n.fdiv s * m.fdiv d) = npt (a * m + r * n) (b * m + w * n) (n * m) := by
  obtain ⟨n0, g1⟩ := p1
  obtain ⟨m0, g2⟩ := p2
  obtain ⟨N, M, hN, hM, gNM⟩ := gcd_parts (a := n) (b := m) (.inl (Int.ne_of_gt n0))
  have s0 : 0 < s := by rw [hs]; exact gcd_pos2 (.inl (Int.ne_of_gt n0))
  rw [← hs] at hN hM
  have s1 := Int.ne_of_gt s0
  rw [fdiv_of hN s1, fdiv_of hM s1] at hX hYY
  obtain ⟨S1, X1, hS1, hX1, gSX⟩ := gcd_parts (a := s) (b := X) (.inl s1)
  have e1 := gcd_ne (a := s) (b := X) (.inl s1)
  obtain ⟨E, Y1, hE, hY1, gEY⟩ := gcd_parts (a := ((Int.gcd s X : Nat) : Int)) (b := Y) (.inl e1)
  have d0 : 0 < d := by rw [hd]; exact gcd_pos2 (.inl e1)
  rw [← hd] at hE hY1
  have d1 := Int.ne_of_gt d0
  have hS : s = d * (E * S1) := by rw [hS1]; conv => lhs; rw [hE]
                                   rw [Int.mul_assoc]
  have hX2 : X = d * (E * X1) := by rw [hX1]; conv => lhs; rw [hE]
                                    rw [Int.mul_assoc]
  have hm2 : m = d * (E * S1 * M) := by rw [hM, hS, Int.mul_assoc]
  rw [fdiv_of hX2 d1, fdiv_of hY1 d1, fdiv_of hN s1, fdiv_of hm2 d1]
  have N0 : 0 < N := pos_r s0 (by omega)
  have M0 : 0 < M := pos_r s0 (by omega)
  have S0 : 0 < E * S1 := pos_r d0 (by omega)
  refine (npt_eq ⟨Int.mul_pos N0 (Int.mul_pos S0 M0), ?_⟩ (Int.ne_of_gt (Int.mul_pos n0 m0)) ?_ ?_).symm
  · refine pt_cop fun k h1 h2 h3 => ?_
    have kX : k ∣ X := by rw [hX2]; exact Int.dvd_mul_of_dvd_right h1
    have kY : k ∣ Y := by rw [hY1]; exact Int.dvd_mul_of_dvd_right h2
    have c1 : Int.gcd k N = 1 := cop_of fun j j1 j2 => slid_cop g1 ⟨s, by rw [hN, Int.mul_comm]⟩ gNM (by rw [← hX]; exact Int.dvd_trans j1 kX) (by rw [← hYY]; exact Int.dvd_trans j1 kY) j2
    have c2 : Int.gcd k M = 1 := cop_of fun j j1 j2 => slid_cop (a := r) (b := w) (n := m) (r := a) (w := b) (N := M) (M := N) g2 ⟨s, by rw [hM, Int.mul_comm]⟩ (by rw [Int.gcd_comm]; exact gNM) (by rw [Int.add_comm, ← hX]; exact Int.dvd_trans j1 kX) (by rw [Int.add_comm, ← hYY]; exact Int.dvd_trans j1 kY) j2
    have h4 : k ∣ E * S1 := dvd_co' (dvd_co h3 c1) c2
    have h5 : k ∣ E := by
      have z := Int.dvd_coe_gcd h4 h1
      rw [Int.gcd_mul_left, gSX, Nat.mul_one] at z
      exact Int.dvd_trans z (Int.natAbs_dvd.mpr (Int.dvd_refl E))
    exact cop_out gEY h5 h2
  · grind
  · grind
end Cut
namespace Cut
open PySem L2 L3
open PySem.Builtin.Int (intBits)
theorem BP.sld {m n:Nat} {g p:P3} (hg:BP m g) (hp:BP n p):BP (n + m + 1) (Cut.sld g p):=by
 refine ⟨?_,?_,?_⟩
 ·exact Nat.le_trans (intBits_add_le (intBits_mul_le hp.a hg.c) (intBits_mul_le hg.a hp.c)) (by omega)
 ·exact Nat.le_trans (intBits_add_le (intBits_mul_le hp.b hg.c) (intBits_mul_le hg.b hp.c)) (by omega)
 ·exact Nat.le_trans (intBits_mul_le hp.c hg.c) (by omega)
theorem BP.trn {m:Nat} {p:P3} (hp:BP m p):BP m (Cut.trn p):=⟨intBits_neg_le hp.a,intBits_neg_le hp.b,hp.c⟩
theorem PtP.trn {p:P3} (h:PtP p):PtP (Cut.trn p):=pt_neg h
theorem sld_ne {g p:P3} (hg:PtP g) (hp:PtP p):(sld g p).2.2≠0:=one_ne hp.1 hg.1
theorem PtP.sld {g p:P3} (hg:PtP g) (hp:PtP p):PtP (nP (Cut.sld g p)):=nP_pt (sld_ne hg hp)
theorem BP.sldN {m n:Nat} {g p:P3} (hg:BP m g) (hp:BP n p) (qg:PtP g) (qp:PtP p):BP (n + m + 1) (Cut.nP (Cut.sld g p)):=(hg.sld hp).nP (sld_ne qg qp)
theorem sg_neg (x:Int):sg (-x) = -sg x:=by
 unfold sg
 split <;> split <;> (try split) <;> (try split) <;> omega
theorem sg_int (x:Int):(if 0 < x then (1:Int) else 0) - (if x < 0 then 1 else 0)=sg x:=by
 unfold sg
 split <;> split <;> omega
theorem det3_two (p q:P3):det3 p q q=0:=by unfold det3 crs; grind
end Cut
namespace Cut
open PySem L2 L3
open PySem.Builtin.Int (intBits)
def nth (ps:List P3) (n:Nat):P3:=(ps[n]?).getD (0,0,1)
theorem nth_eq {ps:List P3} {n:Nat} (h:n < ps.length):nth ps n=ps[n]:=by unfold nth; rw [List.getElem?_eq_getElem h]; rfl
theorem nth_mem {ps:List P3} {n:Nat} (h:n < ps.length):nth ps n∈ps:=by rw [nth_eq h]; exact List.getElem_mem h
theorem atI_nth {ps:List P3} {n:Nat} (h:n < ps.length):atI (ps.map dP) (n:Int)=some (dP (nth ps n)):=by rw [nth_eq h]; exact atI_map (atI_ofNat h)
def Cvx (ps:List P3):Prop:=3≤ps.length∧∀ k j,k < ps.length→j < ps.length→j≠k→j≠(k + 1) % ps.length→sg (det3 (nth ps k) (nth ps ((k + 1) % ps.length)) (nth ps j))=1
theorem cvx3 {p q r:P3} (h:sg (det3 p q r)=1):Cvx [p,q,r]:=by
 refine ⟨by simp,fun k j hk hj h1 h2=>?_⟩
 have l:[p,q,r].length=3:=rfl
 rw [l] at hk hj h2 ⊢
 have c1:det3 q r p=det3 p q r:=by unfold det3 crs; grind
 have c2:det3 r p q=det3 p q r:=by unfold det3 crs; grind
 have:k=0∨k=1∨k=2:=by omega
 rcases this with rfl | rfl | rfl
 ·have:j=2:=by omega
  subst this
  exact h
 ·have:j=0:=by omega
  subst this
  show sg (det3 q r p)=1
  rw [c1]; exact h
 ·have:j=1:=by omega
  subst this
  show sg (det3 r p q)=1
  rw [c2]; exact h
abbrev Piece:=List P3×Bool×P3
def dS (s:Piece):D:=.tup [.lst (s.1.map dP),.bl s.2.1,dP s.2.2]
structure GP (m:Nat) (p:P3):Prop where
 pt:PtP p
 bp:BP m p
theorem GP.mono {m n:Nat} {p:P3} (h:GP m p) (l:m≤n):GP n p:=⟨h.pt,h.bp.mono l⟩
theorem GP.trn {m:Nat} {p:P3} (h:GP m p):GP m (Cut.trn p):=⟨h.pt.trn,h.bp.trn⟩
theorem GP.sl {m n:Nat} {g p:P3} (hg:GP m g) (h:GP n p):GP (n + m + 1) (nP (sld g p)):=⟨hg.pt.sld h.pt,hg.bp.sldN h.bp hg.pt h.pt⟩
theorem sg_trn {p q r:P3} (hp:PtP p) (hq:PtP q) (hr:PtP r):sg (det3 (trn p) (trn q) (trn r))=sg (det3 p q r):=by
 have:=lin_trn.side hp.1 hq.1 hr.1
 rw [nP_trn hp,nP_trn hq,nP_trn hr] at this
 exact this
theorem has_P (p:P3):has (.T [.I,.I,.I]) (dP p)=true:=rfl
theorem has_Ps (ps:List P3):has (.L (.T [.I,.I,.I])) (.lst (ps.map dP))=true:=by
 simp only [has,List.all_eq_true]
 intro x hx
 obtain ⟨p,_,rfl⟩:=List.mem_map.mp hx
 exact has_P p
theorem side_det (p q r:P3):p.1 * (q.2.1 * r.2.2 - q.2.2 * r.2.1) - p.2.1 * (q.1 * r.2.2 - q.2.2 * r.1) + p.2.2 * (q.1 * r.2.1 - q.2.1 * r.1)=det3 p q r:=by unfold det3 crs; grind
theorem compG_none {α:Type} {f:α→D} {ut:UT} {u:UE} {fs:List Sl}:∀ {rs:List α} {v0:Sl} {k:List D→Prop},(∀ r∈rs,∀ k:Bool→Prop,k false→ut (.val (f r) :: fs) k)→k []→compG (ugName 0) ut u (rs.map f) (v0 :: fs) k
 | [],_,_,_,hk=>hk
 | r :: rs,v0,k,h,hk=>by
  refine h r List.mem_cons_self _ ?_
  rw [if_neg Bool.false_ne_true]
  exact compG_none (fun x hx=>h x (List.mem_cons_of_mem _ hx)) hk
theorem emod_cast (k n:Nat):((k:Int) + 1) % (n:Int)=(((k + 1) % n:Nat):Int):=by
 rw [Int.natCast_emod]
 rfl
theorem compG_gen {u:UE} {fs:List Sl} {Pp:P3→Prop}:∀ {ds:List D} {v0:Sl} {k:List D→Prop},(∀ d∈ds,∀ k:D→Prop,(∀ p,Pp p→k (dP p))→u (.val d :: fs) k)→(∀ ps:List P3,ps.length=ds.length→(∀ p∈ps,Pp p)→k (ps.map dP))→compG (ugName 0) utTrue u ds (v0 :: fs) k
 | [],_,_,_,hk=>hk [] rfl (fun _ h=>by simp at h)
 | d :: ds,v0,k,h,hk=>by
  show (if true=true then u (.val d :: fs) fun y=>compG (ugName 0) utTrue u ds (.val d :: fs) fun ys=>k (y :: ys) else compG (ugName 0) utTrue u ds (.val d :: fs) k)
  rw [if_pos rfl]
  refine h d List.mem_cons_self _ fun p hp=>?_
  refine compG_gen (Pp:=Pp) (fun x hx=>h x (List.mem_cons_of_mem _ hx)) fun ps hl hps=>?_
  exact hk (p :: ps) (by simp [hl]) (fun q hq=>by
   rcases List.mem_cons.mp hq with rfl | hq
   ·exact hp
   ·exact hps q hq)
theorem sg_cases (x:Int):sg x=1∨sg x = -1∨sg x=0:=by
 unfold sg
 split
 ·exact .inl rfl
 ·split
  ·exact .inr (.inl rfl)
  ·exact .inr (.inr rfl)
theorem det3_rev (p q r:P3):det3 r q p = -det3 p q r:=by unfold det3 crs; grind
abbrev tg3:UG:=ugTup 3 (ugCons (ugName 0) (ugCons (ugName 1) (ugCons (ugName 2) ugNil)))
theorem compG_sh {u:UE} {fs:List Sl} {h:Piece→D}:∀ {sh:List Piece} {v0 v1 v2:Sl} {k:List D→Prop},(∀ s∈sh,∀ k:D→Prop,k (h s)→u (.val (.lst (s.1.map dP)) :: .val (.bl s.2.1) :: .val (dP s.2.2) :: fs) k)→k (sh.map h)→compG tg3 utTrue u (sh.map dS) (v0 :: v1 :: v2 :: fs) k
 | [],_,_,_,_,_,hk=>hk
 | s :: sh,v0,v1,v2,k,hu,hk=>by
  refine ⟨_,rfl,rfl,_,_,rfl,_,_,rfl,_,_,rfl,rfl,?_⟩
  show (if true=true then u (.val (.lst (s.1.map dP)) :: .val (.bl s.2.1) :: .val (dP s.2.2) :: fs) fun y=>compG tg3 utTrue u (sh.map dS) (.val (.lst (s.1.map dP)) :: .val (.bl s.2.1) :: .val (dP s.2.2) :: fs) fun ys=>k (y :: ys) else compG tg3 utTrue u (sh.map dS) (.val (.lst (s.1.map dP)) :: .val (.bl s.2.1) :: .val (dP s.2.2) :: fs) k)
  rw [if_pos rfl]
  refine hu s List.mem_cons_self _ ?_
  exact compG_sh (fun x hx=>hu x (List.mem_cons_of_mem _ hx)) hk
theorem flats_P (f:P3→P3):∀ ps:List P3,flats (ps.map fun p=>dP (f p))=true
 | []=>rfl
 | p :: r=>by
  rw [List.map_cons,flats,flats_P f r]
  rfl
theorem flats_P0 (ps:List P3):flats (ps.map dP)=true:=flats_P id ps
abbrev shS:Sh:=.L (.T [.L (.T [.I,.I,.I]),.B,.T [.I,.I,.I]])
theorem has_S (sh:List Piece):has shS (.lst (sh.map dS))=true:=by
 simp only [has,List.all_eq_true]
 intro x hx
 obtain ⟨s,_,rfl⟩:=List.mem_map.mp hx
 have h1:=has_Ps s.1
 have h2:=has_P s.2.2
 simp only [dS,hass,has] at h1 h2 ⊢
 rw [h1]
 simpa using h2
theorem forR_sh {a b c:Nat} {s:US} {U:UEnds} (I:List Piece→List Sl→Prop):∀ {sh done:List Piece} {ρ:List Sl},I done ρ →
  (∀ pre x rest ρ,done ++ sh=pre ++ x :: rest→I pre ρ→∀ N:List Sl→Prop,(∀ r,I (pre ++ [x]) r→N r)→s { U with nx:=N,ct:=N,bk:=U.nx } (((ρ.set a (.val (.lst (x.1.map dP)))).set b (.val (.bl x.2.1))).set c (.val (dP x.2.2)))) →
  (∀ ρ,I (done ++ sh) ρ→U.nx ρ)→forR (ugTup 3 (ugCons (ugName a) (ugCons (ugName b) (ugCons (ugName c) ugNil)))) s U (sh.map dS) ρ
 | [],done,ρ,h0,_,h2=>h2 ρ (by rw [List.append_nil]; exact h0)
 | x :: sh,done,ρ,h0,h1,h2=>by
  refine ⟨_,rfl,rfl,_,_,rfl,_,_,rfl,_,_,rfl,rfl,?_⟩
  refine h1 done x sh ρ rfl h0 _ fun r hr=>?_
  refine forR_sh I hr (fun pre y rest ρ e=>h1 pre y rest ρ (by rw [← e]; simp)) fun ρ h=>h2 ρ ?_
  have e:done ++ [x] ++ sh=done ++ x :: sh:=by simp
  rw [← e]; exact h
end Cut
namespace Cut
open PySem L2 L3
open PySem.Builtin.Int (intBits)
theorem sg_pos {x:Int} (h:0 < x):sg x=1:=by unfold sg; rw [if_pos h]
section
variable {w h:Int×Int}
end
def stp (a:Int×Int) (p q:P3):Int×Int:=(a.1 * p.2.2 * q.2.2 + (p.1 * q.2.1 - p.2.1 * q.1) * a.2,a.2 * p.2.2 * q.2.2)
def ta (ps:List P3) (k:Nat):Int×Int:=(List.range k).foldl (fun a k=>stp a (nth ps ((k + ps.length - 1) % ps.length)) (nth ps k)) (0,1)
theorem ta_succ (ps:List P3) (k:Nat):ta ps (k + 1)=stp (ta ps k) (nth ps ((k + ps.length - 1) % ps.length)) (nth ps k):=by
 unfold ta; rw [List.range_succ,List.foldl_append]; rfl
theorem ta_ok {ps:List P3} {m:Nat} (hps:∀ p∈ps,GP m p):∀ k,k≤ps.length→0 < (ta ps k).2∧intBits (ta ps k).1≤(2 * m + 2) * k + 1∧intBits (ta ps k).2≤(2 * m + 2) * k + 1
 | 0,_=>⟨(show (0:Int) < 1 by decide),Nat.le_trans (show intBits 0≤1 by decide) (by omega),Nat.le_trans (show intBits 1≤1 by decide) (by omega)⟩
 | k + 1,h=>by
  obtain ⟨b0,b1,b2⟩:=ta_ok hps k (by omega)
  have n0:0 < ps.length:=by omega
  have hp:=hps _ (nth_mem (ps:=ps) (Nat.mod_lt (k + ps.length - 1) n0))
  have hq:=hps _ (nth_mem (ps:=ps) (n:=k) (by omega))
  rw [ta_succ]
  generalize nth ps ((k + ps.length - 1) % ps.length)=p at *
  generalize nth ps k=q at *
  generalize ta ps k=a at *
  have e:(2 * m + 2) * (k + 1) + 1=(2 * m + 2) * k + 1 + (2 * m + 2):=by rw [Nat.mul_add]; omega
  rw [e]
  refine ⟨Int.mul_pos (Int.mul_pos b0 hp.pt.1) hq.pt.1,?_,?_⟩
  ·refine Nat.le_trans (intBits_add_le (m:=(2 * m + 2) * k + 1 + m + m) (n:=m + m + 1 + ((2 * m + 2) * k + 1)) ?_ ?_) (by omega)
   ·exact intBits_mul_le (intBits_mul_le b1 hp.bp.c) hq.bp.c
   ·refine intBits_mul_le ?_ b2
    exact Nat.le_trans (intBits_sub_le (intBits_mul_le hp.bp.a hq.bp.b) (intBits_mul_le hp.bp.b hq.bp.a)) (by omega)
  ·exact Nat.le_trans (intBits_mul_le (intBits_mul_le b2 hp.bp.c) hq.bp.c) (by omega)
def taP (ps:List P3):P3:=npt (ta ps ps.length).1 0 (ta ps ps.length).2
theorem ta3 (a b c:P3):ta [a,b,c] 3=stp (stp (stp (0,1) c a) a b) b c:=by rw [ta_succ,ta_succ,ta_succ,show [a,b,c].length=3 from rfl]; rfl
section
variable {w h:Int×Int}
end
theorem atI_back1 {ps:List P3} {k:Nat} (h:k < ps.length):atI (ps.map dP) ((k:Int) - 1)=some (dP (nth ps ((k + ps.length - 1) % ps.length))):=by
 cases k with
 | zero =>
  have e:((0:Nat) + ps.length - 1) % ps.length=ps.length - 1:=by rw [Nat.zero_add]; exact Nat.mod_eq_of_lt (by omega)
  rw [e,nth_eq (by omega)]
  unfold atI ixN
  rw [if_neg (by omega),if_pos (by rw [List.length_map]; omega)]
  show (ps.map dP)[_]?=_
  rw [List.getElem?_map,List.length_map,show (((0:Nat):Int) - 1 + (ps.length:Int)).toNat=ps.length - 1 by omega,List.getElem?_eq_getElem (by omega)]
  rfl
 | succ k =>
  have e:(k + 1 + ps.length - 1) % ps.length=k:=by
   rw [show k + 1 + ps.length - 1=k + ps.length by omega,Nat.add_mod_right]; exact Nat.mod_eq_of_lt (by omega)
  rw [e,show (((k + 1:Nat):Int) - 1)=(k:Int) by omega]
  exact atI_nth (by omega)
section
variable {s w h:Int×Int}
end
end Cut
namespace L2
open PySem PySem.Spec PyProof.Rows PySem.W
section
variable {X:Cx}
end
end L2
namespace L2
open PySem PySem.Spec PyProof.Rows PySem.W
section
variable {X:Cx}
end
end L2
namespace L3
open PySem L2
section
variable {X:Cx} {a b c e:Expr} {ua ub uc u:UE} {pos p p1 p2 p3:Pos}
section
variable {o:Expr} {uo:UE} {ul:UL} {apos cpos:Pos}
end
end
end L3
namespace L3
open PySem L2 PyProof.Rows
end L3
namespace L2
open PySem PySem.Spec PyProof.Rows PySem.W
section
variable {X:Cx}
end
end L2
namespace L3
open PySem L2
section
variable {X:Cx} {a b c e:Expr} {ua ub uc u:UE} {pos p p1 p2 p3:Pos}
section
variable {o:Expr} {uo:UE} {ul:UL} {apos cpos:Pos}
end
end
end L3
namespace L2
open PySem PySem.Spec PyProof.Rows PySem.W
end L2
namespace L3
open PySem L2 PySem.W
section
variable (K:PySem.W.Frag) (R:Hp)
end
section
variable {X:Cx} {R:Hp} {Z:Prop} {a b c e:Expr} {es:List Expr} {ua ub u u':UE} {ul:UL} {uc:UT} {s t:US} {pos p:Pos} {E:XK} {C:Addr}
end
section
variable {P:Program} {w:World} {K:PySem.W.Frag} {mg:Str→Option Value} {base:Heap}
end
end L3
namespace L3
open PySem L2 PyProof.Rows
end L3
namespace Cut
open PySem L2 L3
open PySem.Builtin.Int (intBits)
theorem d_cyc (p q r:P3):det3 q r p=det3 p q r:=by unfold det3 crs; grind
theorem d_same (p q:P3):det3 p p q=0:=by unfold det3 crs; grind
theorem plucker (o u a b c:P3):det3 o u b * det3 o a c=det3 o u a * det3 o b c + det3 o u c * det3 o a b:=by
 unfold det3 crs; grind
theorem sg_one {x:Int} (h:sg x=1):0 < x:=by
 unfold sg at h
 split at h
 ·assumption
 ·split at h <;> omega
def Tri (ps:List P3):Prop:=∀ i j k,i < j→j < k→k < ps.length→0 < det3 (nth ps i) (nth ps j) (nth ps k)
theorem Cvx.edge {ps:List P3} (h:Cvx ps) {k j:Nat} (hk:k + 1 < ps.length) (hj:j < ps.length) (n1:j≠k) (n2:j≠k + 1):0 < det3 (nth ps k) (nth ps (k + 1)) (nth ps j):=by
 have:=h.2 k j (by omega) hj n1 (by rw [Nat.mod_eq_of_lt hk]; exact n2)
 rw [Nat.mod_eq_of_lt hk] at this
 exact sg_one this
theorem Cvx.tri {ps:List P3} (h:Cvx ps):Tri ps:=by
 intro i j k hij hjk hk
 induction k with
 | zero=>omega
 | succ k ih =>
  by_cases e:j=k
  ·subst e
   rw [← d_cyc]
   exact h.edge hk (by omega) (by omega) (by omega)
  ·have h1:=ih (by omega) (by omega)
   have h2:0 < det3 (nth ps i) (nth ps k) (nth ps (k + 1)):=by
    rw [← d_cyc]
    exact h.edge hk (by omega) (by omega) (by omega)
   have ub:=h.edge (k:=i) (j:=k) (by omega) (by omega) (by omega) (by omega)
   have uc:=h.edge (k:=i) (j:=k + 1) (by omega) (by omega) (by omega) (by omega)
   have ua:0≤det3 (nth ps i) (nth ps (i + 1)) (nth ps j):=by
    by_cases z:j=i + 1
    ·subst z
     have:det3 (nth ps i) (nth ps (i + 1)) (nth ps (i + 1))=0:=det3_two _ _
     omega
    ·exact Int.le_of_lt (h.edge (by omega) (by omega) (by omega) z)
   have pl:=plucker (nth ps i) (nth ps (i + 1)) (nth ps j) (nth ps k) (nth ps (k + 1))
   have r1:=Int.mul_nonneg ua (Int.le_of_lt h2)
   have r2:=Int.mul_pos uc h1
   have:0 < det3 (nth ps i) (nth ps (i + 1)) (nth ps k) * det3 (nth ps i) (nth ps j) (nth ps (k + 1)):=by omega
   exact Int.pos_of_mul_pos_right this ub
def T1 (a:P3):List P3→Prop
 | []=>True
 | b :: r=>(∀ c∈r,0 < det3 a b c)∧T1 a r
def T0:List P3→Prop
 | []=>True
 | a :: r=>T1 a r∧T0 r
theorem T1.sub {a:P3} {l m:List P3} (s:l.Sublist m):T1 a m→T1 a l:=by
 induction s with
 | slnil=>exact id
 | cons b s ih=>exact fun h=>ih h.2
 | cons_cons b s ih=>exact fun h=>⟨fun c hc=>h.1 c (s.subset hc),ih h.2⟩
theorem T0.sub {l m:List P3} (s:l.Sublist m):T0 m→T0 l:=by
 induction s with
 | slnil=>exact id
 | cons b s ih=>exact fun h=>ih h.2
 | cons_cons b s ih=>exact fun h=>⟨T1.sub s h.1,ih h.2⟩
theorem nth_succ (a:P3) (r:List P3) (i:Nat):nth (a :: r) (i + 1)=nth r i:=rfl
theorem nth_zero (a:P3) (r:List P3):nth (a :: r) 0=a:=rfl
theorem nth_memL {r:List P3} {i:Nat} (h:i < r.length):nth r i∈r:=by
 induction r generalizing i with
 | nil=>exact absurd h (by simp)
 | cons a r ih =>
  cases i with
  | zero=>exact List.mem_cons_self
  | succ i=>exact List.mem_cons_of_mem _ (ih (by simpa using h))
theorem mem_nthL {r:List P3} {c:P3} (h:c∈r):∃ i,i < r.length∧nth r i=c:=by
 induction r with
 | nil=>cases h
 | cons a r ih =>
  rcases List.mem_cons.mp h with rfl | h
  ·exact ⟨0,by simp,rfl⟩
  ·obtain ⟨i,hi,e⟩:=ih h
   exact ⟨i + 1,by simpa using hi,e⟩
theorem t1_iff (a:P3):∀ r:List P3,T1 a r↔∀ j k,j < k→k < r.length→0 < det3 a (nth r j) (nth r k)
 | []=>⟨fun _ j k _ h=>absurd h (by simp),fun _=>trivial⟩
 | b :: r=>by
  constructor
  ·rintro ⟨h1,h2⟩ j k hjk hk
   cases k with
   | zero=>omega
   | succ k =>
    have hk:k < r.length:=by simpa using hk
    cases j with
    | zero=>exact h1 _ (nth_memL hk)
    | succ j=>exact (t1_iff a r).mp h2 j k (by omega) hk
  ·intro h
   refine ⟨fun c hc=>?_,(t1_iff a r).mpr fun j k hjk hk=>h (j + 1) (k + 1) (by omega) (by simpa using hk)⟩
   obtain ⟨i,hi,rfl⟩:=mem_nthL hc
   exact h 0 (i + 1) (by omega) (by simpa using hi)
theorem t0_iff:∀ ps:List P3,T0 ps↔Tri ps
 | []=>⟨fun _ i j k _ _ h=>absurd h (by simp),fun _=>trivial⟩
 | a :: r=>by
  constructor
  ·rintro ⟨h1,h2⟩ i j k hij hjk hk
   cases k with
   | zero=>omega
   | succ k =>
    cases j with
    | zero=>omega
    | succ j =>
     have hk:k < r.length:=by simpa using hk
     cases i with
     | zero=>exact (t1_iff a r).mp h1 j k (by omega) hk
     | succ i=>exact (t0_iff r).mp h2 i j k (by omega) (by omega) hk
  ·intro h
   exact ⟨(t1_iff a r).mpr fun j k hjk hk=>h 0 (j + 1) (k + 1) (by omega) (by omega) (by simpa using hk),(t0_iff r).mpr fun i j k h1 h2 hk=>h (i + 1) (j + 1) (k + 1) (by omega) (by omega) (by simpa using hk)⟩
end Cut
namespace Cut
open PySem L2 L3
theorem t1_snoc {b a:P3}:∀ {r:List P3},T1 b r→(∀ c∈r,0 < det3 b c a)→T1 b (r ++ [a])
 | [],_,_=>⟨fun c hc=>absurd hc (by simp),trivial⟩
 | d :: r,h,k=>⟨fun c hc=>by
   rcases List.mem_append.mp hc with hc | hc
   ·exact h.1 c hc
   ·rw [List.mem_singleton.mp hc]; exact k d List.mem_cons_self,t1_snoc h.2 fun c hc=>k c (List.mem_cons_of_mem _ hc)⟩
theorem t0_snoc {a:P3}:∀ {r:List P3},T0 r→T1 a r→T0 (r ++ [a])
 | [],_,_=>⟨trivial,trivial⟩
 | b :: r,h,k=>⟨t1_snoc h.1 fun c hc=>by rw [d_cyc]; exact k.1 c hc,t0_snoc h.2 k.2⟩
theorem T0.rot {a:P3} {r:List P3} (h:T0 (a :: r)):T0 (r ++ [a]):=t0_snoc h.2 h.1
def C2:List P3→List P3→Prop
 | [],_=>True
 | x :: xs,zs=>(∀ y∈xs,∀ z∈zs,0 < det3 x y z)∧C2 xs zs
theorem t1_app {x:P3}:∀ {xs zs:List P3},T1 x (xs ++ zs)↔T1 x xs∧T1 x zs∧∀ y∈xs,∀ z∈zs,0 < det3 x y z
 | [],zs=>⟨fun h=>⟨trivial,h,fun y hy=>absurd hy (by simp)⟩,fun h=>h.2.1⟩
 | y :: xs,zs=>by
  constructor
  ·rintro ⟨h1,h2⟩
   obtain ⟨k1,k2,k3⟩:=t1_app.mp h2
   refine ⟨⟨fun c hc=>h1 c (List.mem_append_left _ hc),k1⟩,k2,fun w hw z hz=>?_⟩
   rcases List.mem_cons.mp hw with rfl | hw
   ·exact h1 z (List.mem_append_right _ hz)
   ·exact k3 w hw z hz
  ·rintro ⟨⟨h1,h2⟩,h3,h4⟩
   refine ⟨fun c hc=>?_,t1_app.mpr ⟨h2,h3,fun w hw z hz=>h4 w (List.mem_cons_of_mem _ hw) z hz⟩⟩
   rcases List.mem_append.mp hc with hc | hc
   ·exact h1 c hc
   ·exact h4 y List.mem_cons_self c hc
theorem t0_app:∀ {xs zs:List P3},T0 (xs ++ zs)↔T0 xs∧T0 zs∧(∀ x∈xs,T1 x zs)∧C2 xs zs
 | [],zs=>⟨fun h=>⟨trivial,h,fun y hy=>absurd hy (by simp),trivial⟩,fun h=>h.2.1⟩
 | x :: xs,zs=>by
  constructor
  ·rintro ⟨h1,h2⟩
   obtain ⟨k1,k2,k3,k4⟩:=t0_app.mp h2
   obtain ⟨j1,j2,j3⟩:=t1_app.mp h1
   refine ⟨⟨j1,k1⟩,k2,fun w hw=>?_,⟨j3,k4⟩⟩
   rcases List.mem_cons.mp hw with rfl | hw
   ·exact j2
   ·exact k3 w hw
  ·rintro ⟨⟨h1,h2⟩,h3,h4,h5,h6⟩
   exact ⟨t1_app.mpr ⟨h1,h4 x List.mem_cons_self,h5⟩,t0_app.mpr ⟨h2,h3,fun w hw=>h4 w (List.mem_cons_of_mem _ hw),h6⟩⟩
theorem le0 {x:Int} (z:0 < x):0≤x:=Int.le_of_lt z
theorem eq0 {x:Int} (z:x=0):0≤x:=by omega
def ln (l p:P3):Int:=l.1 * p.1 + l.2.1 * p.2.1 + l.2.2 * p.2.2
theorem four (l p q r s:P3):det3 q r s * ln l p - det3 p r s * ln l q + det3 p q s * ln l r - det3 p q r * ln l s=0:=by
 unfold det3 crs ln; grind
end Cut
namespace Cut
open PySem L2 L3
theorem T1.one {a:P3}:∀ {xs:List P3},C2 xs [a]→T1 a xs
 | [],_=>trivial
 | x :: xs,h=>⟨fun c hc=>by rw [← d_cyc]; exact h.1 c hc a List.mem_cons_self,T1.one h.2⟩
theorem T0.unrot {a:P3} {r:List P3} (h:T0 (r ++ [a])):T0 (a :: r):=by
 obtain ⟨h1,_,_,h4⟩:=t0_app.mp h
 exact ⟨T1.one h4,h1⟩
theorem T0.turn:∀ {xs ys:List P3},T0 (xs ++ ys)→T0 (ys ++ xs)
 | [],ys,h=>by rw [List.append_nil]; exact h
 | x :: xs,ys,h=>by
  have h1:T0 (xs ++ (ys ++ [x])):=by rw [← List.append_assoc]; exact T0.rot h
  have h2:=T0.turn h1
  rw [List.append_assoc] at h2
  exact h2
section
variable (f:P3→Int) (mt:P3→P3→P3)
end
variable {f:P3→Int} {mt:P3→P3→P3}
theorem alt {l p q r s:P3} (h:T0 [p,q,r,s]):¬ (0≤ln l p∧ln l q < 0∧0≤ln l r∧ln l s < 0)∧¬ (ln l p < 0∧0≤ln l q∧ln l r < 0∧0≤ln l s):=by
 obtain ⟨⟨h1,h2,_⟩,⟨h3,_⟩,_⟩:=h
 have d1:=h1 r (by simp)
 have d2:=h1 s (by simp)
 have d3:=h2 s (by simp)
 have d4:=h3 s (by simp)
 have k:=four l p q r s
 constructor
 ·rintro ⟨a,b,c,d⟩
  have t1:=Int.mul_nonneg (le0 d4) a
  have t2:=Int.mul_neg_of_pos_of_neg d3 b
  have t3:=Int.mul_nonneg (le0 d2) c
  have t4:=Int.mul_neg_of_pos_of_neg d1 d
  omega
 ·rintro ⟨a,b,c,d⟩
  have t1:=Int.mul_neg_of_pos_of_neg d4 a
  have t2:=Int.mul_nonneg (le0 d3) b
  have t3:=Int.mul_neg_of_pos_of_neg d2 c
  have t4:=Int.mul_nonneg (le0 d1) d
  omega
end Cut
namespace Cut
open PySem L2 L3
end Cut
namespace L2
open PySem PySem.Spec PyProof.Rows PySem.W
section
variable {X:Cx} {pins:List (Addr×Obj)} {σ:St} {H:Hp} {s:Shared} {h':Heap}
end
end L2
namespace L3
open PySem L2
section
variable {X:Cx} {a:Expr} {u:UE} {pos p:Pos}
end
end L3
namespace L3
open PySem L2
end L3
namespace Cut
open PySem L2 L3
theorem sg_ge {x:Int}:0≤sg x↔0≤x:=by unfold sg; split <;> first | omega | (split <;> omega)
end Cut
namespace Cut
open PySem L2 L3
theorem atI_nat {α:Type} {xs:List α} {i:Nat} {x:α} (h:xs[i]?=some x):atI xs (i:Int)=some x:=by
 have lt:i < xs.length:=(List.getElem?_eq_some_iff.mp h).1
 unfold atI
 have e:L2.ixN xs.length (i:Int)=some i:=by
  unfold L2.ixN
  rw [if_pos (by omega)]
  simp [lt]
 rw [e]
 exact h
end Cut
namespace Cut
open PySem L2 L3
end Cut
namespace Cut
open PySem L2 L3
end Cut
namespace L3
open PySem L2
def unold:Sl→Sl
 | .new d=>.val d
 | .pin _ d=>.val d
 | .own (.d _ _ _ _)=>.no
 | .deep _=>.no
 | s=>s
def look (s:Sl):Sl:=fz1 (unold s)
section
variable {K:PySem.W.Frag} {R:Hp} {W:Addr→Prop} {B B' H H':Hp} {σ:St} {ρ:List Sl}
theorem look_map:(ρ.map unold).map fz1=ρ.map look:=by rw [List.map_map]; rfl
theorem unold_mut {i:Nat} {a:Addr} (m:MutAt σ (ρ.map unold) i a):MutAt σ ρ i a:=by
 rcases m with ⟨h1,h2⟩ | ⟨c,h1,_⟩
 rotate_left
 ·rw [List.getElem?_map] at h1
  cases q:ρ[i]? with
  | none=>rw [q] at h1; cases h1
  | some k0 =>
   rw [q] at h1
   cases k0 with
   | own ds=>cases ds <;> cases h1
   | _=>cases h1
 refine .inl ⟨h1,?_⟩
 rw [List.getElem?_map] at h2
 cases q:ρ[i]? with
 | none=>rw [q] at h2; rcases h2 with h2 | ⟨_,h2⟩ <;> cases h2
 | some k0 =>
  rw [q] at h2
  cases k0 with
  | bag=>exact .inl rfl
  | own ds=>exact .inr ⟨ds,rfl⟩
  | no=>rcases h2 with h2 | ⟨_,h2⟩ <;> cases h2
  | new d=>rcases h2 with h2 | ⟨_,h2⟩ <;> cases h2
  | pin v d=>rcases h2 with h2 | ⟨_,h2⟩ <;> cases h2
  | deep d=>rcases h2 with h2 | ⟨_,h2⟩ <;> cases h2
  | val d=>rcases h2 with h2 | ⟨_,h2⟩ <;> cases h2
theorem unold_bag {i:Nat}:(ρ.map unold)[i]?=some .bag↔ρ[i]?=some .bag:=by
 rw [List.getElem?_map]
 constructor
 ·intro h
  cases q:ρ[i]? with
  | none=>rw [q] at h; cases h
  | some k0 =>
   rw [q] at h
   cases k0 with
   | bag=>rfl
   | own ds=>cases ds <;> cases h
   | no=>cases h
   | new d=>cases h
   | pin v d=>cases h
   | deep d=>cases h
   | val d=>cases h
 ·intro h; rw [h]; rfl
theorem unold_frW {a:Addr}:frW W σ (ρ.map unold) a↔frW W σ ρ a:=by
 unfold frW
 constructor
 ·rintro (h | ⟨i,h1,h2⟩)
  ·exact .inl h
  ·exact .inr ⟨i,h1,unold_bag.mp h2⟩
 ·rintro (h | ⟨i,h1,h2⟩)
  ·exact .inl h
  ·exact .inr ⟨i,h1,unold_bag.mpr h2⟩
theorem Ev.wide (e:Ev K R W B H σ ρ):Ev K R W (mixB R W B) H σ (ρ.map unold):=by
 have nm:∀ a,R a=none→mixB R W B a=B a:=fun a h=>mixB_no fun vs z=>by rw [h] at z; cases z
 refine ⟨⟨e.fr,mixB_now e.toWd,fun a z=>by rw [mixB_W z]; exact e.wb a z,e.wh,e.wr⟩,by rw [List.length_map]; exact e.len,fun i k h=>?_,fun i j a m1 m2=>e.sep i j a (unold_mut m1) (unold_mut m2)⟩
 rw [List.getElem?_map] at h
 cases q:ρ[i]? with
 | none=>rw [q] at h; cases h
 | some k0 =>
  rw [q] at h
  have h:=Option.some.inj h
  subst h
  have z:=e.ok i _ q
  cases k0 with
  | no=>trivial
  | new d=>exact z
  | pin v d=>exact ⟨v,z⟩
  | deep c=>trivial
  | val d =>
   obtain ⟨v,h1,h2⟩:=z
   exact ⟨v,h1,h2.mono (mixB_in e.toWd)⟩
  | own ds =>
   cases ds with
   | d _ _ _ _=>trivial
   | l ds =>
   obtain ⟨a,h1,h2,h3,h4⟩:=z
   exact ⟨a,h1,h2,by rw [nm a h2]; exact h3,h4.mono (mixB_in e.toWd) rfl⟩
  | bag =>
   obtain ⟨b,h1,h2,h3,h4⟩:=z
   refine ⟨b,h1,h2,?_,h4⟩
   rcases h2 with h2 | h2
   ·rw [mixB_W h2]; exact h3
   ·rw [nm b h2]; exact h3
theorem newL_non {a:Addr} {o:HO} (h:B a=some o) (n:∀ vs,o≠.lst vs):newL R B a=some o:=by
 unfold newL
 rw [h]
 cases o with
 | lst vs=>exact absurd rfl (n vs)
 | _=>rfl
noncomputable abbrev lookB (R:Hp) (W:Addr→Prop) (B H:Hp) (σ:St) (ρ:List Sl):Hp:=frB (mixB R W B) H σ (ρ.map unold)
theorem Ev.looked (e:Ev K R W B H σ ρ) {B2 H2:Hp} (wd:Wd H (frW W σ (ρ.map unold)) B2 H2) (g:Grow H (lookB R W B H σ ρ) B2) :
  ∃ B',Ev K R W B' H2 σ ρ∧Grow R B B'∧Same (newL H B2) (newL R B')∧∀ a,H a=none→B' a=B2 a:=by
 have u:=e.unframe (H':=H2) (fun a o h nw=>wd.fr a o h fun z=>nw (unold_frW.mp z)) (fun a h=>wd.wh a (unold_frW.mpr h))
 obtain ⟨B1,b1,b2⟩:∃ B1:Hp,(∀ a,H a=none→B1 a=B2 a)∧∀ a,H a≠none→B1 a=B a :=
  ⟨fun a=>match H a with | none=>B2 a | some _=>B a,fun a h=>by dsimp only; rw [h],fun a h=>by
   dsimp only
   cases q:H a with
   | none=>exact absurd q h
   | some o=>rfl⟩
 have s:Same B B1:=fun a o h=>by rw [b2 a (by rw [e.bh a o h]; simp)]; exact h
 refine ⟨B1,u.move ⟨u.fr,fun a o h=>?_,fun a z=>?_,u.wh,u.wr⟩ s fun i a m=>⟨?_,fun z=>?_,fun _=>rfl⟩,⟨s,fun a o h=>?_⟩,fun a o h=>?_,b1⟩
 ·by_cases q:H a=none
  ·rw [b1 a q] at h; exact wd.bh a o h
  ·rw [b2 a q] at h; exact u.bh a o h
 ·obtain ⟨x,y,q,_⟩:=e.wh a z
  rw [b2 a (by rw [q]; simp)]; exact e.wb a z
 ·rw [b2 a (e.mutOk m).2]; exact (e.mutOk m).1
 ·obtain ⟨b,c1,_,_,c4⟩:=u.bagAt z
  rw [mut_bag m z] at c1; cases c1
  exact c4
 ·by_cases q:H a=none
  ·exact .inr (e.toWd.fresh q).1
  ·rw [b2 a q] at h; exact .inl h
 ·have h2:=newL_sub a o h
  by_cases q:H a=none
  ·have hb:B1 a=some o:=by rw [b1 a q]; exact h2
   cases o with
   | lst vs=>exact newL_at hb (e.toWd.fresh q).1
   | _=>exact newL_non hb (fun _ z=>by cases z)
  ·have nl:∀ vs,o≠.lst vs:=fun vs z=>by
    subst z
    exact q (newL_out h).2
   refine newL_non ?_ nl
   rw [b2 a q]
   rcases g.n a o h2 with z | z
   ·by_cases w:OwnAd σ (ρ.map unold) a
    ·obtain ⟨i,ds,w1,w2⟩:=id w
     cases ds with
     | d bb tt kk dd =>
      rw [List.getElem?_map] at w2
      cases q:ρ[i]? with
      | none=>rw [q] at w2; cases w2
      | some k0 =>
       rw [q] at w2
       have w2:=Option.some.inj w2
       cases k0 with
       | own c=>cases c <;> simp [unold] at w2
       | _=>simp [unold] at w2
     | l ds =>
     obtain ⟨b,vs,c1,_,_,c4,_⟩:=e.wide.ownAt w2
     rw [w1] at c1; cases c1
     rw [lookB,frB_own w,c4] at z
     cases z
     exact absurd rfl (nl vs)
    ·rw [lookB,frB_not w] at z
     rcases mixB_out z with z | ⟨_,_,vs,z⟩
     ·exact z
     ·exact absurd z (nl vs)
   ·exact absurd z q
theorem Ev.lookF (e:Ev K R W B H σ ρ):Ev K H (frW W σ (ρ.map unold)) (lookB R W B H σ ρ) H σ (ρ.map look):=by
 have:=e.wide.frame
 rw [look_map] at this
 exact this
end
section
variable {K:PySem.W.Frag} {X:Cx} {e:Expr} {es:List Expr} {u:UE} {w:UL} {pos p:Pos}
theorem t_look {c:Expr} {uc:UT} (h:PT3 X c uc):PT3 X c (fun ρ k=>uc (ρ.map look) k):=by
 obtain ⟨_,h1,r1⟩:=h
 refine ⟨_,h1,fun ρ k h R W B H σ Q e q=>?_⟩
 refine r1 _ _ h _ _ _ _ _ _ e.lookF fun b B2 H2 z e' g=>?_
 obtain ⟨B1,e1,g1,_⟩:=e.looked e'.toWd g
 exact q b B1 H2 z e1 g1
def uLookD (u:UE):UE:=fun ρ k=>u (ρ.map look) k
theorem d_look (h:PD3 X e u):PD3 X e (uLookD u):=by
 obtain ⟨_,h1,r1⟩:=h
 refine ⟨_,h1,fun ρ k h R W B H σ Q e q=>?_⟩
 refine r1 _ _ h _ _ _ _ _ _ e.lookF fun d v B2 H2 z e' g s=>?_
 obtain ⟨B1,e1,g1,s1,_⟩:=e.looked e'.toWd g
 exact q d v B1 H2 z e1 g1 (s.mono s1)
theorem d_e (h:PD3 X e u):PE3 X e u:=by
 obtain ⟨_,h1,r1⟩:=h
 refine ⟨_,h1,fun ρ k h R W B H σ Q e q=>?_⟩
 exact r1 ρ k h R W B H σ _ e fun d v B1 H1 z e1 g1 s1=>q d v B1 H1 z e1 g1 (s1.mono newL_sub)
variable {tg:Expr}
def uTruL (u:UE):UT:=fun ρ k=>u ρ fun x=>∃ ds,x=.lst ds∧k (!ds.isEmpty)
theorem t_truL {a:Expr} {ua:UE} (ha:PE3 X a ua) (he:∀ whole,isTrue a X.env whole=(do let v ← whole; standAt a.pos; holding [v] (truthy v)):=by intro _; rfl):PT3 X a (uTruL ua):=by
 obtain ⟨_,h1,r1⟩:=ha
 refine ⟨_,pt_truth h1 he,fun ρ k h R W B H σ Q e q=>?_⟩
 refine r1 ρ _ h R W B H σ _ e fun x v B1 H1 z1 e1 g1 s1=>?_
 obtain ⟨ds,rfl,hk⟩:=z1
 obtain ⟨a,vs,rfl,ha,rs⟩:=s1.lstV
 refine ⟨!vs.isEmpty,.inl ⟨vs,SqL.of (e1.bh _ _ ha),rfl⟩,q _ B1 H1 ?_ e1 g1⟩
 have:vs.isEmpty=ds.isEmpty:=by
  have hl:=rs.length
  cases vs with
  | nil=>cases ds with
   | nil=>rfl
   | cons d ds=>simp at hl
  | cons v vs=>cases ds with
   | nil=>simp at hl
   | cons d ds=>rfl
 rw [this]; exact hk
variable {elt iter:Expr} {ifs:List Expr} {scope:Scope} {cl:List (Str×Addr)} {ts fr:List Str} {js:List Nat} {ug:UG} {ut:UT}
end
section
variable {K:PySem.W.Frag}
theorem mixB_all {W:Addr→Prop} {B H:Hp} (sB:Same B H) (hw:∀ a,W a→B a=none):Same B (mixB H W (newL H B)):=fun a o h=>by
 have hH:=sB a o h
 have nw:¬ W a:=fun z=>by rw [hw a z] at h; cases h
 by_cases q:∃ vs,o=.lst vs
 ·obtain ⟨vs,rfl⟩:=q
  exact mixB_at hH nw
 ·rw [mixB_no fun vs e=>q ⟨vs,by rw [hH] at e; exact Option.some.inj e⟩]
  exact newL_non h fun vs e=>q ⟨vs,e⟩
end
end L3
namespace Cut
open PySem L2 L3
def prZ:P3→List P3→List (P3×P3)
 | _,[]=>[]
 | z,p :: r=>(z,p) :: prZ p r
def lz:P3→List P3→P3
 | z,[]=>z
 | _,p :: r=>lz p r
def eds (ps:List P3):List (P3×P3):=prZ (lz (0,0,1) ps) ps
theorem prZ_app:∀ (z:P3) (A B:List P3),prZ z (A ++ B)=prZ z A ++ prZ (lz z A) B
 | _,[],_=>rfl
 | z,p :: A,B=>by
  show (z,p) :: prZ p (A ++ B)=(z,p) :: (prZ p A ++ prZ (lz p A) B)
  rw [prZ_app p A B]
theorem lz_cons {z z':P3} {L:List P3} (h:L≠[]):lz z L=lz z' L:=by
 cases L with
 | nil=>exact absurd rfl h
 | cons p r=>rfl
theorem lz_mem:∀ {z:P3} {L:List P3},L≠[]→lz z L∈L
 | _,[],h=>absurd rfl h
 | z,[p],_=>List.mem_cons_self
 | z,p :: q :: r,_=>List.mem_cons_of_mem _ (lz_mem (z:=p) (L:=q :: r) (by simp))
theorem prZ_mem:∀ {z:P3} {L:List P3} {e:P3×P3},e∈prZ z L→(e.1=z∨e.1∈L)∧e.2∈L
 | _,[],_,h=>by cases h
 | z,p :: r,e,h=>by
  rcases List.mem_cons.mp h with rfl | h
  ·exact ⟨.inl rfl,List.mem_cons_self⟩
  ·obtain ⟨h1,h2⟩:=prZ_mem h
   refine ⟨.inr ?_,List.mem_cons_of_mem _ h2⟩
   rcases h1 with h1 | h1
   ·rw [h1]; exact List.mem_cons_self
   ·exact List.mem_cons_of_mem _ h1
theorem eds_mem {L:List P3} {e:P3×P3} (h:e∈eds L):e.1∈L∧e.2∈L:=by
 have n:L≠[]:=by rintro rfl; cases h
 obtain ⟨h1,h2⟩:=prZ_mem h
 refine ⟨?_,h2⟩
 rcases h1 with h1 | h1
 ·rw [h1]; exact lz_mem n
 ·exact h1
section
variable {f:P3→Int} {mt:P3→P3→P3}
end
theorem tri_in {a b c s l:P3}:det3 a b c * ln l s=det3 b c s * ln l a + det3 c a s * ln l b + det3 a b s * ln l c:=by
 unfold det3 crs ln; grind
end Cut
namespace Cut
open PySem L2 L3
open PySem.Builtin.Int (intBits)
section
variable {l:P3} {mt:P3→P3→P3} {ps:List P3}
theorem prZ_split:∀ {z:P3} {r:List P3} {e:P3×P3},e∈prZ z r→∃ A B,z :: r=A ++ e.1 :: e.2 :: B
 | _,[],_,h=>by cases h
 | z,p :: r,e,h=>by
  rcases List.mem_cons.mp h with rfl | h
  ·exact ⟨[],r,rfl⟩
  ·obtain ⟨A,B,q⟩:=prZ_split h
   exact ⟨z :: A,B,by rw [q]; rfl⟩
theorem lz_split:∀ {z:P3} {r:List P3},r≠[]→∃ A,r=A ++ [lz z r]
 | _,[],h=>absurd rfl h
 | z,[p],_=>⟨[],rfl⟩
 | z,p :: q :: r,_=>by
  obtain ⟨A,e⟩:=lz_split (z:=p) (r:=q :: r) (by simp)
  exact ⟨p :: A,congrArg (p :: ·) e⟩
theorem eds_split (hl:2≤ps.length) {e:P3×P3} (he:e∈eds ps):∃ X Y C,ps=X ++ Y∧Y ++ X=e.1 :: e.2 :: C:=by
 cases ps with
 | nil=>simp at hl
 | cons a r =>
  have hr:r≠[]:=by rintro rfl; simp at hl
  rcases List.mem_cons.mp he with rfl | he
  ·obtain ⟨A,eA⟩:=lz_split (z:=a) hr
   exact ⟨a :: A,[lz a r],A,congrArg (a :: ·) eA,rfl⟩
  ·obtain ⟨A,B,q⟩:=prZ_split he
   exact ⟨A,e.1 :: e.2 :: B,B ++ A,q,by simp⟩
theorem eds_gt (ht:T0 ps) (hl:3≤ps.length) {e:P3×P3} (he:e∈eds ps):(∀ x∈ps,0≤det3 e.1 e.2 x)∧∃ x∈ps,0 < det3 e.1 e.2 x:=by
 obtain ⟨X,Y,C,e1,e2⟩:=eds_split (by omega) he
 have t:T0 (e.1 :: e.2 :: C):=by rw [← e2]; exact T0.turn (by rw [← e1]; exact ht)
 have len:(e.1 :: e.2 :: C).length=ps.length:=by rw [← e2,e1,List.length_append,List.length_append]; omega
 refine ⟨fun x hx=>?_,?_⟩
 ·have hx:x∈e.1 :: e.2 :: C:=by
   rw [← e2]
   rw [e1] at hx
   rcases List.mem_append.mp hx with h | h
   ·exact List.mem_append_right _ h
   ·exact List.mem_append_left _ h
  rcases List.mem_cons.mp hx with rfl | hx
  ·exact eq0 (by unfold det3 crs; grind)
  ·rcases List.mem_cons.mp hx with rfl | hx
   ·exact eq0 (det3_two _ _)
   ·exact le0 (t.1.1 x hx)
 ·cases C with
  | nil=>simp at len; omega
  | cons c C =>
   refine ⟨c,?_,t.1.1 c List.mem_cons_self⟩
   have:c∈Y ++ X:=by rw [e2]; simp
   rw [e1]
   rcases List.mem_append.mp this with h | h
   ·exact List.mem_append_right _ h
   ·exact List.mem_append_left _ h
end
open Classical in
noncomputable def wi (ps:List P3) (s:P3):Int:=if ∃ e∈eds ps,det3 e.1 e.2 s < 0 then 0 else if ∃ e∈eds ps,det3 e.1 e.2 s=0 then -1 else 1
theorem wi_one {ps:List P3} {s:P3} (h:∀ e∈eds ps,0 < det3 e.1 e.2 s):wi ps s=1:=by
 unfold wi
 rw [if_neg fun ⟨e,he,z⟩=>by have:=h e he; omega,if_neg fun ⟨e,he,z⟩=>by have:=h e he; omega]
theorem wi_zero {ps:List P3} {s:P3} (h:¬ ∀ e∈eds ps,0≤det3 e.1 e.2 s):wi ps s=0:=by
 unfold wi
 rw [if_pos]
 apply Classical.byContradiction
 intro n
 exact h fun e he=>by
  by_cases z:0≤det3 e.1 e.2 s
  ·exact z
  ·exact absurd ⟨e,he,by omega⟩ n
theorem wi_cases {ps:List P3} {s:P3} (h:wi ps s ≠ -1):(wi ps s=1∧∀ e∈eds ps,0 < det3 e.1 e.2 s)∨(wi ps s=0∧¬ ∀ e∈eds ps,0≤det3 e.1 e.2 s):=by
 by_cases c:∃ e∈eds ps,det3 e.1 e.2 s < 0
 ·refine .inr ⟨?_,fun z=>?_⟩
  ·unfold wi; rw [if_pos c]
  ·obtain ⟨e,he,q⟩:=c
   have:=z e he
   omega
 ·have z:∀ e∈eds ps,0≤det3 e.1 e.2 s:=fun e he=>by
   by_cases z:0≤det3 e.1 e.2 s
   ·exact z
   ·exact absurd ⟨e,he,by omega⟩ c
  by_cases d:∃ e∈eds ps,det3 e.1 e.2 s=0
  ·exact absurd (by unfold wi; rw [if_neg c,if_pos d]) h
  ·have p:∀ e∈eds ps,0 < det3 e.1 e.2 s:=fun e he=>by
    have:=z e he
    rcases Int.lt_or_eq_of_le this with a | a
    ·exact a
    ·exact absurd ⟨e,he,a.symm⟩ d
   exact .inl ⟨wi_one p,p⟩
section
variable {l:P3} {mt:P3→P3→P3} {ps:List P3}
end
end Cut
namespace Cut
open PySem L2 L3
open PySem.Builtin.Int (intBits)
def sumT (T:P3→P3→Rat) (es:List (P3×P3)):Rat:=(es.map fun e=>T e.1 e.2).sum
theorem sumT_nil (T:P3→P3→Rat):sumT T []=0:=rfl
theorem sumT_cons (T:P3→P3→Rat) (e:P3×P3) (es:List (P3×P3)):sumT T (e :: es)=T e.1 e.2 + sumT T es:=by unfold sumT; rw [List.map_cons,List.sum_cons]
section
variable {f:P3→Int} {mt:P3→P3→P3} {T:P3→P3→Rat} {V:P3→Prop}
end
def rX (p:P3):Rat:=(p.1:Rat) / (p.2.2:Rat)
def rY (p:P3):Rat:=(p.2.1:Rat) / (p.2.2:Rat)
def crR (p q:P3):Rat:=rX p * rY q - rY p * rX q
def trR (o p q:P3):Rat:=(rX p - rX o) * (rY q - rY o) - (rY p - rY o) * (rX q - rX o)
theorem pos_ne {x:Int} (h:0 < x):(x:Rat)≠0:=fun z=>by
 have:=Rat.intCast_eq_zero_iff.mp z
 omega
theorem ln_R {l p:P3} (hp:0 < p.2.2) (h:ln l p=0):(l.1:Rat) * rX p + l.2.1 * rY p + l.2.2=0:=by
 have h:((l.1 * p.1 + l.2.1 * p.2.1 + l.2.2 * p.2.2:Int):Rat)=0:=Rat.intCast_eq_zero_iff.mpr h
 rw [Rat.intCast_add,Rat.intCast_add,Rat.intCast_mul,Rat.intCast_mul,Rat.intCast_mul] at h
 have p0:=pos_ne hp
 unfold rX rY
 generalize (p.1:Rat)=p1 at *
 generalize (p.2.1:Rat)=p2 at *
 generalize (p.2.2:Rat)=p3 at *
 grind
def areaR (ps:List P3):Rat:=sumT crR (eds ps)
theorem tele (h:P3→Rat):∀ (z:P3) (L:List P3),sumT (fun p q=>h p - h q) (prZ z L)=h z - h (lz z L)
 | z,[]=>by rw [show prZ z []=[] from rfl,sumT_nil,show lz z []=z from rfl]; grind
 | z,p :: L=>by
  rw [show prZ z (p :: L)=(z,p) :: prZ p L from rfl,sumT_cons,tele h p L,show lz z (p :: L)=lz p L from rfl]
  dsimp only
  grind
end Cut
namespace L3
open PySem L2
def pinS (v:V):Sl→Sl
 | .val d=>.pin v d
 | .own (.l ds)=>.pin v (.lst ds)
 | .own (.d _ _ _ _)=>.no
 | .deep _=>.no
 | .new d=>.pin v d
 | s=>s
def pinAll (f:Nat→V):Nat→List Sl→List Sl
 | _,[]=>[]
 | i,s :: r=>pinS (f i) s :: pinAll f (i + 1) r
theorem pinAll_get (f:Nat→V):∀ (i n:Nat) (ρ:List Sl),(pinAll f i ρ)[n]?=(ρ[n]?).map (pinS (f (i + n)))
 | _,_,[]=>by simp [pinAll]
 | i,0,s :: r=>by simp [pinAll]
 | i,n + 1,s :: r=>by
  have:=pinAll_get f (i + 1) n r
  rw [show i + 1 + n=i + (n + 1) by omega] at this
  simpa [pinAll] using this
inductive Kept (f:Nat→V):Nat→List Sl→List Sl→List Sl→Prop where
 | nil {i:Nat}:Kept f i [] [] []
 | pin {i:Nat} {s:Sl} {d:D} {r r' q:List Sl} (h:Kept f (i + 1) r r' q):Kept f i (s :: r) (.pin (f i) d :: r') (s :: q)
 | no {i:Nat} {s x:Sl} {r r' q:List Sl} (h:Kept f (i + 1) r r' q):Kept f i (s :: r) (x :: r') (.no :: q)
theorem Kept.length {f:Nat→V}:∀ {i:Nat} {ρ ρ' q:List Sl},Kept f i ρ ρ' q→q.length=ρ.length∧q.length=ρ'.length
 | _,_,_,_,.nil=>⟨rfl,rfl⟩
 | _,_,_,_,.pin h=>by obtain ⟨a,b⟩:=h.length; rw [List.length_cons,List.length_cons,List.length_cons]; omega
 | _,_,_,_,.no h=>by obtain ⟨a,b⟩:=h.length; rw [List.length_cons,List.length_cons,List.length_cons]; omega
theorem Kept.get {f:Nat→V}:∀ {i:Nat} {ρ ρ' q:List Sl},Kept f i ρ ρ' q→∀ (n:Nat) (k:Sl),q[n]?=some k→k=.no∨(ρ[n]?=some k∧∃ d,ρ'[n]?=some (.pin (f (i + n)) d))
 | _,_,_,_,.nil,n,k,h=>by simp at h
 | _,_,_,_,.pin (d:=d) hk,0,k,h=>by simp at h; subst h; exact .inr ⟨rfl,d,rfl⟩
 | _,_,_,_,.no hk,0,k,h=>by simp at h; exact .inl h.symm
 | i,_,_,_,.pin hk,n + 1,k,h=>by
  have:=hk.get n k (by simpa using h)
  rw [show i + 1 + n=i + (n + 1) by omega] at this
  simpa using this
 | i,_,_,_,.no hk,n + 1,k,h=>by
  have:=hk.get n k (by simpa using h)
  rw [show i + 1 + n=i + (n + 1) by omega] at this
  simpa using this
abbrev UZ2:=UEnds→List Sl→(Nat→V)→List Sl→Prop
section
variable {K:PySem.W.Frag} {X:Cx} {e:Expr} {es:List Expr} {u:UE} {w:UL} {pos p:Pos} {rest:List Stmt} {uz:UZ2}
def RefZ2 (K:PySem.W.Frag) (t:TS) (uz:UZ2):Prop :=
 ∀ (U:UEnds) (ρ:List Sl) (f:Nat→V) (ρz:List Sl),uz U ρ f ρz→∀ (R:Hp) (W:Addr→Prop) (B H:Hp) (σ:St) (E:Ends),Ev K R W B H σ ρ→Sim K R W B U E→(∀ (i:Nat) (v:V),σ[i]?=some (some v)→f i=v) →
  ∀ (Bz Hz:Hp) (σz:St),Ev K H (frW W σ ρ) Bz Hz σz ρz→(∀ a vs,Bz a=some (.lst vs)→H a=none)→t E σz Hz
def PZ2 (X:Cx) (st:List Stmt) (uz:UZ2):Prop:=∃ t,PSs X st t∧RefZ2 X.K t uz
theorem z2_st {a:Stmt} {s:US} (ha:PS3 X a s) (hr:PZ2 X rest uz):PZ2 X (a :: rest) (fun U ρ f ρz=>s { nx:=uz U ρ f,rt:=fun _=>False } ρz):=by
 obtain ⟨_,h1,r1⟩:=ha; obtain ⟨_,h2,r2⟩:=hr
 refine ⟨_,pss_cons h1 h2,fun U ρ f ρz h R W B H σ E e sm hf Bz Hz σz ez nl=>?_⟩
 refine r1 _ ρz h H (frW W σ ρ) Bz Hz σz _ ez ⟨fun ρ' σ' B' H' z e' g=>?_,fun _ _ _ _ z=>z.elim,fun _ _ _ _ z=>z.elim,fun _ _ _ _ z=>z.elim⟩
 exact r2 U ρ f ρ' z R W B H σ E e sm hf B' H' σ' e' fun a vs h=>(g.n a _ h).elim (nl a vs) id
theorem Ev.pinned {R:Hp} {W:Addr→Prop} {B H:Hp} {σ:St} {ρ:List Sl} (e:Ev K R W B H σ ρ) {f:Nat→V} (hf:∀ (i:Nat) (v:V),σ[i]?=some (some v)→f i=v) :
  ∃ Bz,Ev K H (frW W σ ρ) Bz H σ (pinAll f 0 ρ)∧∀ a vs,Bz a=some (.lst vs)→H a=none:=by
 have e1:=e.lookF
 have eW:frW W σ (ρ.map unold)=frW W σ ρ:=by funext a; exact propext unold_frW
 rw [eW] at e1
 generalize lookB R W B H σ ρ=LB at e1
 have nb:∀ a,LB a=none→newL H LB a=none:=fun a h=>by
  cases q:newL H LB a with
  | none=>rfl
  | some o=>have:=newL_sub a o q; rw [h] at this; cases this
 have wd:Wd H (frW W σ ρ) (newL H LB) H:=⟨fun _ _ h _=>h,newL_sub.trans e1.bh,fun a h=>nb a (e1.wb a h),e1.wh,e1.wr⟩
 refine ⟨newL H LB,⟨wd,?_,fun i k h=>?_,fun i j a m1 m2=>?_⟩,fun a vs h=>(newL_out h).2⟩
 ·have:(pinAll f 0 ρ).length=ρ.length:=by
   have:∀ (n:Nat) (l:List Sl),(pinAll f n l).length=l.length:=fun n l=>by
    induction l generalizing n with
    | nil=>rfl
    | cons s r ih=>simp [pinAll,ih]
   exact this 0 ρ
  rw [this]; exact e.len
 ·rw [pinAll_get,Nat.zero_add] at h
  cases q:ρ[i]? with
  | none=>rw [q] at h; cases h
  | some k0 =>
   rw [q] at h
   have h:=Option.some.inj h
   subst h
   have ql:(ρ.map look)[i]?=some (look k0):=by rw [List.getElem?_map,q]; rfl
   have z:=e1.ok i _ ql
   have pn:∀ d,(∃ v,(σ[i]?).join=some v∧Rep K LB v d)→SlOk K H (frW W σ ρ) (newL H LB) H (σ[i]?).join (.pin (f i) d):=fun d ⟨v,h1,h2⟩=>by
    rw [hf i v (join_some h1)]
    exact ⟨h1,h2.mono (mixB_all e1.bh e1.wb)⟩
   cases k0 with
   | no=>trivial
   | deep c=>trivial
   | val d=>exact pn d z
   | own c =>
    cases c with
    | l ds=>exact pn (.lst ds) z
    | d b t ks ds=>trivial
   | new d=>exact pn d z
   | pin v d =>
    obtain ⟨v',h1,h2⟩:=z
    have h0:=(e.ok i _ q).1
    rw [h1] at h0
    cases h0
    exact ⟨h1,h2.mono (mixB_all e1.bh e1.wb)⟩
   | bag =>
    obtain ⟨b,h1,h2,h3,h4⟩:=z
    exact ⟨b,h1,h2,nb b h3,h4⟩
 ·have back:∀ i,MutAt σ (pinAll f 0 ρ) i a→ρ[i]?=some .bag:=fun i m=>by
   rcases m with ⟨_,h2⟩ | ⟨c,h1,_⟩
   rotate_left
   ·rw [pinAll_get,Nat.zero_add] at h1
    cases q:ρ[i]? with
    | none=>rw [q] at h1; cases h1
    | some k0 =>
     rw [q] at h1
     cases k0 with
     | own c=>cases c <;> cases h1
     | _=>cases h1
   rw [pinAll_get,Nat.zero_add] at h2
   cases q:ρ[i]? with
   | none=>rw [q] at h2; rcases h2 with h2 | ⟨_,h2⟩ <;> cases h2
   | some k0 =>
    rw [q] at h2
    cases k0 with
    | bag=>rfl
    | own c=>cases c <;> rcases h2 with h2 | ⟨_,h2⟩ <;> cases h2
    | _=>rcases h2 with h2 | ⟨_,h2⟩ <;> cases h2
  have nd:∀ (i:Nat) (c:Dp),(pinAll f 0 ρ)[i]?≠some (Sl.deep c):=fun i c h1=>by
   rw [pinAll_get,Nat.zero_add] at h1
   cases q:ρ[i]? with
   | none=>rw [q] at h1; cases h1
   | some k0 =>
    rw [q] at h1
    cases k0 with
    | own c=>cases c <;> cases h1
    | _=>cases h1
  exact e.sep i j a (.inl ⟨(mut_in m1 (nd i)).1,.inl (back i m1)⟩) (.inl ⟨(mut_in m2 (nd j)).1,.inl (back j m2)⟩)
theorem ss_scope {st:List Stmt} (h:PZ2 X st uz):PSs3 X st (fun U ρ=>∀ f:Nat→V,uz U ρ f (pinAll f 0 ρ)):=by
 obtain ⟨_,h1,r1⟩:=h
 refine ⟨_,h1,fun U ρ h R W B H σ E e sm=>?_⟩
 have hf:∀ (i:Nat) (v:V),σ[i]?=some (some v)→(fun i=>match σ[i]? with | some (some v)=>v | _=>V.non) i=v:=fun i v h=>by
  dsimp only; rw [h]
 obtain ⟨Bz,ez,nl⟩:=e.pinned hf
 exact r1 U ρ _ _ (h _) R W B H σ E e sm hf Bz H σ ez nl
theorem Kept.same {R:Hp} {W:Addr→Prop} {B H:Hp} {σ σz:St} {ρ ρz q:List Sl} {f:Nat→V} (kq:Kept f 0 ρ ρz q) (e:Ev K R W B H σ ρ) (hf:∀ (i:Nat) (v:V),σ[i]?=some (some v)→f i=v) (hz:∀ (n:Nat) (v:V) (d:D),ρz[n]?=some (.pin v d)→σz[n]?=some (some v)) :
  ∀ (n:Nat) (k:Sl),q[n]?=some k→k=.no∨(ρ[n]?=some k∧σz[n]?=σ[n]?):=fun n k hk=>by
 rcases kq.get n k hk with z | ⟨z1,d,z2⟩
 ·exact .inl z
 ·rw [Nat.zero_add] at z2
  have y:=hz n _ d z2
  have ok:=e.ok n k z1
  have go:(∃ v,(σ[n]?).join=some v)→σz[n]?=σ[n]?:=fun ⟨v,h⟩=>by
   have h:=join_some h
   rw [y,h,hf n v h]
  cases k with
  | no=>exact .inl rfl
  | val d=>obtain ⟨v,h,_⟩:=ok; exact .inr ⟨z1,go ⟨v,h⟩⟩
  | new d=>obtain ⟨v,h,_⟩:=ok; exact .inr ⟨z1,go ⟨v,h⟩⟩
  | pin v d=>exact .inr ⟨z1,go ⟨v,ok.1⟩⟩
  | deep c=>exact .inr ⟨z1,go ⟨_,ok.1⟩⟩
  | own ds=>obtain ⟨a,h,_⟩:=ok; exact .inr ⟨z1,go ⟨_,h⟩⟩
  | bag=>obtain ⟨b,h,_⟩:=ok; exact .inr ⟨z1,go ⟨_,h⟩⟩
theorem Ev.pinAt {R:Hp} {W:Addr→Prop} {B H:Hp} {σ:St} {ρ:List Sl} (e:Ev K R W B H σ ρ):∀ (n:Nat) (v:V) (d:D),ρ[n]?=some (.pin v d)→σ[n]?=some (some v):=fun n v d h=>join_some (e.ok n _ h).1
end
end L3
namespace L3
open PySem L2
section
variable {K:PySem.W.Frag} {X:Cx} {a b e:Expr} {es:List Expr} {ua ub u:UE} {w:UL} {pos p:Pos} {F:FS} {a0:Expr}
end
end L3
namespace L3
open PySem L2
section
variable {X:Cx} {e:Expr} {u:UE} {pos:Pos}
def uAug (i:Nat) (u:UE):US:=fun U ρ=>∃ m,ρ[i]?=some (.val (.int m))∧u ρ fun d=>∃ n,d=.int n∧U.nx (ρ.set i (.val (.int (m + n))))
theorem s_aug {i:Nat} {x:Str} {pos':Pos} (hN:X.N.Nodup) (hi:X.N[i]?=some x) (hx:Loc X.env.scope x) (he:PE3 X e u) (hf:X.fn x=true∨X.env.scope.names.lookup x=some .local:=by first | exact .inl rfl | exact .inr rfl | assumption) :
  PS3 X (.AugAssign (.Name x pos') .Add e pos) (uAug i u):=by
 obtain ⟨_,h1,r1⟩:=he
 refine ⟨_,ps_aug hN hi hx h1 ip_add hf,fun U ρ h R W B H σ D e s=>?_⟩
 obtain ⟨m,hm,h⟩:=h
 obtain ⟨v,hv,rv⟩:=e.val hm
 refine ⟨v,hv,?_⟩
 refine r1 ρ _ h R W B H σ _ e fun d w B1 H1 z1 e1 g1 s1=>?_
 obtain ⟨n,rfl,z⟩:=z1
 exact ⟨m,n,rv.intV,s1.intV,s.nx _ _ B1 H1 z (e1.setV i (.int _)) g1⟩
end
end L3
namespace L3
open PySem L2
end L3
namespace Cut
open PySem L2 L3
open PySem.Builtin.Int (intBits)
theorem bits06 {x:Int} (h0 : -63≤x) (h1:x≤63):intBits x≤6:=by
 have:∀ n:Fin 127,intBits ((n.val:Int) - 63)≤6:=by decide +kernel
 have:=this ⟨(x + 63).toNat,by omega⟩
 rw [show (((x + 63).toNat:Nat):Int) - 63=x by omega] at this
 exact this
def vq (a:Int×Int):Rat:=(a.1:Rat) / (a.2:Rat)
theorem vq_stp {a:Int×Int} {p q:P3} (ha:0 < a.2) (hp:0 < p.2.2) (hq:0 < q.2.2):vq (stp a p q)=vq a + crR p q:=by
 unfold vq stp crR rX rY
 dsimp only
 rw [Rat.intCast_add,Rat.intCast_mul,Rat.intCast_mul,Rat.intCast_mul,Rat.intCast_sub,Rat.intCast_mul,Rat.intCast_mul,Rat.intCast_mul,Rat.intCast_mul]
 have a0:=pos_ne ha
 have p0:=pos_ne hp
 have q0:=pos_ne hq
 generalize (a.1:Rat)=a1 at *
 generalize (a.2:Rat)=a2 at *
 generalize (p.1:Rat)=p1 at *
 generalize (p.2.1:Rat)=p2 at *
 generalize (p.2.2:Rat)=p3 at *
 generalize (q.1:Rat)=q1 at *
 generalize (q.2.1:Rat)=q2 at *
 generalize (q.2.2:Rat)=q3 at *
 grind
theorem stp_pos {a:Int×Int} {p q:P3} (ha:0 < a.2) (hp:0 < p.2.2) (hq:0 < q.2.2):0 < (stp a p q).2:=Int.mul_pos (Int.mul_pos ha hp) hq
theorem vq_fold:∀ {es:List (P3×P3)} {a:Int×Int},0 < a.2→(∀ e∈es,0 < e.1.2.2∧0 < e.2.2.2)→0 < (es.foldl (fun a e=>stp a e.1 e.2) a).2∧vq (es.foldl (fun a e=>stp a e.1 e.2) a)=vq a + sumT crR es
 | [],a,ha,_=>⟨ha,by rw [sumT_nil,List.foldl_nil]; grind⟩
 | e :: es,a,ha,h=>by
  obtain ⟨h1,h2⟩:=h e List.mem_cons_self
  obtain ⟨k1,k2⟩:=vq_fold (es:=es) (a:=stp a e.1 e.2) (stp_pos ha h1 h2) fun x hx=>h x (List.mem_cons_of_mem _ hx)
  refine ⟨k1,?_⟩
  rw [List.foldl_cons,k2,vq_stp ha h1 h2,sumT_cons]
  grind
theorem prZ_get:∀ (z:P3) (L:List P3) (k:Nat),k < L.length→(prZ z L)[k]?=some (nth (z :: L) k,nth L k)
 | _,[],_,h=>absurd h (by simp)
 | z,p :: L,0,_=>rfl
 | z,p :: L,k + 1,h=>by
  have:=prZ_get p L k (by simpa using h)
  simpa [prZ,nth_succ] using this
theorem prZ_len:∀ (z:P3) (L:List P3),(prZ z L).length=L.length
 | _,[]=>rfl
 | z,p :: L=>by simp [prZ,prZ_len p L]
theorem lz_nth:∀ (z:P3) (L:List P3),L≠[]→lz z L=nth L (L.length - 1)
 | _,[],h=>absurd rfl h
 | z,[p],_=>rfl
 | z,p :: q :: L,_=>by
  have:=lz_nth p (q :: L) (by simp)
  show lz p (q :: L)=_
  rw [this]
  rfl
theorem eds_range (ps:List P3):eds ps=(List.range ps.length).map fun k=>(nth ps ((k + ps.length - 1) % ps.length),nth ps k):=by
 apply List.ext_getElem?
 intro k
 by_cases h:k < ps.length
 ·have hn:ps≠[]:=by rintro rfl; simp at h
  rw [List.getElem?_map,List.getElem?_range h]
  unfold eds
  rw [prZ_get _ _ _ h]
  simp only [Option.map_some]
  congr 2
  cases k with
  | zero =>
   rw [nth_zero,lz_nth _ _ hn,Nat.zero_add,Nat.mod_eq_of_lt (by omega)]
  | succ k =>
   rw [nth_succ,show k + 1 + ps.length - 1=k + ps.length by omega,Nat.add_mod_right,Nat.mod_eq_of_lt (by omega)]
 ·rw [List.getElem?_eq_none (by unfold eds; rw [prZ_len]; omega),List.getElem?_eq_none (by simp; omega)]
theorem ta_eds (ps:List P3):ta ps ps.length=(eds ps).foldl (fun a e=>stp a e.1 e.2) (0,1):=by
 unfold ta
 rw [eds_range,List.foldl_map]
def vP (p:P3):Rat:=(p.1:Rat) / (p.2.2:Rat)
theorem npt_vP {a n:Int} (hn:0 < n):PtP (npt a 0 n)∧(npt a 0 n).2.1=0∧vP (npt a 0 n)=(a:Rat) / n:=by
 obtain ⟨pt,e1,e2,_⟩:=npt_spec (a:=a) (b:=0) (Int.ne_of_gt hn)
 refine ⟨pt,?_,?_⟩
 ·rw [Int.zero_mul] at e2
  rcases Int.mul_eq_zero.mp e2 with z | z
  ·exact z
  ·omega
 ·have n0:=pos_ne hn
  have z0:=pos_ne pt.1
  have e:((npt a 0 n).1:Rat) * n=a * (npt a 0 n).2.2:=by rw [← Rat.intCast_mul,e1,Rat.intCast_mul]
  unfold vP
  generalize ((npt a 0 n).1:Rat)=x at *
  generalize ((npt a 0 n).2.2:Rat)=y at *
  generalize (a:Rat)=a' at *
  generalize (n:Rat)=n' at *
  grind
theorem taP_v {ps:List P3} (h:∀ p∈ps,0 < p.2.2):PtP (taP ps)∧(taP ps).2.1=0∧vP (taP ps)=areaR ps:=by
 obtain ⟨k1,k2⟩:=vq_fold (es:=eds ps) (a:=(0,1)) (by decide) fun e he=>⟨h _ (eds_mem he).1,h _ (eds_mem he).2⟩
 rw [← ta_eds] at k1 k2
 obtain ⟨a,b,c⟩:=npt_vP (a:=(ta ps ps.length).1) k1
 refine ⟨a,b,?_⟩
 show vP (npt (ta ps ps.length).1 0 (ta ps ps.length).2)=_
 rw [c]
 have:vq (ta ps ps.length)=areaR ps:=by
  rw [k2]
  unfold areaR vq
  rw [show (((0:Int),(1:Int)).1:Rat)=0 from rfl]
  grind
 exact this
end Cut
namespace Cut
open PySem L2 L3
end Cut
namespace L3
open PySem L2
end L3
namespace Cut
open PySem L2 L3
open PySem.Builtin.Int (intBits)
theorem wi_minus {ps:List P3} {s:P3} (h:∀ e∈eds ps,0≤det3 e.1 e.2 s) (z:∃ e∈eds ps,det3 e.1 e.2 s=0):wi ps s = -1:=by
 unfold wi
 rw [if_neg fun ⟨e,he,q⟩=>by have:=h e he; omega,if_pos z]
theorem eds_take {ps:List P3} {i:Nat} (h:i < ps.length):(eds ps).take (i + 1)=(eds ps).take i ++ [(nth ps ((i + ps.length - 1) % ps.length),nth ps i)]:=by
 rw [List.take_succ,eds_range,List.getElem?_map,List.getElem?_range h]
 rfl
theorem eds_all (ps:List P3):(eds ps).take ps.length=eds ps:=List.take_of_length_le (by unfold eds; rw [prZ_len]; exact Nat.le_refl _)
theorem taP_bp {m n:Nat} {ps:List P3} (hl:ps.length≤n) (hps:∀ p∈ps,GP m p):BP ((2 * m + 2) * n + 1) (taP ps):=by
 obtain ⟨q0,q1,q2⟩:=ta_ok hps ps.length (Nat.le_refl _)
 have le:(2 * m + 2) * ps.length + 1≤(2 * m + 2) * n + 1:=Nat.succ_le_succ (Nat.mul_le_mul_left _ hl)
 exact BP.nP (p:=((ta ps ps.length).1,0,(ta ps ps.length).2)) ⟨Nat.le_trans q1 le,Nat.le_trans (show intBits 0≤1 by decide) (Nat.le_add_left 1 _),Nat.le_trans q2 le⟩ (Int.ne_of_gt q0)
end Cut
namespace Cut
open PySem L2 L3
open PySem.Builtin.Int (intBits)
theorem sg_eq0 (x:Int):sg x=0↔x=0:=by unfold sg; split <;> first | omega | (split <;> omega)
end Cut
namespace Cut
open PySem L2 L3
open PySem.Builtin.Int (intBits)
end Cut
namespace Cut
open PySem L2 L3
open PySem.Builtin.Int (intBits)
end Cut
namespace Cut
open PySem L2 L3
open PySem.Builtin.Int (intBits)
section
variable (f:P3→Int)
end
theorem zip_prZ:∀ (r:List P3) (a w:P3),(a :: r).zip (r ++ [w])=prZ a (r ++ [w])
 | [],a,w=>rfl
 | b :: r,a,w=>by
  show (a,b) :: (b :: r).zip (r ++ [w])=(a,b) :: prZ b (r ++ [w])
  rw [zip_prZ r b w]
def fwd (qs:List P3):List (P3×P3):=qs.zip (qs.drop 1 ++ qs.take 1)
theorem fwd_len (qs:List P3):(fwd qs).length=qs.length:=by
 unfold fwd
 rw [List.length_zip,List.length_append,List.length_drop,List.length_take]
 omega
end Cut
namespace L3
open PySem L2
section
variable {K:PySem.W.Frag} {X:Cx} {a b e:Expr} {es:List Expr} {ua ub u:UE} {w:UL} {pos p:Pos} {rest:List Stmt}
end
end L3
namespace L3
open PySem L2
section
variable {X:Cx} {rest:List Stmt} {uz:UZ2}
end
end L3
namespace L3
open PySem L2
section
variable {X:Cx} {F:FS} {a0:Expr} {pos p:Pos}
def uCallB2c (F:FS) (c1:Int) (u:List Sl→Prop→Prop):UE:=fun ρ k=>u ρ (F [.bag,.val (.int c1)] fun r=>fzR r k)
theorem e_callB2c {x:Str} {ps:List Str} {j lv:Nat} {un:List Sl→Prop→Prop} {c1:Int} {k1 p1} (c:Cal X.prog X.w X.K X.mg X.base x ps j (Con X.K 2 F)) (hr:Room lv X.A) (hg:Gl X x) (ha:PN3 X a0 un) (hjk:j≤lv:=by decide)
  (hdb:(x == ("__debug__" : Str))=false:=by decide) (he:starEach [a0,.Constant (.int c1) k1 p1] X.env=(false,eval a0 X.env) :: starEach [.Constant (.int c1) k1 p1] X.env:=by rfl)
  (he2:starEach [.Constant (.int c1) k1 p1] X.env=(false,eval (.Constant (.int c1) k1 p1) X.env) :: starEach [] X.env:=by rfl)
  (hpl:(backTo pos (starEach [.Constant (.int c1) k1 p1] X.env)).any (·.1)=false:=by rfl) :
  PE3 X (.Call (.Name x p) [a0,.Constant (.int c1) k1 p1] [] pos) (uCallB2c F c1 un):=by
 obtain ⟨_,h1,r1⟩:=ha
 refine ⟨_,pe_cal c hr hg (pa_cons h1 (pa_cons pe_int pa_nil he2) he) hjk hdb he hpl,fun ρ k h R W B H σ Q e q=>?_⟩
 refine r1 ρ _ h R W B H σ _ e fun a B1 H1 z1 e1 g1 f1 f2 f3 f4=>?_
 show Con X.K 2 F ([.ref a,.int c1] ++ []) H1 Q E0
 rw [List.append_nil]
 refine ⟨fun b=>b=a,B1,[.bag,.val (.int c1)],_,z1,rfl,rfl,e1.bh,fun b hb=>by subst hb; exact ⟨f2,f3⟩,.bag rfl (.val (.int _) .nil),fun r v B2 H2 hk ex=>?_⟩
 obtain ⟨e2,g2⟩:=e1.after2 (fun b hb=>by subst hb; exact ⟨f1,f4⟩) ex.wd ex.g
 have res:=ex.res
 cases r with
 | no=>exact hk.elim
 | bag=>exact hk.elim
 | pin v d=>exact hk.elim
 | deep c=>exact hk.elim
 | val d=>exact q d v B2 H2 hk e2 (g1.trans g2) res
 | new d=>exact q d v B2 H2 hk e2 (g1.trans g2) (Rep.mono newL_sub res)
 | own c =>
  cases c with
  | d _ _ _ _=>exact hk.elim
  | l ds =>
  obtain ⟨c,rfl,k1,k2,us,k3,k4⟩:=res
  obtain ⟨e3,g3⟩:=e2.freeze k3 (e1.toWd.fresh k1).1 k2 fun i m=>absurd k1 (e1.mutOk (show MutAt σ ρ i c from m)).2
  exact q _ _ _ _ hk e3 ((g1.trans g2).trans g3) (.lst upd_same (k4.mono g3.s))
end
end L3
namespace L3
open PySem L2
def dPr (e:Cut.P3×Cut.P3):D:=.tup [Cut.dP e.1,Cut.dP e.2]
end L3
namespace Cut
open PySem L2 L3
open PySem.Builtin.Int (intBits)
end Cut
namespace Cut
open PySem L2 L3
end Cut
namespace L3
end L3
namespace Cut
open PySem L2 L3
end Cut
namespace Tab
open PySem PySem.SetTable
variable {t:SetTable} {hashAt:Nat→Int} {h:Int}
end Tab
namespace Tab
open PySem PySem.SetTable
end Tab
namespace Tab
open PySem PySem.SetTable
section
variable {t:SetTable} {hashAt:Nat→Int} {h:Int}
end
section
variable {prog:Program} {w:World} {A:Around} {E:Value→Shared→Prop} {s:Shared}
end
end Tab
namespace Tab
open PySem PySem.SetTable
section
variable {prog:Program} {w:World} {A:Around} {E:Value→Shared→Prop} {s:Shared}
end
end Tab
namespace Tab
open PySem PySem.SetTable
section
variable {prog:Program} {w:World} {A:Around} {E:Value→Shared→Prop} {s:Shared}
end
end Tab
namespace Tab
open PySem PySem.SetTable
section
variable {prog:Program} {w:World} {A:Around} {E:Value→Shared→Prop} {s:Shared}
end
end Tab
namespace L2
open PySem PySem.Spec PyProof.Rows PySem.W
end L2
namespace L3
open PySem L2
end L3
namespace Tab
open PySem
section
variable {prog:Program} {w:World} {A:Around} {E:Value→Shared→Prop} {s:Shared}
end
end Tab
namespace HT
open PySem PySem.Spec PyProof.Rows
open PySem.SeqAt
open PySem.AutoSeq1 (wpAny_loadPart')
open PySem.MeetsSeq PySem.MeetsSeq2 PySem.MeetsSeq3
end HT
namespace L2
open PySem PySem.Spec PyProof.Rows PySem.W
variable {X:Cx}
end L2
namespace L3
open PySem L2
variable {X:Cx} {a b:Expr} {ua ub:UE} {p pos:Pos}
end L3
namespace L3
open PySem L2
section
variable {K:PySem.W.Frag} {X:Cx} {pos p:Pos} {tg:Expr}
end
end L3
namespace L3
open PySem L2
section
variable {P:Program} {w:World} {A:Around} {E:Value→Shared→Prop} {s:Shared}
inductive TupsAre (h:Heap):List (List Int)→List Value→Prop
 | nil:TupsAre h [] []
 | cons {l:List Int} {a:Addr} {ks:List (List Int)} {us:List Value} (k:IsTupleKey (intKind P w) h l a) (r:TupsAre h ks us):TupsAre h (l :: ks) (.ref a :: us)
def IsKey2 (P:Program) (w:World) (h:Heap) (ks:List (List Int)) (a:Addr):Prop:=∃ ob us n,h.get? a=some ob∧ob.cls=.type "tuple" ∧ ob.data=.seq us n∧TupsAre (P:=P) (w:=w) h ks us.toList
theorem TupsAre.inj2 {h:Heap} {us:List Value}:∀ {x y:List (List Int)},TupsAre (P:=P) (w:=w) h x us→TupsAre (P:=P) (w:=w) h y us→x=y:=by
 intro x y p
 induction p generalizing y with
 | nil=>intro q; cases q; rfl
 | cons k r ih =>
  intro q
  cases q with
  | cons k' r'=>rw [k.inj k',ih r']
theorem IsKey2.ty {ks:List (List Int)} {a:Addr} (x:IsKey2 P w s.heap ks a):s.TypeIs (.ref a) "tuple" := let ⟨ob,_,_,h1,h2,_⟩:=x; ⟨ob,h1,h2⟩
theorem IsKey2.inj2 {h:Heap} {a:Addr} {x y:List (List Int)} (p:IsKey2 P w h x a) (q:IsKey2 P w h y a):x=y:=by
 obtain ⟨o1,u1,n1,a1,_,c1,d1⟩:=p
 obtain ⟨o2,u2,n2,a2,_,c2,d2⟩:=q
 rw [a1] at a2; cases a2
 rw [c1] at c2; cases c2
 exact d1.inj2 d2
theorem TupsAre.keep {h h':Heap} {d:Addr} {ob:Obj} {es:Array DictEntry} {ep:Nat} (ho:h.get? d=some ob) (hd:ob.data=.dict es ep) (hs:Heap.SameBut d h h'):∀ {ks:List (List Int)} {us:List Value},TupsAre (P:=P) (w:=w) h ks us→TupsAre (P:=P) (w:=w) h' ks us
 | _,_,.nil=>.nil
 | _,_,.cons k r=>.cons (k.keeps ho hd hs) (TupsAre.keep ho hd hs r)
theorem IsKey2.keep {h h':Heap} {ks:List (List Int)} {a d:Addr} {ob:Obj} {es:Array DictEntry} {ep:Nat} (x:IsKey2 P w h ks a) (ho:h.get? d=some ob) (hd:ob.data=.dict es ep) (hs:Heap.SameBut d h h'):IsKey2 P w h' ks a:=by
 obtain ⟨o1,u1,n1,a1,b1,c1,d1⟩:=x
 refine ⟨o1,u1,n1,?_,b1,c1,d1.keep ho hd hs⟩
 have ne:a≠d:=by
  rintro rfl
  rw [ho] at a1; cases a1
  rw [hd] at c1; cases c1
 exact (hs.2 a ne).trans a1
def draws2 (ks:List (List Int)):Nat:=(ks.map fun l=>l.length + 1).sum + 1
theorem hash2 {ks:List (List Int)} {a:Addr} {Q:Int→Shared→Prop} (hu:A.units + 3 < cLine) (hk:IsKey2 P w s.heap ks a) (h:Q (hashK true ks) { s with toks:=s.toks + draws2 ks }):wpAny (model P w) A (pyHash (.ref a)) Q E s:=by
 have hT:=hk.ty
 obtain ⟨ob,us,n,h1,_,h3,h4⟩:=hk
 unfold pyHash
 first | unfold pyHashByItsType | skip
 first | refine wpAny_bind (wpAny_cRoomFor_or (.inr (by omega)) ?_) | skip
 refine wpAny_bind (wpAny_specialOf hT F.slot_tuple_hash.lookup ?_)
 show wpAny (model P w) A (if (some (Value.builtin "tuple.__hash__") == some Value.none)=true then _ else _) Q E s
 rw [if_neg (by rw [beq_builtin_none]; exact Bool.false_ne_true)]
 refine wpAny_bind (wpAny_specialOf hT F.slot_tuple_hash.lookup ?_)
 show wpAny (model P w) A (callSpecialIfBoundUnlessNone? (.ref a) "__hash__" _ >>= _) Q E s
 refine wpAny_bind (wpAny_callSpecialIfBoundUnlessNone?_slot hT F.slot_tuple_hash (wpAny_call_entry F.slot_tuple_hash hT F.entry_tuple_hash ?_ (F.args_tuple_hash_1 _)))
 show wpAny (model P w) _ (Builtin.Tuple.tupleItemsOf (.ref a) >>= _) _ _ s
 refine wpAny_bind (wpAny_tupleItemsOf h1 h3 ?_)
 refine wpAny_bind ?_
 rw [← Array.forIn_toList]
 refine wpAny_forIn_list _
  (fun rest (b:Array Int) s'=>∃ done left,ks=done ++ left∧TupsAre (P:=P) (w:=w) s.heap left rest∧b.toList=done.map (fun l=>reduceHash (Builtin.Tuple.tupleHashOf (l.map hashInt)))∧s'={ s with toks:=s.toks + (done.map fun l=>l.length + 1).sum })
  _ ?_ ?_ _ _ ⟨[],ks,rfl,h4,rfl,rfl⟩
 ·rintro x rest b s' ⟨done,left,rfl,hl,hb,rfl⟩
  cases hl with
  | @cons l c ks' _ k1 r1 =>
   have fin:∃ dn lf,done ++ l :: ks'=dn ++ lf∧TupsAre (P:=P) (w:=w) s.heap lf rest∧(b.push (reduceHash (Builtin.Tuple.tupleHashOf (l.map hashInt)))).toList=dn.map (fun l=>reduceHash (Builtin.Tuple.tupleHashOf (l.map hashInt))) ∧
     ({ s with toks:=s.toks + (done.map fun l=>l.length + 1).sum + (l.length + 1) }:Shared)={ s with toks:=s.toks + (dn.map fun l=>l.length + 1).sum }:=⟨done ++ [l],ks',by simp,r1,by simp [hb],by simp [Nat.add_assoc]⟩
   refine wpAny_bind (wpAny_pyHash_tuple (s:={ s with toks:=s.toks + (done.map fun l=>l.length + 1).sum }) (by show A.units + _ < cLine; omega) k1 ?_)
   first
    | exact wpAny_pure fin
    | exact wpAny_bind (wpAny_pure (wpAny_pure fin))
 ·rintro b s' ⟨done,left,rfl,hl,hb,rfl⟩
  cases hl
  rw [List.append_nil] at h
  show wpAny (model P w) _ (retInt (Builtin.Tuple.tupleHashOf b.toList)) _ _ _
  rw [hb]
  refine wpAny_ret_mkInt ?_
  generalize hz:Builtin.Tuple.tupleHashOf (done.map fun l=>reduceHash (Builtin.Tuple.tupleHashOf (l.map hashInt)))=z
  have e2:hashK true done=reduceHash z:=by rw [← hz]; rfl
  rw [e2] at h
  show wpAny (model P w) _ (if (decide (-(2:Int) ^ 63≤z) && decide (z < 2 ^ 63))=true then _ else _) Q E _
  unfold reduceHash at h
  by_cases hr:(decide (-(2:Int) ^ 63≤z) && decide (z < 2 ^ 63))=true
  ·rw [if_pos hr]
   rw [if_pos hr] at h
   exact wpAny_pure (by simpa [Nat.add_assoc,draws2] using h)
  ·rw [if_neg hr]
   rw [if_neg hr] at h
   exact wpAny_bind (wpAny_rule (wpAny_pure (by simpa [Nat.add_assoc,draws2] using h)))
theorem tree2 {x y:List (List Int)} {a b:Addr} {R:PySem.Fin→Shared→Prop} (hu:A.units + 2 < cLine) (hx:IsKey2 P w s.heap x a) (hy:IsKey2 P w s.heap y b) (h:R (.done (.ret (.bool (decide (x=y))))) s) :
  wpAny (model P w) A (Builtin.«tuple.__eq__» ⟨[.ref a,.ref b],[]⟩) R E s:=by
 have hT:=hy.ty
 obtain ⟨o1,xs,n1,a1,_,c1,d1⟩:=hx
 obtain ⟨o2,ys,n2,a2,_,c2,d2⟩:=hy
 show wpAny (model P w) A (isInstance (.ref b) (.type "tuple") >>= _) _ _ s
 refine wpAny_bind (wpAny_isInstance hT isSubtype_tuple_tuple ?_)
 simp only [Bool.not_true,Bool.false_eq_true,if_false]
 refine wpAny_bind (wpAny_tupleItemsOf a1 c1 (wpAny_bind (wpAny_tupleItemsOf a2 c2 (wpAny_bind ?_))))
 refine wpAny_forIn_list _
  (fun rest r s'=>r.1=none∧s'=s∧∃ x' y' xs' ys',rest=List.zip xs' ys'∧TupsAre (P:=P) (w:=w) s.heap x' xs'∧TupsAre (P:=P) (w:=w) s.heap y' ys'∧decide (x'=y')=decide (x=y)∧(xs'.length == ys'.length)=(xs.size == ys.size))
  _ ?_ ?_ _ _ ⟨rfl,rfl,x,y,xs.toList,ys.toList,rfl,d1,d2,rfl,by simp⟩
 ·rintro ⟨u,v⟩ rest r s' ⟨hr,rfl,x',y',xs',ys',hz,hx',hy',hdec,hlen⟩
  cases hx' with
  | nil=>simp at hz
  | @cons k1 ad1 x2 xs2 h1 hx2 =>
   cases hy' with
   | nil=>simp at hz
   | @cons k2 ad2 y2 ys2 h2 hy2 =>
    rw [List.zip_cons_cons,List.cons.injEq,Prod.mk.injEq] at hz
    obtain ⟨⟨rfl,rfl⟩,rfl⟩:=hz
    refine wpAny_bind (wpAny_eqBool_tuple (by omega) h1 h2 ?_)
    by_cases hk:k1=k2
    ·subst hk
     rw [decide_eq_true rfl]
     simp only [Bool.not_true,Bool.false_eq_true,if_false]
     refine wpAny_pure ⟨rfl,rfl,x2,y2,xs2,ys2,rfl,hx2,hy2,?_,by simpa using hlen⟩
     rw [← hdec]
     by_cases e2:x2=y2 <;> simp [e2]
    ·rw [decide_eq_false hk]
     simp only [Bool.not_false,if_true]
     have hf:decide (x=y)=false:=by rw [← hdec]; simp [hk]
     rw [hf] at h
     exact wpAny_bind (wpAny_pure (wpAny_pure (wpAny_pure h)))
 ·rintro ⟨r1,r2⟩ s' ⟨hr,rfl,x',y',xs',ys',hz,hx',hy',hdec,hlen⟩
  simp only at hr
  subst hr
  refine wpAny_pure ?_
  have hfin:(xs.size == ys.size)=decide (x=y):=by
   rw [← hdec,← hlen]
   cases hx' with
   | nil=>cases hy' <;> simp
   | cons _ _ =>
    cases hy' with
    | nil=>simp
    | cons _ _=>simp at hz
  show R (.done (.ret (.bool (xs.size == ys.size)))) s'
  rw [hfin]; exact h
theorem eq2 {x y:List (List Int)} {a b:Addr} {Q:Bool→Shared→Prop} (hu:A.units + 3 < cLine) (hx:IsKey2 P w s.heap x a) (hy:IsKey2 P w s.heap y b) (h:Q (decide (x=y)) s):wpAny (model P w) A (eqBool (.ref a) (.ref b)) Q E s:=by
 unfold eqBool
 try with_reducible refine wpAny_holding ?_
 show wpAny (model P w) A (if (Value.ref a == Value.ref b)=true then _ else _) Q E s
 by_cases hab:(Value.ref a == Value.ref b)=true
 ·rw [if_pos hab]
  obtain rfl:a=b:=by have:=eq_of_beq hab; injection this
  obtain rfl:=hx.inj2 hy
  exact wpAny_bind (wpAny_rule (wpAny_pure (by simpa using h)))
 ·rw [if_neg hab]
  exact wpAny_bind (wpAny_richCompare_same_room (op:=.Eq) hx.ty hy.ty F.slot_tuple_eq
   (wpAny_call_entry F.slot_tuple_eq hx.ty F.entry_tuple_eq (tree2 (by show A.units + _ + 2 < cLine; omega) hx hy ⟨_,rfl,(fun e=>nomatch e),wpAny_truthy_bool h⟩) (F.args_tuple_eq_2 _ _)) (by omega))
theorem quiet1 (n:Nat) {l:List Int} {a:Addr} {Q:Bool→Shared→Prop} (hk:IsTupleKey (intKind P w) s.heap l a) (h:Q true s):wpAny (model P w) A (eqIsQuiet (n + 1) (.ref a)) Q E s:=by
 have hT:=hk.typeIs
 obtain ⟨ob,us,m,h1,_,h3,h4⟩:=hk
 unfold eqIsQuiet
 refine wpAny_bind (wpAny_specialOf hT F.slot_tuple_eq.lookup ?_)
 show wpAny (model P w) A (isInstance (.ref a) (.type "tuple") >>= _) _ _ s
 refine wpAny_bind (wpAny_isInstance hT isSubtype_tuple_tuple ?_)
 simp only [Bool.not_true,Bool.false_eq_true,if_false]
 refine wpAny_bind (wpAny_seqItems h1 h3 (wpAny_bind ?_))
 show wpAny (model P w) A (forIn us _ _) _ _ s
 rw [← Array.forIn_toList]
 refine wpAny_forIn_list _ (fun rest r s'=>r.1=none∧s'=s∧∀ v∈rest,carriedByValue v=true) _ ?_ ?_ _ _ ⟨rfl,rfl,h4.byValue⟩
 ·rintro v rest r s' ⟨hr,rfl,hall⟩
  rw [eqIsQuiet_byValue _ (hall v List.mem_cons_self)]
  refine wpAny_bind (wpAny_pure ?_)
  simp only [Bool.not_true,Bool.false_eq_true,if_false]
  exact wpAny_pure ⟨rfl,rfl,fun u hu'=>hall u (List.mem_cons_of_mem _ hu')⟩
 ·rintro ⟨r1,r2⟩ s' ⟨hr,rfl,_⟩
  simp only at hr
  subst hr
  exact wpAny_pure h
theorem quiet2 {ks:List (List Int)} {a:Addr} {Q:Bool→Shared→Prop} (hk:IsKey2 P w s.heap ks a) (h:Q true s):wpAny (model P w) A (eqIsQuiet 8 (.ref a)) Q E s:=by
 have hT:=hk.ty
 obtain ⟨ob,us,m,h1,_,h3,h4⟩:=hk
 unfold eqIsQuiet
 refine wpAny_bind (wpAny_specialOf hT F.slot_tuple_eq.lookup ?_)
 show wpAny (model P w) A (isInstance (.ref a) (.type "tuple") >>= _) _ _ s
 refine wpAny_bind (wpAny_isInstance hT isSubtype_tuple_tuple ?_)
 simp only [Bool.not_true,Bool.false_eq_true,if_false]
 refine wpAny_bind (wpAny_seqItems h1 h3 (wpAny_bind ?_))
 show wpAny (model P w) A (forIn us _ _) _ _ s
 rw [← Array.forIn_toList]
 refine wpAny_forIn_list _ (fun rest r s'=>r.1=none∧s'=s∧∃ left,TupsAre (P:=P) (w:=w) s.heap left rest) _ ?_ ?_ _ _ ⟨rfl,rfl,ks,h4⟩
 ·rintro v rest r s' ⟨hr,rfl,left,hl⟩
  cases hl with
  | @cons l c ks' _ k1 r1 =>
   refine wpAny_bind (quiet1 6 k1 ?_)
   simp only [Bool.not_true,Bool.false_eq_true,if_false]
   exact wpAny_pure ⟨rfl,rfl,ks',r1⟩
 ·rintro ⟨r1,r2⟩ s' ⟨hr,rfl,_⟩
  simp only at hr
  subst hr
  exact wpAny_pure h
end
def kd (P:Program) (w:World):Bool→HeapKind P w (List (List Int))
 | false=>{
  is:=fun h k a=>∃ l,k=[l]∧IsTupleKey (intKind P w) h l a
  hash:=hashK false
  draws:=fun k=>(k.headD []).length + 1
  room:=fun A=>A.units + 3 < cLine
  inj:=by rintro h a x y ⟨l,rfl,p⟩ ⟨m,rfl,q⟩; rw [p.inj q]
  keeps:=fun ⟨l,e,p⟩ ho hd hs=>⟨l,e,p.keeps ho hd hs⟩
  pyHash:=fun hu ⟨l,e,p⟩ h=>by subst e; exact wpAny_pyHash_tuple (by omega) p h
  eqBool:=fun hu ⟨l,e,p⟩ ⟨m,e',q⟩ h=>by subst e e'; exact wpAny_eqBool_tuple (by omega) p q (by simpa using h)
  quiet:=fun ⟨l,e,p⟩ h=>wpAny_eqIsQuiet_tuple p h }
 | true=>{
  is:=IsKey2 P w
  hash:=hashK true
  draws:=draws2
  room:=fun A=>A.units + 3 < cLine
  inj:=fun p q=>p.inj2 q
  keeps:=fun p ho hd hs=>p.keep ho hd hs
  pyHash:=fun hu p h=>hash2 hu p h
  eqBool:=fun hu p q h=>eq2 hu p q h
  quiet:=fun p h=>quiet2 p h }
theorem kd_hash (P:Program) (w:World) (b:Bool) (k:List (List Int)):(kd P w b).hash k=hashK b k:=by cases b <;> rfl
theorem kd_room {P:Program} {w:World} {b:Bool} {A:Around} (h:A.units + 4 < cLine):(kd P w b).room A.in1:=by
 cases b <;> exact (show A.units + 1 + 3 < cLine by omega)
end L3
namespace L3
open PySem L2
def lkA {α:Type}:List (List (List Int))→List α→List (List Int)→Option α
 | k' :: ks,d :: ds,k=>if k'=k then some d else lkA ks ds k
 | _,_,_=>none
def rpA {α:Type}:List (List (List Int))→List α→List (List Int)→α→List α
 | k' :: ks,d :: ds,k,x=>(if k'=k then x else d) :: rpA ks ds k x
 | _,ds,_,_=>ds
def ptK (ks:List (List (List Int))) (k:List (List Int)):List (List (List Int)):=if k∈ks then ks else ks ++ [k]
def ptA {α:Type} (ks:List (List (List Int))) (ds:List α) (k:List (List Int)) (x:α):List α:=if k∈ks then rpA ks ds k x else ds ++ [x]
def ent3:List (List (List Int))→List Addr→List Value→List (List (List Int)×Addr×Value)
 | k :: ks,a :: as,u :: us=>(k,a,u) :: ent3 ks as us
 | _,_,_=>[]
section
variable {P:Program} {w:World} {b:Bool}
theorem ent_map:∀ (ks:List (List (List Int))) (as:List Addr) (us:List Value),entK b ks as us=(ent3 ks as us).map (entryOfKey (kd P w b))
 | k :: ks,a :: as,u :: us=>by
  rw [entK,ent3,List.map_cons,← ent_map ks as us]
  unfold entryOfKey
  rw [kd_hash]
 | [],_,_=>by simp [entK,ent3]
 | _ :: _,[],_=>by simp [entK,ent3]
 | _ :: _,_ :: _,[]=>by simp [entK,ent3]
theorem ent_keys:∀ {ks:List (List (List Int))} {as:List Addr} {us:List Value},as.length=ks.length→us.length=ks.length→(ent3 ks as us).map (·.1)=ks
 | [],_,_,_,_=>by simp [ent3]
 | k :: ks,[],_,h,_=>by simp at h
 | k :: ks,_ :: _,[],_,h=>by simp at h
 | k :: ks,a :: as,u :: us,h1,h2=>by
  rw [ent3,List.map_cons,ent_keys (by simpa using h1) (by simpa using h2)]
theorem ent_get:∀ {ks:List (List (List Int))} {as:List Addr} {us:List Value} (k:List (List Int)),as.length=ks.length→us.length=ks.length→(atKey (ent3 ks as us) k).map (·.2)=lkA ks us k
 | [],_,_,_,_,_=>by simp [ent3,atKey,lkA]
 | k :: ks,[],_,_,h,_=>by simp at h
 | k :: ks,_ :: _,[],_,_,h=>by simp at h
 | k' :: ks,a :: as,u :: us,k,h1,h2=>by
  have ih:=ent_get (ks:=ks) (as:=as) (us:=us) k (by simpa using h1) (by simpa using h2)
  by_cases e:k'=k
  ·simp [ent3,atKey,lkA,e]
  ·rw [lkA,if_neg e,← ih]
   simp [ent3,atKey,List.find?_cons,e]
theorem lk_none {α:Type}:∀ {ks:List (List (List Int))} {ds:List α} {k:List (List Int)},ds.length=ks.length→(lkA ks ds k=none↔k ∉ ks)
 | [],_,_,_=>by simp [lkA]
 | k' :: ks,[],_,h=>by simp at h
 | k' :: ks,d :: ds,k,h=>by
  have ih:=lk_none (ks:=ks) (ds:=ds) (k:=k) (by simpa using h)
  rw [lkA]
  by_cases e:k'=k
  ·simp [e]
  ·rw [if_neg e,ih,List.mem_cons]
   constructor
   ·intro z w
    rcases w with w | w
    ·exact e w.symm
    ·exact z w
   ·exact fun z w=>z (.inr w)
theorem ent_put:∀ {ks:List (List (List Int))} {as:List Addr} {us:List Value} (k:List (List Int)) (u:Value),(ent3 ks as us).map (putAt k u)=ent3 ks as (rpA ks us k u)
 | [],_,_,_,_=>by simp [ent3]
 | k :: ks,[],_,_,_=>by simp [ent3]
 | k :: ks,_ :: _,[],_,_=>by simp [ent3,rpA]
 | k' :: ks,a :: as,v :: us,k,u=>by
  rw [ent3,List.map_cons,ent_put k u,rpA,ent3]
  unfold putAt
  by_cases e:k'=k
  ·rw [if_pos e,if_pos e]
  ·rw [if_neg e,if_neg e]
theorem ent_snoc:∀ {ks:List (List (List Int))} {as:List Addr} {us:List Value} (k:List (List Int)) (a:Addr) (u:Value),as.length=ks.length→us.length=ks.length→ent3 (ks ++ [k]) (as ++ [a]) (us ++ [u])=ent3 ks as us ++ [(k,a,u)]
 | [],[],[],_,_,_,_,_=>rfl
 | [],_ :: _,_,_,_,_,h,_=>by simp at h
 | [],[],_ :: _,_,_,_,_,h=>by simp at h
 | k :: ks,[],_,_,_,_,h,_=>by simp at h
 | k :: ks,_ :: _,[],_,_,_,_,h=>by simp at h
 | k' :: ks,a' :: as,u' :: us,k,a,u,h1,h2=>by
  rw [List.cons_append,List.cons_append,List.cons_append,ent3,ent_snoc k a u (by simpa using h1) (by simpa using h2),ent3,List.cons_append]
theorem ent_stored {ks:List (List (List Int))} {as:List Addr} {us:List Value} (k:List (List Int)) (a:Addr) (u:Value) (h1:as.length=ks.length) (h2:us.length=ks.length) :
  storedH (ent3 ks as us) k a u=ent3 (ptK ks k) (if k∈ks then as else as ++ [a]) (ptA ks us k u):=by
 have g:=ent_get (as:=as) (us:=us) k h1 h2
 unfold storedH ptK ptA
 by_cases m:k∈ks
 ·have s:(atKey (ent3 ks as us) k).isSome=true:=by
   have z:((atKey (ent3 ks as us) k).map (·.2)).isSome=true:=by
    rw [g]
    cases q:lkA ks us k with
    | none=>exact absurd m ((lk_none h2).mp q)
    | some x=>rfl
   rwa [Option.isSome_map] at z
  rw [if_pos s,if_pos m,if_pos m,if_pos m,ent_put]
 ·have s:¬ (atKey (ent3 ks as us) k).isSome=true:=by
   have z:((atKey (ent3 ks as us) k).map (·.2)).isSome=false:=by
    rw [g,(lk_none h2).mpr m]; rfl
   rw [Option.isSome_map] at z
   rw [z]; simp
  rw [if_neg s,if_neg m,if_neg m,if_neg m,ent_snoc k a u h1 h2]
def KeyAt (H:Hp) (b:Bool) (k:List (List Int)) (a:Addr):Prop:=match b with
 | false=>∃ l:List Int,k=[l]∧H a=some (.tup (l.map V.int))
 | true=>∃ as:List Addr,H a=some (.tup (as.map V.ref))∧Paired (fun (l:List Int) c=>H c=some (.tup (l.map V.int))) k as
theorem ints_are:∀ {l:List Int} {us:List Value},Vals (l.map V.int) us→ItemsAre (intKind P w) l us
 | [],_,r=>by rw [List.map_nil] at r; cases r; exact .nil
 | i :: l,_,r=>by
  rw [List.map_cons] at r
  cases r with
  | cons h t =>
   obtain ⟨t',e⟩:=(show ∃ t,_=Value.int i t from h)
   subst e
   exact .cons (by simp [intKind,Value.isInt]) (ints_are t)
theorem flat_at {H:Hp} {h:Heap} {l:List Int} {a:Addr} (ok:HOk P w H h) (e:H a=some (.tup (l.map V.int))):IsTupleKey (intKind P w) h l a:=by
 obtain ⟨_,its,r,o,h1,h2,n,h3⟩:=(show ObjOk P w H h a (.tup (l.map V.int)) from ok a _ e)
 exact ⟨o,its.toArray,n,h1,h2,h3,by simpa using ints_are r⟩
theorem tups_are {H:Hp} {h:Heap} (ok:HOk P w H h):∀ {ks:List (List Int)} {as:List Addr} {us:List Value},Paired (fun (l:List Int) c=>H c=some (.tup (l.map V.int))) ks as→Vals (as.map V.ref) us→TupsAre (P:=P) (w:=w) h ks us
 | [],[],_,.nil,r=>by rw [List.map_nil] at r; cases r; exact .nil
 | _ :: _,a :: as,_,.cons p q,r=>by
  rw [List.map_cons] at r
  cases r with
  | cons h t =>
   cases (show _=Value.ref a from h)
   exact .cons (flat_at ok p) (tups_are ok q t)
theorem KeyAt.is {H:Hp} {h:Heap} {k:List (List Int)} {a:Addr} (x:KeyAt H b k a) (ok:HOk P w H h):(kd P w b).is h k a:=by
 cases b with
 | false =>
  obtain ⟨l,rfl,e⟩:=x
  exact ⟨l,rfl,flat_at ok e⟩
 | true =>
  obtain ⟨as,e,p⟩:=x
  obtain ⟨_,its,r,o,h1,h2,n,h3⟩:=(show ObjOk P w H h a (.tup (as.map V.ref)) from ok a _ e)
  exact ⟨o,its.toArray,n,h1,h2,h3,by simpa using tups_are ok p r⟩
structure DcAt (H:Hp) (b:Bool) (a:Addr) (ep:Nat) (ks:List (List (List Int))) (as:List Addr) (vs:List V):Prop where
 h:H a=some (DicO b a ep ks as vs)
 k:Paired (KeyAt H b) ks as
theorem keys_is {H:Hp} {h:Heap} (ok:HOk P w H h):∀ {ks:List (List (List Int))} {as:List Addr} {us:List Value},Paired (KeyAt H b) ks as→∀ x∈ent3 ks as us,(kd P w b).is h x.1 x.2.1
 | _,_,[],p,x,m=>by cases p <;> simp [ent3] at m
 | [],[],_ :: _,.nil,x,m=>by simp [ent3] at m
 | k :: ks,a :: as,u :: us,.cons p q,x,m=>by
  rw [ent3] at m
  rcases List.mem_cons.mp m with e | m
  ·subst e; exact p.is ok
  ·exact keys_is ok q x m
theorem DcAt.raw {H:Hp} {h:Heap} {a:Addr} {ep:Nat} {ks:List (List (List Int))} {as:List Addr} {vs:List V} (d:DcAt H b a ep ks as vs) (ok:HOk P w H h) :
  ks.length≤sizeLine∧as.length=ks.length∧vs.length=ks.length∧(a == sysModules)=false∧∃ us,Vals vs us∧h.DictOfH (kd P w b) a (ent3 ks as us)∧ks.Nodup:=by
 obtain ⟨⟨h1,h2,h3,h4,us,h5,o,es,h6,h7,h8,h9,h10⟩,_⟩:=(show ObjOk P w H h a (DicO b a ep ks as vs) from ok a _ d.h)
 have l5:=h5.length
 exact ⟨h1,h2,h3,h4,us,h5,⟨o,es,ep,h6,h7,h8,by rw [h9,ent_map (P:=P) (w:=w)],keys_is ok d.k,by rw [ent_keys h2 (by omega)]; exact h10⟩,h10⟩
theorem vals_lk:∀ {ks:List (List (List Int))} {vs:List V} {us:List Value} (k:List (List Int)),Vals vs us→RelO (lkA ks vs k) (lkA ks us k)
 | [],_,_,_,_=>by simp [lkA]; trivial
 | _ :: _,_,_,_,.nil=>by simp [lkA]; trivial
 | k' :: ks,_,_,k,.cons r t=>by
  rw [lkA,lkA]
  by_cases e:k'=k
  ·rw [if_pos e,if_pos e]; exact r
  ·rw [if_neg e,if_neg e]; exact vals_lk k t
end
end L3
namespace L3
open PySem L2
def IsDc (H:Hp) (a:Addr):Prop:=∃ b ep ks as vs,DcAt H b a ep ks as vs
def tCNew (b:Bool):TE:=fun _ H Q=>∀ p,H p=none→Q (.ref p) (upd H p (DicO b p 0 [] [] []))
section
variable {X:Cx} {b:Bool} {pos pos' apos cpos:Pos} {o e f i value:Expr} {td ty tx tv:TE}
theorem DcAt.typ {H:Hp} {s:Shared} {pins:List (Addr×Obj)} {σ:St} {a:Addr} {ep:Nat} {ks:List (List (List Int))} {as:List Addr} {vs:List V} (I:Inv X pins σ H s) (d:DcAt H b a ep ks as vs) :
  s.TypeIs (.ref a) "dict" ∧ ∀ c,Value.ref a=.ref c→∃ ob,s.heap.get? c=some ob∧ob.dict=none:=by
 obtain ⟨_,_,_,_,us,_,dd,_⟩:=d.raw I.hok
 refine ⟨dd.typeIs,fun c q=>?_⟩
 cases q
 obtain ⟨ob,_,_,h1,h2,_⟩:=dd
 exact ⟨ob,h1,h2.2.1⟩
theorem pt_nodup {ks:List (List (List Int))} {k:List (List Int)} (h:ks.Nodup):(ptK ks k).Nodup:=by
 unfold ptK
 by_cases m:k∈ks
 ·rw [if_pos m]; exact h
 ·rw [if_neg m]
  refine List.nodup_append.mpr ⟨h,by simp,fun x hx y hy=>?_⟩
  rw [List.mem_singleton.mp hy]
  rintro rfl
  exact m hx
theorem pe_cnew:PE X (.Dict [] [] pos) (tCNew b):=fun pins s σ H Q I h=>by
 have big:sysModules < s.heap.objs.size:=Nat.lt_trans (by decide) ((I.mod.glob.keeps I.bk).lt:mainGlobals < s.heap.objs.size)
 refine wpAny_Dict_empty ⟨.ref s.heap.objs.size,_,I.laid (a:=s.heap.objs.size) (o:=DicO b s.heap.objs.size 0 [] [] []) (t':=s.toks) (fun _ _ q=>Heap.get?_push_of_some _ q) (Nat.le_refl _) ?_,rfl,h _ (I.hok.fresh (Nat.le_refl _))⟩
 refine ⟨⟨Nat.zero_le _,rfl,rfl,beq_eq_false_iff_ne.mpr (Ne.symm (Nat.ne_of_lt big)),[],.nil,_,#[],Heap.get?_push_size _ rfl,⟨rfl,rfl,rfl⟩,rfl,rfl,List.nodup_nil⟩,⟨_,Heap.get?_push_size _ rfl⟩,?_⟩
 rintro g1 g2 ⟨z1,z2,z3,z4,us',z5,ob',es',z6,z7⟩ hk
 exact ⟨z1,z2,z3,z4,us',z5,ob',es',hk _ z6,z7⟩
end
end L3
namespace L3
open PySem L2
def RawD (h:Heap) (d:Addr) (es:Array DictEntry) (ep:Nat):Prop:=∃ o,h.get? d=some o∧o.ExactDict∧o.data=.dict es ep
section
variable {prog:Program} {w:World} {A:Around} {E:Value→Shared→Prop} {s:Shared} {d it:Addr} {i ep:Nat} {es:Array DictEntry}
end
end L3
namespace L3
open PySem L2
theorem ent_len {b:Bool}:∀ {ks:List (List (List Int))} {as:List Addr} {us:List Value},as.length=ks.length→us.length=ks.length→(entK b ks as us).length=ks.length
 | [],_,_,_,_=>by simp [entK]
 | k :: ks,[],_,h,_=>by simp at h
 | k :: ks,_ :: _,[],_,h=>by simp at h
 | k :: ks,a :: as,u :: us,h1,h2=>by rw [entK,List.length_cons,List.length_cons,ent_len (by simpa using h1) (by simpa using h2)]
theorem ent_nth {b:Bool}:∀ {ks:List (List (List Int))} {as:List Addr} {us:List Value} {i:Nat},as.length=ks.length→us.length=ks.length→i < ks.length→∃ k c u,as[i]?=some c∧us[i]?=some u∧(entK b ks as us)[i]?=some ⟨hashK b k,.ref c,u⟩
 | [],_,_,i,_,_,h=>by simp at h
 | k :: ks,[],_,_,h,_,_=>by simp at h
 | k :: ks,_ :: _,[],_,_,h,_=>by simp at h
 | k :: ks,a :: as,u :: us,0,_,_,_=>⟨k,a,u,rfl,rfl,rfl⟩
 | k :: ks,a :: as,u :: us,i + 1,h1,h2,h3=>by
  obtain ⟨k',c,u',z1,z2,z3⟩:=ent_nth (b:=b) (ks:=ks) (as:=as) (us:=us) (i:=i) (by simpa using h1) (by simpa using h2) (by simpa using h3)
  exact ⟨k',c,u',by simpa using z1,by simpa using z2,by simpa [entK] using z3⟩
section
variable {P:Program} {w:World} {K:PySem.W.Frag} {tg:Expr} {b:Bool} {a:Addr} {ep:Nat} {ks:List (List (List Int))} {as:List Addr} {vs:List V}
theorem raw_of {H:Hp} {h:Heap} (ok:HOk P w H h) (e:H a=some (DicO b a ep ks as vs)):∃ us es,RawD h a es ep∧es.toList=entK b ks as us∧as.length=ks.length∧us.length=ks.length∧es.size=ks.length∧Vals vs us∧(a == sysModules)=false:=by
 obtain ⟨⟨h1,h2,h3,h4,us,h5,o,es,h6,h7,h8,h9,h10⟩,_⟩:=(show ObjOk P w H h a (DicO b a ep ks as vs) from ok a _ e)
 have l5:=h5.length
 exact ⟨us,es,⟨o,h6,h7,h8⟩,h9,h2,by omega,by rw [← Array.length_toList,h9,ent_len h2 (by omega)],h5,h4⟩
end
section
variable {X:Cx} {tg:Expr}
end
section
variable {K:PySem.W.Frag} {B H:Hp}
theorem reps_intV:∀ {vs:List V} {l:List Int},Reps K B vs (l.map D.int)→vs=l.map V.int
 | _,[],r=>by cases r; rfl
 | _,i :: l,r=>by
  rw [List.map_cons] at r
  cases r with
  | cons h t=>rw [h.intV,reps_intV t]; rfl
theorem reps_tups (s:Same B H):∀ {vs:List V} {k:List (List Int)},Reps K B vs (k.map fun ks=>.tup (ks.map D.int))→∃ as:List Addr,vs=as.map V.ref∧Paired (fun (l:List Int) c=>H c=some (.tup (l.map V.int))) k as
 | _,[],r=>by cases r; exact ⟨[],rfl,.nil⟩
 | _,l :: k,r=>by
  rw [List.map_cons] at r
  cases r with
  | cons h t =>
   obtain ⟨c,us,rfl,hc,rs⟩:=h.tupV
   rw [reps_intV rs] at hc
   obtain ⟨as,rfl,p⟩:=reps_tups s t
   exact ⟨c :: as,rfl,.cons (s _ _ hc) p⟩
theorem key_ref {b:Bool} {k:List (List Int)} {v:V} (r:Rep K B v (keyD b k)):∃ c,v=.ref c:=by
 unfold keyD at r
 split at r
 ·obtain ⟨c,_,rfl,_⟩:=r.tupV; exact ⟨c,rfl⟩
 ·obtain ⟨c,_,rfl,_⟩:=r.tupV; exact ⟨c,rfl⟩
theorem keyAt_of {b:Bool} {k:List (List Int)} {c:Addr} (s:Same B H) (hb:b=false→∃ l,k=[l]) (r:Rep K B (.ref c) (keyD b k)):KeyAt H b k c:=by
 cases b with
 | false =>
  obtain ⟨l,rfl⟩:=hb rfl
  obtain ⟨c',us,e,hc,rs⟩:=(show Rep K B (.ref c) (.tup (l.map D.int)) from r).tupV
  cases e
  rw [reps_intV rs] at hc
  exact ⟨l,rfl,s _ _ hc⟩
 | true =>
  obtain ⟨c',us,e,hc,rs⟩:=(show Rep K B (.ref c) (.tup (k.map fun ks=>.tup (ks.map D.int))) from r).tupV
  cases e
  obtain ⟨as,rfl,p⟩:=reps_tups s rs
  exact ⟨as,s _ _ hc,p⟩
theorem keys_of {b:Bool} (s:Same B H):∀ {ks:List (List (List Int))} {as:List Addr},(b=false→∀ k∈ks,∃ l,k=[l])→Reps K B (as.map V.ref) (ks.map (keyD b))→Paired (KeyAt H b) ks as
 | [],[],_,_=>.nil
 | [],_ :: _,_,r=>by cases r
 | _ :: _,[],_,r=>by cases r
 | k :: ks,a :: as,hb,r=>by
  rw [List.map_cons,List.map_cons] at r
  cases r with
  | cons h t=>exact .cons (keyAt_of s (fun z=>hb z k List.mem_cons_self) h) (keys_of s (fun z k' m=>hb z k' (List.mem_cons_of_mem _ m)) t)
end
def KeyOk (b:Bool) (k:List (List Int)):Prop:=b=false→∃ l,k=[l]
section
variable {X:Cx} {b:Bool} {n:Nat} {x:Str} {px pos pos' apos cpos pd:Pos} {o e f i value:Expr} {uo ue uf uv:UE} {tg:Expr}
end
end L3
namespace L3
open PySem L2
theorem hu4 {A:Around} {k:Nat} (hr:Room k A):A.units + 4 < cLine:=Nat.lt_of_le_of_lt (Nat.add_le_add_left (by decide:4≤64) _) hr.units
section
variable {K:PySem.W.Frag}
end
section
variable {X:Cx} {m n:Nat} {x:Str} {px p pos pos2:Pos} {e:Expr} {es:List Expr} {F:FD} {w:UL}
end
end L3
namespace Cut
open PySem L2 L3
abbrev dH (ps:List P3):D:=.lst (ps.map dP)
theorem atI_some {α β:Type} {f:α→β} {L:List α} {i:Int} (h1 : -(L.length:Int)≤i) (h2:i < L.length):∃ x∈L,atI (L.map f) i=some (f x):=by
 have e:∃ j,L2.ixN (L.map f).length i=some j∧j < L.length:=by
  unfold L2.ixN
  rw [List.length_map]
  by_cases h0:0≤i
  ·rw [if_pos h0,if_pos h2]
   exact ⟨_,rfl,by omega⟩
  ·rw [if_neg h0,if_pos h1]
   exact ⟨_,rfl,by omega⟩
 obtain ⟨j,e,hj⟩:=e
 refine ⟨L[j],List.getElem_mem _,?_⟩
 unfold atI
 rw [e]
 simp [hj]
end Cut
namespace Cut
open PySem L2 L3
open PySem.Builtin.Int (intBits)
end Cut
namespace Cut
open PySem L2 L3
theorem rX_nP {p:P3} (h:0 < p.2.2):rX (nP p)=rX p:=by
 obtain ⟨pt,e,_⟩:=npt_spec (a:=p.1) (b:=p.2.1) (Int.ne_of_gt h)
 have a:=pos_ne h
 have b:=pos_ne pt.1
 have e:((nP p).1:Rat) * p.2.2=p.1 * (nP p).2.2:=by rw [← Rat.intCast_mul,← Rat.intCast_mul]; exact congrArg _ e
 have b:((nP p).2.2:Rat)≠0:=b
 unfold rX
 generalize ((nP p).1:Rat)=x at *
 generalize ((nP p).2.2:Rat)=y at *
 generalize (p.1:Rat)=z at *
 generalize (p.2.2:Rat)=w at *
 grind
end Cut
namespace Cut
open PySem L2 L3
open PySem.Builtin.Int (intBits)
abbrev RP:=List (List P3)
end Cut
namespace Cut
end Cut
namespace Cut
open PySem L2 L3
open PySem.Builtin.Int (intBits)
end Cut
namespace Cut
end Cut
namespace Cut
end Cut
namespace Cut
open PySem L2 L3
end Cut
namespace Cut
open PySem L2 L3
open PySem.Builtin.Int (intBits)
end Cut
namespace Cut
open PySem
end Cut
namespace Cut
open PySem L2 L3
open PySem.Builtin.Int (intBits)
end Cut
namespace Cut
open PySem L2 L3
def dL (p:P3):List Int:=[p.1,p.2.1,p.2.2]
def gcL (l:P3):Int:=(Nat.gcd (Nat.gcd l.1.natAbs l.2.1.natAbs) l.2.2.natAbs:Nat)
def downL (l:P3):Prop:=l.1 < 0∨(l.1=0∧l.2.1 < 0)
instance (l:P3):Decidable (downL l):=by unfold downL; infer_instance
def oftL (l:P3):Int:=if downL l then -gcL l else gcL l
def nrmL (l:P3):P3:=(l.1 / oftL l,l.2.1 / oftL l,l.2.2 / oftL l)
theorem gcL_dvd (l:P3):gcL l ∣ l.1∧gcL l ∣ l.2.1∧gcL l ∣ l.2.2:=by
 unfold gcL
 refine ⟨?_,?_,?_⟩
 ·exact Int.ofNat_dvd_left.mpr (Nat.dvd_trans (Nat.gcd_dvd_left _ _) (Nat.gcd_dvd_left _ _))
 ·exact Int.ofNat_dvd_left.mpr (Nat.dvd_trans (Nat.gcd_dvd_left _ _) (Nat.gcd_dvd_right _ _))
 ·exact Int.ofNat_dvd_left.mpr (Nat.gcd_dvd_right _ _)
theorem oft_dvd (l:P3):oftL l ∣ l.1∧oftL l ∣ l.2.1∧oftL l ∣ l.2.2:=by
 obtain ⟨a,b,c⟩:=gcL_dvd l
 unfold oftL
 split
 ·exact ⟨Int.neg_dvd.mpr a,Int.neg_dvd.mpr b,Int.neg_dvd.mpr c⟩
 ·exact ⟨a,b,c⟩
theorem gcL_sc (c:Int) (l:P3):gcL (sc c l)=c.natAbs * gcL l:=by
 unfold gcL sc
 dsimp only
 rw [Int.natAbs_mul,Int.natAbs_mul,Int.natAbs_mul,Nat.gcd_mul_left,Nat.gcd_mul_left,Int.natCast_mul]
theorem oft_sc {c:Int} {l:P3} (hc:c≠0) (hl:l.1≠0∨l.2.1≠0):oftL (sc c l)=c * oftL l:=by
 have down:downL (sc c l)↔(if 0 < c then downL l else ¬ downL l):=by
  unfold downL sc
  dsimp only
  split
  ·rename_i h
   constructor
   ·rintro (z | ⟨z,y⟩)
    ·exact .inl (by
      by_cases q:l.1 < 0
      ·exact q
      ·have:=Int.mul_nonneg (Int.le_of_lt h) (show 0≤l.1 by omega)
       omega)
    ·have z:=(Int.mul_eq_zero.mp z).resolve_left hc
     refine .inr ⟨z,?_⟩
     by_cases q:l.2.1 < 0
     ·exact q
     ·have:=Int.mul_nonneg (Int.le_of_lt h) (show 0≤l.2.1 by omega)
      omega
   ·rintro (z | ⟨z,y⟩)
    ·exact .inl (Int.mul_neg_of_pos_of_neg h z)
    ·exact .inr ⟨by rw [z,Int.mul_zero],Int.mul_neg_of_pos_of_neg h y⟩
  ·rename_i h
   have h:c < 0:=by omega
   constructor
   ·rintro (z | ⟨z,y⟩) (q | ⟨q,r⟩)
    ·have:=Int.mul_pos_of_neg_of_neg h q; omega
    ·rw [q,Int.mul_zero] at z; omega
    ·have z:=(Int.mul_eq_zero.mp z).resolve_left hc; omega
    ·have:=Int.mul_pos_of_neg_of_neg h r; omega
   ·intro z
    have z1:¬ l.1 < 0:=fun q=>z (.inl q)
    by_cases q:l.1=0
    ·refine .inr ⟨by rw [q,Int.mul_zero],Int.mul_neg_of_neg_of_pos h ?_⟩
     have z2:¬ l.2.1 < 0:=fun r=>z (.inr ⟨q,r⟩)
     rcases hl with w | w
     ·exact absurd q w
     ·omega
    ·exact .inl (Int.mul_neg_of_neg_of_pos h (by omega))
 unfold oftL
 rw [gcL_sc]
 by_cases h:0 < c
 ·rw [if_pos h] at down
  have e:((c.natAbs:Nat):Int)=c:=by omega
  by_cases d:downL l
  ·rw [if_pos (down.mpr d),if_pos d,e,Int.mul_neg]
  ·rw [if_neg (fun z=>d (down.mp z)),if_neg d,e]
 ·rw [if_neg h] at down
  have e:((c.natAbs:Nat):Int) = -c:=by omega
  by_cases d:downL l
  ·rw [if_neg (fun z=>down.mp z d),if_pos d,e,Int.mul_neg,Int.neg_mul]
  ·rw [if_pos (down.mpr d),if_neg d,e,Int.neg_mul,Int.neg_neg]
theorem oft_ne {l:P3} (hl:l.1≠0∨l.2.1≠0):oftL l≠0:=by
 have g:gcL l≠0:=fun z=>by
  obtain ⟨a,b,_⟩:=gcL_dvd l
  rw [z] at a b
  have a:=Int.zero_dvd.mp a
  have b:=Int.zero_dvd.mp b
  rcases hl with h | h <;> contradiction
 unfold oftL
 split
 ·omega
 ·exact g
theorem div_sc {c x g:Int} (hc:c≠0) (hg:g≠0) (h:g ∣ x):c * x / (c * g)=x / g:=by
 obtain ⟨k,rfl⟩:=h
 rw [Int.mul_ediv_cancel_left _ hg,← Int.mul_assoc,Int.mul_ediv_cancel_left _ (Int.mul_ne_zero hc hg)]
theorem nrm_sc {c:Int} {l:P3} (hc:c≠0) (hl:l.1≠0∨l.2.1≠0):nrmL (sc c l)=nrmL l:=by
 obtain ⟨a,b,d⟩:=oft_dvd l
 have g:=oft_ne hl
 unfold nrmL
 rw [oft_sc hc hl]
 unfold sc
 dsimp only
 rw [div_sc hc g a,div_sc hc g b,div_sc hc g d]
def lnK (p q:P3):P3:=nrmL (crs p q)
def kE (p q x:P3):List (List Int):=[dL (lnK p q),dL x]
def sG (φ:List (List Int)→Int) (p q:P3):Rat:=((φ (kE p q p):Int):Rat) - ((φ (kE p q q):Int):Rat)
def sR (φ:List (List Int)→Int) (ps:List P3):Rat:=sumT (sG φ) (eds ps)
def sRs (φ:List (List Int)→Int) (rs:List (List P3)):Rat:=(rs.map (sR φ)).sum
def Bal (rs qs:List (List P3)):Prop:=∀ φ,sRs φ rs=sRs φ qs
end Cut
namespace Cut
open PySem L2 L3
theorem par_nrm {l w:P3} (hl:l.1≠0∨l.2.1≠0) (hw:w.1≠0∨w.2.1≠0) (h:crs l w=(0,0,0)):nrmL l=nrmL w:=by
 have h1:l.2.1 * w.2.2 - l.2.2 * w.2.1=0:=congrArg (·.1) h
 have h2:l.2.2 * w.1 - l.1 * w.2.2=0:=congrArg (·.2.1) h
 have h3:l.1 * w.2.1 - l.2.1 * w.1=0:=congrArg (·.2.2) h
 by_cases a:l.1=0
 ·have b:l.2.1≠0:=hl.resolve_left fun z=>z a
  have w1:w.1=0:=by
   rw [a] at h3
   have:l.2.1 * w.1=0:=by omega
   exact (Int.mul_eq_zero.mp this).resolve_left b
  have w2:w.2.1≠0:=hw.resolve_left fun z=>z w1
  have e:sc w.2.1 l=sc l.2.1 w:=p3_ext (by show w.2.1 * l.1=l.2.1 * w.1; rw [a,w1]; simp) (by show w.2.1 * l.2.1=l.2.1 * w.2.1; rw [Int.mul_comm]) (by show w.2.1 * l.2.2=l.2.1 * w.2.2; grind)
  rw [← nrm_sc w2 hl,e,nrm_sc b hw]
 ·have w1:w.1≠0:=fun z=>by
   rw [z] at h3
   have:l.1 * w.2.1=0:=by omega
   have:=(Int.mul_eq_zero.mp this).resolve_left a
   rcases hw with q | q
   ·exact q z
   ·exact q this
  have e:sc w.1 l=sc l.1 w:=p3_ext (by show w.1 * l.1=l.1 * w.1; rw [Int.mul_comm]) (by show w.1 * l.2.1=l.1 * w.2.1; grind) (by show w.1 * l.2.2=l.1 * w.2.2; grind)
  rw [← nrm_sc w1 hl,e,nrm_sc a hw]
theorem crs_ne {u v:P3} (hu:PtP u) (hv:PtP v) (h:u≠v):(crs u v).1≠0∨(crs u v).2.1≠0:=by
 by_cases a:(crs u v).1=0
 ·right
  intro b
  have a:u.2.1 * v.2.2 - u.2.2 * v.2.1=0:=a
  have b:u.2.2 * v.1 - u.1 * v.2.2=0:=b
  obtain ⟨e1,e2,e3⟩:=pt_uniq hu hv (by grind) (by grind)
  exact h (p3_ext e1 e2 e3)
 ·exact .inl a
theorem crs_on {l u v:P3} (hu:ln l u=0) (hv:ln l v=0):crs l (crs u v)=(0,0,0):=by
 unfold ln at hu hv
 refine p3_ext ?_ ?_ ?_ <;> simp only [crs] <;> grind
theorem lnK_on {l u v:P3} (hl:l.1≠0∨l.2.1≠0) (hu:PtP u) (hv:PtP v) (h:u≠v) (lu:ln l u=0) (lv:ln l v=0):lnK u v=nrmL l:=(par_nrm hl (crs_ne hu hv h) (crs_on lu lv)).symm
theorem crs_sw (u v:P3):crs v u=sc (-1) (crs u v):=by refine p3_ext ?_ ?_ ?_ <;> simp only [crs,sc] <;> grind
theorem lnK_swap {u v:P3} (hu:PtP u) (hv:PtP v):lnK v u=lnK u v:=by
 by_cases h:u=v
 ·rw [h]
 ·unfold lnK
  rw [crs_sw,nrm_sc (by decide) (crs_ne hu hv h)]
section
variable (φ:List (List Int)→Int) (l:P3)
end
theorem sumT_congr {T1 T2:P3→P3→Rat}:∀ {es:List (P3×P3)},(∀ e∈es,T1 e.1 e.2=T2 e.1 e.2)→sumT T1 es=sumT T2 es
 | [],_=>rfl
 | e :: es,h=>by rw [sumT_cons,sumT_cons,h e List.mem_cons_self,sumT_congr fun e he=>h e (List.mem_cons_of_mem _ he)]
theorem tele0 (h:P3→Rat) (ps:List P3):sumT (fun p q=>h p - h q) (eds ps)=0:=by
 cases ps with
 | nil=>rfl
 | cons a r =>
  have e:lz (lz (0,0,1) (a :: r)) (a :: r)=lz (0,0,1) (a :: r):=lz_cons (by simp)
  unfold eds
  rw [tele,e]
  grind
section
variable {l o:P3} {ps:List P3}
end
def toP:List Int→P3
 | [a,b,c]=>(a,b,c)
 | _=>(0,0,0)
theorem ratI_sub (a b:Int):((a - b:Int):Rat)=(a:Rat) - (b:Rat):=by grind
section
variable {l:P3} {φ:List (List Int)→Int}
end
end Cut
namespace Cut
open PySem L2 L3
theorem crs_oft {p q:P3}:crs p q=sc (oftL (crs p q)) (lnK p q):=by
 obtain ⟨d1,d2,d3⟩:=oft_dvd (crs p q)
 unfold lnK nrmL sc
 refine p3_ext ?_ ?_ ?_
 ·exact (Int.mul_ediv_cancel' d1).symm
 ·exact (Int.mul_ediv_cancel' d2).symm
 ·exact (Int.mul_ediv_cancel' d3).symm
theorem lnK_ne {p q:P3} (hp:PtP p) (hq:PtP q) (h:p≠q):(lnK p q).1≠0∨(lnK p q).2.1≠0:=by
 have w:=crs_ne hp hq h
 rw [crs_oft] at w
 rcases w with w | w
 ·exact .inl fun z=>w (by show _ * (lnK p q).1=0; rw [z,Int.mul_zero])
 ·exact .inr fun z=>w (by show _ * (lnK p q).2.1=0; rw [z,Int.mul_zero])
end Cut
namespace Cut
open PySem L2 L3
open PySem.Builtin.Int (intBits)
theorem back_P {ps:List P3} {i:Nat} (h:i < ps.length):∃ p q,p∈ps∧q∈ps∧atI (ps.map dP) ((i:Int) - 1)=some (dP p)∧atI (ps.map dP) (i:Int)=some (dP q)∧(p,q)∈eds ps∧(eds ps).take (i + 1)=(eds ps).take i ++ [(p,q)]:=by
 obtain ⟨p,mp,hp⟩:=atI_some (f:=id) (L:=ps) (i:=(i:Int) - 1) (by omega) (by omega)
 obtain ⟨q,mq,hq⟩:=atI_some (f:=id) (L:=ps) (i:=(i:Int)) (by omega) (by omega)
 rw [List.map_id] at hp hq
 have e1:nth ps ((i + ps.length - 1) % ps.length)=p:=dP_inj (Option.some.inj ((atI_back1 h).symm.trans (atI_map hp)))
 have e2:nth ps i=q:=dP_inj (Option.some.inj ((atI_nth h).symm.trans (atI_map hq)))
 have et:(eds ps).take (i + 1)=(eds ps).take i ++ [(p,q)]:=by rw [eds_take h,e1,e2]
 exact ⟨p,q,mp,mq,atI_map hp,atI_map hq,List.mem_of_mem_take (i:=i + 1) (by rw [et]; simp),et⟩
def cn1 (key:List (List Int)) (e:P3×P3):Int:=(if key=kE e.1 e.2 e.1 then 1 else 0) - (if key=kE e.1 e.2 e.2 then 1 else 0)
def cnE (key:List (List Int)) (es:List (P3×P3)):Int:=(es.map (cn1 key)).sum
def cnR (key:List (List Int)) (rs:List (List P3)):Int:=(rs.map fun ps=>cnE key (eds ps)).sum
theorem sumI_cast:∀ (l:List Int),((l.sum:Int):Rat)=(l.map fun x:Int=>(x:Rat)).sum
 | []=>by simp
 | a :: l=>by
  rw [List.sum_cons,List.map_cons,List.sum_cons,← sumI_cast l]
  grind
theorem cnR_bal {rs qs:List (List P3)} (h:Bal rs qs) (key:List (List Int)):cnR key rs=cnR key qs:=by
 have one:∀ L:List (List P3),((cnR key L:Int):Rat)=sRs (fun k=>if key=k then 1 else 0) L:=fun L=>by
  unfold cnR sRs
  rw [sumI_cast,List.map_map]
  congr 1
  refine List.map_congr_left fun ps _=>?_
  show ((cnE key (eds ps):Int):Rat)=_
  unfold cnE sR sumT
  rw [sumI_cast,List.map_map]
  congr 1
  refine List.map_congr_left fun e _=>?_
  show ((cn1 key e:Int):Rat)=_
  unfold cn1 sG
  rw [ratI_sub]
 have:=h (fun k=>if key=k then 1 else 0)
 rw [← one,← one] at this
 exact_mod_cast this
end Cut
namespace Cut
open PySem L2 L3
open PySem.Builtin.Int (intBits)
end Cut
namespace Cut
open PySem L2 L3
open PySem.Builtin.Int (intBits)
section
variable {s w pt:Int×Int}
end
end Cut
namespace Cut
open PySem L2 L3
open PySem.Builtin.Int (intBits)
theorem sRs_cons (φ:List (List Int)→Int) (ps:List P3) (rs:List (List P3)):sRs φ (ps :: rs)=sR φ ps + sRs φ rs:=by unfold sRs; rw [List.map_cons,List.sum_cons]
theorem sRs_app (φ:List (List Int)→Int):∀ rs qs:List (List P3),sRs φ (rs ++ qs)=sRs φ rs + sRs φ qs
 | [],qs=>by rw [List.nil_append]; show _=(0:Rat) + _; grind
 | ps :: rs,qs=>by rw [List.cons_append,sRs_cons,sRs_cons,sRs_app φ rs qs]; grind
theorem Bal.trans {a b c:List (List P3)} (h:Bal a b) (g:Bal b c):Bal a c:=fun φ=>(h φ).trans (g φ)
section
variable {l o:P3} {sh:List Piece} {qs:List P3}
end
end Cut
namespace Cut
open PySem L2 L3
open PySem.Builtin.Int (intBits)
end Cut
namespace Cut
open PySem L2 L3
open PySem.Builtin.Int (intBits)
theorem rat0 (a:Rat):(0:Rat) / a=0:=by grind
def IsPt (p:P3) (x y:Rat):Prop:=PtP p∧rX p=x∧rY p=y
theorem rat_cross {a b c d:Int} (hb:0 < b) (hd:0 < d) (h:(a:Rat) / b=(c:Rat) / d):a * d=c * b:=by
 have b0:=pos_ne hb
 have d0:=pos_ne hd
 have:(a:Rat) * d=c * b:=by grind
 exact_mod_cast this
theorem IsPt.eq {p q:P3} {x y:Rat} (h:IsPt p x y) (g:IsPt q x y):p=q:=by
 obtain ⟨hp,h1,h2⟩:=h
 obtain ⟨gq,g1,g2⟩:=g
 obtain ⟨e1,e2,e3⟩:=pt_uniq hp gq (rat_cross hp.1 gq.1 (h1.trans g1.symm)) (rat_cross hp.1 gq.1 (h2.trans g2.symm))
 exact p3_ext e1 e2 e3
theorem IsPt.to {p:P3} {x y x' y':Rat} (h:IsPt p x y) (e1:x=x') (e2:y=y'):IsPt p x' y':=by subst e1 e2; exact h
theorem isPt_npt {a b n:Int} (hn:0 < n):IsPt (npt a b n) ((a:Rat) / n) ((b:Rat) / n):=by
 obtain ⟨p,e1,e2,_⟩:=npt_spec (a:=a) (b:=b) (Int.ne_of_gt hn)
 have n0:=pos_ne hn
 have p0:=pos_ne p.1
 have f1:(((npt a b n).1:Int):Rat) * n=a * ((npt a b n).2.2:Int):=by exact_mod_cast e1
 have f2:(((npt a b n).2.1:Int):Rat) * n=b * ((npt a b n).2.2:Int):=by exact_mod_cast e2
 refine ⟨p,?_,?_⟩
 ·unfold rX; grind
 ·unfold rY; grind
theorem isPt_0:IsPt (0,0,1) 0 0:=⟨⟨by decide,by decide⟩,by unfold rX; exact rat0 _,by unfold rY; exact rat0 _⟩
theorem isPt_sl {g p:P3} {a b x y:Rat} (hg:IsPt g a b) (hp:IsPt p x y):IsPt (nP (sld g p)) (x + a) (y + b):=by
 obtain ⟨g1,g2,g3⟩:=hg
 obtain ⟨p1,p2,p3⟩:=hp
 have gz:=pos_ne g1.1
 have pz:=pos_ne p1.1
 refine (isPt_npt (a:=(sld g p).1) (b:=(sld g p).2.1) (n:=(sld g p).2.2) (Int.mul_pos p1.1 g1.1)).to ?_ ?_
 ·rw [← g2,← p2]; unfold rX sld; dsimp only; push_cast; grind
 ·rw [← g3,← p3]; unfold rY sld; dsimp only; push_cast; grind
theorem det_R {p q r:P3} {x1 y1 x2 y2 x3 y3:Rat} (hp:IsPt p x1 y1) (hq:IsPt q x2 y2) (hr:IsPt r x3 y3):∃ k:Rat,0 < k∧((det3 p q r:Int):Rat)=k * ((x2 - x1) * (y3 - y1) - (y2 - y1) * (x3 - x1)):=by
 obtain ⟨p1,p2,p3⟩:=hp
 obtain ⟨q1,q2,q3⟩:=hq
 obtain ⟨r1,r2,r3⟩:=hr
 have pz:=pos_ne p1.1
 have qz:=pos_ne q1.1
 have rz:=pos_ne r1.1
 refine ⟨((p.2.2 * q.2.2 * r.2.2:Int):Rat),?_,?_⟩
 ·have:=Int.mul_pos (Int.mul_pos p1.1 q1.1) r1.1
  exact_mod_cast this
 ·rw [← p2,← p3,← q2,← q3,← r2,← r3]
  unfold det3 crs rX rY
  dsimp only
  push_cast
  grind
section
variable {X:Int×Int} {c:P3} {x y:Rat}
end
section
variable {X:Int×Int} {c p q:P3} {x y x1 y1 x2 y2:Rat}
end
end Cut
namespace Cut
open PySem L2 L3
section
variable {f:P3→Int} {mt:P3→P3→P3} {a b c d:P3}
end
section
variable {s w pt:Int×Int}
end
end Cut
namespace Cut
open PySem L2 L3
section
variable {g:P3} {L:List Piece} {ring:List P3}
end
end Cut
namespace L2
open PySem PySem.Spec PyProof.Rows PySem.W
variable {X:Cx}
end L2
namespace L3
open PySem L2
variable {X:Cx} {e:Expr} {u:UE} {p pos:Pos}
end L3
namespace L2
open PySem PySem.Spec PyProof.Rows PySem.W
variable {X:Cx}
end L2
namespace L3
open PySem L2
section
variable {K:PySem.W.Frag} {B:Hp}
end
variable {X:Cx} {e:Expr} {u:UE} {F:FS} {pos:Pos}
end L3
namespace Cut
open PySem L2 L3
open PySem.Builtin.Int (intBits)
end Cut
namespace Cut
end Cut
namespace Cut
end Cut
namespace Cut
open PySem L2 L3
end Cut
namespace Cut
open PySem L2 L3
end Cut
namespace Cut
open PySem L2 L3
open PySem.Builtin.Int (intBits)
end Cut
namespace Cut
open PySem L2 L3
open PySem.Builtin.Int (intBits)
section
variable {s w pt:Int×Int}
end
end Cut
namespace L3
open PySem L2
section
variable {K:PySem.W.Frag} {X:Cx} {i:Nat} {rest:List Stmt}
end
end L3
namespace Cut
open PySem L2 L3
open PySem.Builtin.Int (intBits)
end Cut
namespace L2
open PySem PySem.W PyProof.Rows
section
variable {R:Nat→Int} {n:Nat}
end
end L2
namespace L2
open PySem PySem.Spec PyProof.Rows PySem.W
section
variable {prog:Program} {w:World} {A:Around} {E:Value→Shared→Prop} {s:Shared} {vs:List Value} {R:Nat→Int} {κ:SortKind}
end
end L2
namespace L2
open PySem PySem.Spec PyProof.Rows PySem.W
section
variable {prog:Program} {w:World} {A:Around} {E:Value→Shared→Prop} {s:Shared} {vs:List Value} {R:Nat→Int} {κ:SortKind}
end
end L2
namespace L3
open PySem PySem.Spec PyProof.Rows L2
section
variable {prog:Program} {w:World} {A:Around} {E:Value→Shared→Prop} {s:Shared} {d:Addr} {ep:Nat} {es:Array DictEntry}
end
end L3
namespace L2
open PySem PySem.Spec PyProof.Rows PySem.W
section
variable {prog:Program} {w:World} {A:Around} {E:Value→Shared→Prop} {s:Shared}
end
end L2
namespace L2
open PySem PySem.Spec PyProof.Rows PySem.W
open PySem.SeqAt
open PySem.AutoSeq1 (wpAny_loadPart')
open PySem.MeetsSeq PySem.MeetsSeq2 PySem.MeetsSeq3
section
variable {prog:Program} {w:World} {A:Around} {E:Value→Shared→Prop} {s:Shared}
end
end L2
namespace L3
open PySem PySem.Spec PyProof.Rows PySem.W L2
section
variable {P:Program} {w:World} {A:Around} {s:Shared} {H:Hp} {b:Bool}
end
section
variable {X:Cx}
end
section
variable {X:Cx} {e:Expr} {u:UE} {p pos:Pos}
end
end L3
namespace L3
open PySem L2
section
variable {prog:Program} {w:World} {A:Around} {E:Value→Shared→Prop} {s:Shared} {d it:Addr} {i ep:Nat} {es:Array DictEntry} {ok ov:Value}
theorem istep_raw {Q:Option Value→Shared→Prop} (hh:A.handled=none) (hit:IsItemIter s.heap it d i es.size ep ok ov) (hm:RawD s.heap d es ep)
  (more:∀ e h',es[i]?=some e→IsItemIterOut h' it d (i + 1) es.size ep e.key e.val s.heap.objs.size→h'.get? s.heap.objs.size=some { cls:=.type "tuple", data:=.seq #[e.key,e.val] }→(∀ b o,b≠it→s.heap.get? b=some o→h'.get? b=some o)→Q (some (.ref s.heap.objs.size)) { s with heap:=h' })
  (done:∀ h',es[i]?=none→Heap.ExtBut it s.heap h'→Q none { s with heap:=h' }):wpAny (model prog w) A (pyNext (.ref it)) Q E s:=by
 obtain ⟨hp,g,dr,tk,os⟩:=s
 have ty:Shared.TypeIs ⟨hp,g,dr,tk,os⟩ (.ref it) "dict_itemiterator" := ⟨_,hit,rfl⟩
 obtain ⟨o,ho,hc,he⟩:=hm
 have own:Builtin.Dict_items.ownsTuple "dict_itemiterator" = true:=by decide
 have n0:¬ ((i:Int) < 0):=by omega
 have none_:¬ (Value.ref d == Value.none)=true:=Bool.false_ne_true
 unfold pyNext
 refine wpAny_bind (wpAny_attempt (wpAny_callSpecial?_slot (name := "__next__") ty F.slot_dict_itemiterator_next (wpAny_call_entry F.slot_dict_itemiterator_next ty F.entry_dict_itemiterator_next ?_ (F.args_dict_itemiterator_next_1 _))))
 refine wpAny_bind (wpAny_pure (wpAny_bind (wpAny_bind ?_)))
 first | refine wpAny_bind (wpAny_typeNameOfWhole_itemiter ty (wpAny_pure (wpAny_bind (wpAny_fieldsOf hit rfl ?_)))) | refine wpAny_bind (wpAny_typeNameOf_itemiter ty (wpAny_pure (wpAny_bind (wpAny_fieldsOf hit rfl ?_))))
 simp only [own,if_true]
 show wpAny _ _ (if (Value.ref d == Value.none)=true then _ else _) _ _ ⟨hp,g,dr,tk,os⟩
 rw [if_neg none_]
 refine wpAny_bind (wpAny_pure (wpAny_bind (wpAny_dictEntries ho he ?_)))
 rw [if_neg (by simp)]
 refine wpAny_bind (wpAny_pure (wpAny_bind (wpAny_dictEpoch ho he ?_)))
 rw [if_neg (by simp)]
 refine wpAny_pure ?_
 simp only [n0,if_false,Int.toNat_natCast]
 cases q:es[i]? with
 | some e =>
  dsimp only
  refine wpAny_bind ?_
  first | refine wpAny_bind (wpAny_typeNameOfWhole_itemiter ty (wpAny_pure (wpAny_bind (wpAny_isOneOf_itemiter ty ?_)))) | refine wpAny_bind (wpAny_typeNameOf_itemiter ty (wpAny_pure (wpAny_bind (wpAny_isOneOf_itemiter ty ?_))))
  show wpAny _ _ (setField (.ref it) 3 (rawInt ((i:Int) + 1)) >>= _) _ _ ⟨hp,g,dr,tk,os⟩
  refine wpAny_bind (wpAny_setField_rec hit (by simp) fun h1 a1 (b1:Heap.SameBut it hp h1)=>?_)
  replace a1:IsItemIter h1 it d (i + 1) es.size ep ok ov:=by
   unfold IsItemIter
   rw [show ((i + 1:Nat):Int)=(i:Int) + 1 by omega]
   simpa [rawInt] using a1
  have ty1:Shared.TypeIs ⟨h1,g,dr,tk,os⟩ (.ref it) "dict_itemiterator" := ⟨_,a1,rfl⟩
  refine wpAny_bind (wpAny_holding (wpAny_bind (wpAny_isOneOf_itemiter ty1 (wpAny_bind (wpAny_isOneOf_itemiter ty1 ?_)))))
  show wpAny _ _ (Builtin.Dict_items.pairFromOwner (.ref it) 6 e.key e.val) _ _ ⟨h1,g,dr,tk,os⟩
  unfold Builtin.Dict_items.pairFromOwner
  refine wpAny_bind (wpAny_newTuple ?_)
  have z1:h1.objs.size=hp.objs.size:=b1.1
  have li:it < hp.objs.size:=Heap.lt_size hit
  let T:Obj:={ cls:=.type "tuple", data:=.seq #[e.key,e.val] }
  have a2:IsItemIter (h1.push T) it d (i + 1) es.size ep ok ov:=Heap.get?_push_of_some _ a1
  have t2:(h1.push T).get? hp.objs.size=some T:=by rw [← z1]; exact Heap.get?_push_size _ rfl
  have k2:∀ b o,b≠it→hp.get? b=some o→(h1.push T).get? b=some o:=fun b o n x=>Heap.get?_push_of_some _ (b1.extBut b o n x)
  show wpAny _ _ (Builtin.Dict_items.ownedTupleIsFree (.ref it) >>= _) _ _ ⟨h1.push T,g,dr,tk,os⟩
  rw [z1]
  generalize h1.push T=h2 at a2 t2 k2
  refine wpAny_bind ?_
  unfold Builtin.Dict_items.ownedTupleIsFree
  refine wpAny_bind (wpAny_field a2 rfl (x:=.none) rfl (wpAny_pure ?_))
  simp only [if_true]
  refine wpAny_bind (wpAny_field a2 rfl (x:=ok) rfl (wpAny_bind (wpAny_field a2 rfl (x:=ov) rfl (wpAny_bind (wpAny_setField_rec a2 (by simp) fun h3 a3 (b3:Heap.SameBut it h2 h3)=>?_)))))
  replace a3:IsItemIter h3 it d (i + 1) es.size ep e.key ov:=a3
  refine wpAny_bind (wpAny_setField_rec a3 (by simp) fun h4 a4 (b4:Heap.SameBut it h3 h4)=>?_)
  replace a4:IsItemIter h4 it d (i + 1) es.size ep e.key e.val:=a4
  refine wpAny_bind (wpAny_setField_rec a4 (by simp) fun h5 a5 (b5:Heap.SameBut it h4 h5)=>?_)
  replace a5:IsItemIterOut h5 it d (i + 1) es.size ep e.key e.val hp.objs.size:=a5
  refine wpAny_bind (wpAny_setField_rec a5 (by simp) fun h6 a6 (b6:Heap.SameBut it h5 h6)=>?_)
  replace a6:IsItemIterOut h6 it d (i + 1) es.size ep e.key e.val hp.objs.size:=a6
  have up:∀ b o,b≠it→h2.get? b=some o→h6.get? b=some o:=fun b o n x=>b6.extBut b o n (b5.extBut b o n (b4.extBut b o n (b3.extBut b o n x)))
  exact wpAny_bind (wpAny_letGo (wpAny_pure (wpAny_pure ⟨_,rfl,wpAny_pure (more e h6 q a6 (up _ _ (Nat.ne_of_gt li) t2) fun b o n x=>up b o n (k2 b o n x))⟩)))
 | none =>
  refine wpAny_bind ?_
  first | refine wpAny_bind (wpAny_typeNameOfWhole_itemiter ty (wpAny_pure ?_)) | refine wpAny_bind (wpAny_typeNameOf_itemiter ty (wpAny_pure ?_))
  show wpAny _ _ (setField (.ref it) 2 .none >>= _) _ _ ⟨hp,g,dr,tk,os⟩
  refine wpAny_bind (wpAny_setField hit rfl (by simp) ?_)
  show wpAny _ _ (newExc (.type "StopIteration") [] >>= _) _ _ _
  unfold newExc newTuple
  refine wpAny_bind (wpAny_bind (wpAny_newObj_type (wpAny_bind (m:=firstArgMember _ _) (wpAny_of_eq (a:=Value.none) (by first | rfl | (unfold firstArgMember; rfl)) (wpAny_newObj_type ?_ (by size_fits)))) (by size_fits)))
  unfold raiseNew
  refine wpAny_bind (wpAny_handled ?_)
  rw [show A.in1.handled=none from hh]
  refine wpAny_bind (wpAny_pure (wpAny_throw ?_))
  refine wpAny_bind (wpAny_isInstance (T := "StopIteration") (b:=true) (by exact ⟨_,Heap.get?_push_size _ rfl,rfl⟩) isSubtype_stop ?_)
  exact wpAny_pure (done _ q (((Heap.SameBut.update ..).extBut.push _).push _))
theorem iiter_raw {v:Addr} {Q:Value→Shared→Prop} (hv:s.heap.IsItemsView v d) (hm:RawD s.heap d es ep)
  (hQ:Q (.ref s.heap.objs.size) { s with heap:=s.heap.push { cls:=.type "dict_itemiterator", data:=.fields #[.none,.bool false,.ref d,.int 0 0,.int es.size 0,.int ep 0,.none,.none] } }):wpAny (model prog w) A (pyIter (.ref v)) Q E s:=by
 have tyv:=hv.typeIs
 obtain ⟨p,hp,cp,dp⟩:=hv
 obtain ⟨o,ho,hc,he⟩:=hm
 have own:Builtin.Dict_items.ownsTuple "dict_itemiterator" = true:=by decide
 refine wpAny_pyIter_slot tyv F.slot_dict_items_iter (wpAny_call_entry F.slot_dict_items_iter tyv F.entry_dict_items_iter ?_ (F.args_dict_items_iter_1 _))
 unfold Builtin.«dict_items.__iter__»
 refine wpAny_bind (wpAny_pure (wpAny_bind ?_))
 unfold Builtin.Dict_items.dictOf
 refine wpAny_bind (wpAny_field hp dp (x:=.ref d) rfl (wpAny_pure (wpAny_bind ?_)))
 unfold Builtin.Dict_items.newIterator
 refine wpAny_bind (wpAny_dictEntries ho he (wpAny_bind (wpAny_dictEpoch ho he ?_)))
 simp only [own,if_true]
 refine wpAny_newObj_type (wpAny_pure ⟨_,rfl, "dict_itemiterator", _,⟨_,Heap.get?_push_size _ rfl,rfl⟩,F.slot_dict_itemiterator_next.lookup,?_⟩) (by simp only [sizeOk,Builtin.Dict_items.ownedTupleFields,List.size_toArray,List.length_append,List.length_cons,List.length_nil,sizeLine_eq]; omega)
 simpa [rawInt,Builtin.Dict_items.ownedTupleFields] using hQ
theorem meets_items (d:Addr) (hd:(d == sysModules)=false) :
  MeetsIn prog w (Builtin.«dict.items» ⟨[.ref d],[]⟩) (fun _ R s=>(∃ es ep,RawD s.heap d es ep)∧R (.ok (.ret (.ref s.heap.objs.size))) { s with heap:=s.heap.push { cls:=.type "dict_items", data:=.fields #[.ref d] } }) :=
 .of_wp fun A R s ⟨⟨es,ep,hm⟩,h⟩=>by
  obtain ⟨o,ho,hc,he⟩:=hm
  have ty:s.TypeIs (.ref d) "dict" := ⟨o,ho,hc.1⟩
  have no:¬ (d == sysModules)=true:=fun z=>by rw [hd] at z; cases z
  unfold Builtin.«dict.items» Builtin.Dict.noArgs
  refine wpAny_bind (wpAny_bind (wpAny_notOrdered_dict ty (show wpAny _ _ (pure d) _ _ s from wpAny_pure ?_)))
  show wpAny _ _ (Builtin.Dict.showsAll d >>= _) _ _ s
  unfold Builtin.Dict.showsAll
  rw [if_neg no]
  exact wpAny_bind (wpAny_pure (wpAny_bind (wpAny_newObj_type (wpAny_pure ⟨_,rfl,h⟩))))
end
end L3
namespace L2
open PySem PySem.Spec PyProof.Rows PySem.W L3
def Itp (b:Bool) (a:Addr) (ep:Nat) (ks:List (List (List Int))) (as:List Addr) (vs:List V):It where
 go:=fun i H=>H a=some (DicO b a ep ks as vs)∧i < ks.length
 yld:=fun i H x H'=>∃ p c y,H p=none∧x=.ref p∧H'=upd H p (.tup [.ref c,y])∧as[i]?=some c∧vs[i]?=some y
 stop:=fun i H=>H a=some (DicO b a ep ks as vs)∧ks.length≤i
section
variable {P:Program} {w:World} {K:PySem.W.Frag} {b:Bool} {a:Addr} {ep:Nat} {ks:List (List (List Int))} {as:List Addr} {vs:List V} {elts:List Expr} {k:Nat} {pos:Pos}
theorem entry_item_iter:entryFor table "dict_itemiterator.__iter__" = some Builtin.«dict_keyiterator.__iter__» := entryFor_alias (id' := "dict_keyiterator.__iter__") (by kernel_rfl) rfl (by decide +kernel) (by kernel_rfl)
theorem turn_items (it:Addr):Turn P w K (.Tuple elts k pos) (Itp b a ep ks as vs) [it] it (fun i h=>∃ x y,IsItemIter h it a i ks.length ep x y) where
 mem:=by simp
 obj:=fun i h st c hc=>by
  have e:c=it:=by simpa using hc
  subst e
  obtain ⟨x,y,st⟩:=st
  exact ⟨_,st,fun v z=>by cases z⟩
 keep:=fun i h h' st kp=>by
  obtain ⟨x,y,st⟩:=st
  exact ⟨x,y,kp it (by simp) _ st⟩
 item:=by
  intro X hP hw hK hc i pins s σ H E I hf st hg
  subst hP hw hK
  obtain ⟨hq,hi⟩:=hg
  obtain ⟨x0,y0,st⟩:=st
  obtain ⟨us,es,rd,el,l1,l2,l3,rv,_⟩:=raw_of I.hok hq
  obtain ⟨k',c,u,hc1,hu1,he⟩:=ent_nth (b:=b) l1 l2 hi
  obtain ⟨y,hy,ry⟩:∃ y,vs[i]?=some y∧RelV y u:=by
   have lt:i < vs.length:=by rw [rv.length]; omega
   obtain ⟨u',hu',r'⟩:=rv.get (List.getElem?_eq_getElem lt)
   rw [hu1] at hu'; cases hu'
   exact ⟨_,List.getElem?_eq_getElem lt,r'⟩
  have fi:=hf it (by simp)
  have ilt:it < s.heap.objs.size:=Heap.lt_size st
  have Ti:s.heap.objs.size≠it:=Nat.ne_of_gt ilt
  refine istep_raw (I.ok.hd hc) (by rw [l3]; exact st) rd (fun e h1 q out ht kp=>⟨_,rfl,wpAny_letOwnedTupleGo_items out fun h2 he2 sb=>?_⟩) (fun h1 q _=>?_)
  ·rw [← Array.getElem?_toList,el,he] at q
   cases q
   rw [l3] at he2
   have I0:Inv X pins σ (upd H s.heap.objs.size (.tup [.ref c,y])) { s with heap:=s.heap.push { cls:=.type "tuple", data:=.seq #[.ref c,u] } } :=
    I.laid (t':=s.toks) (fun _ _ q=>Heap.get?_push_of_some _ q) (Nat.le_refl _) ⟨by show 2≤sizeLine; decide,[.ref c,u],.cons rfl (.cons ry .nil),⟨_,Heap.get?_push_size _ rfl,rfl,_,rfl⟩⟩
   have f':FpOk X pins (upd H s.heap.objs.size (.tup [.ref c,y])) it:=⟨by rw [upd_ne (Ne.symm Ti)]; exact fi.1,fi.2⟩
   obtain ⟨f0,f1,f2,f3,f4,f5⟩:=id f'
   have I1:Inv X pins σ (upd H s.heap.objs.size (.tup [.ref c,y])) { s with heap:=h2 }:=I0.turned (t':=s.toks) (fun b' o n q=>by
    rw [sb.2 b' n]
    by_cases z:b'=s.heap.objs.size
    ·subst z
     rw [Heap.get?_push_size _ rfl] at q
     rw [← q]; exact ht
    ·refine kp b' o n ?_
     rw [← q]
     exact (Heap.get?_push_ne s.heap b' _ z).symm) f0 f1 f3 f4 f5
   refine ⟨.ref s.heap.objs.size,_,I1,rfl,⟨s.heap.objs.size,c,y,I.fresh,rfl,rfl,hc1,hy⟩,⟨_,_,he2⟩,fun b' hb=>?_⟩
   have:b'=it:=by simpa using hb
   subst this
   exact f0
  ·rw [← Array.getElem?_toList,el,he] at q
   cases q
 done:=by
  intro X hP hw hK hc i pins s σ H E I hf st hg
  subst hP hw hK
  obtain ⟨hq,hi⟩:=hg
  obtain ⟨x0,y0,st⟩:=st
  obtain ⟨us,es,rd,el,l1,l2,l3,_⟩:=raw_of I.hok hq
  obtain ⟨f0,f1,f2,f3,f4,f5⟩:=hf it (by simp)
  refine istep_raw (I.ok.hd hc) (by rw [l3]; exact st) rd (fun e h1 q _ _ _=>?_) fun h' _ eb=>⟨rfl,I.turned (t':=s.toks) (fun c' o hb e=>eb c' o hb e) f0 f1 f3 f4 f5⟩
  rw [Array.getElem?_eq_none (by omega)] at q
  cases q
 self:=fun _ _ _ _ _ st h=>by
  obtain ⟨x,y,st⟩:=st
  have ty:Shared.TypeIs _ (.ref it) "dict_itemiterator" := ⟨_,st,rfl⟩
  refine wpAny_pyIter_slot ty F.slot_dict_itemiterator_iter (wpAny_call_entry F.slot_dict_itemiterator_iter ty entry_item_iter ?_ (F.args_dict_itemiterator_iter_1 _))
  show wpAny _ _ (ret (.ref it)) _ _ _
  exact wpAny_pure ⟨_,rfl, "dict_itemiterator", _,ty,F.slot_dict_itemiterator_next.lookup,h⟩
def iItems (tl:TE):TI:=fun σ H R=>tl σ H fun x H1=>∃ b a ep ks as vs,x=.ref a∧DcAt H1 b a ep ks as vs∧R (Itp b a ep ks as vs) H1
theorem pi_items {X:Cx} {tp apos cpos:Pos} {l:Expr} {tl:TE} (hl:PE X l tl) (hbase:attributeBase l "items" X.env (eval l X.env)=eval l X.env:=by rfl) (hline:(apos.endLine == cpos.line)=true:=by rfl):PI X (.Tuple elts k tp) (.Call (.Attribute l "items" apos) [] [] cpos) (iItems tl):=by
 intro pins s σ H R I h
 refine wpAny_Call_method (T := "dict") (id := "dict.items") hbase rfl hline PySem.F.plainAttrs_dict PySem.F.slot_dict_items PySem.F.type_dict_items (thn (hl pins s σ H _ I h) fun v s1 ⟨x,H1,I1,r1,b,a,ep,ks,as,vs,e,dc,q⟩=>?_)
 subst e
 obtain rfl:v=Value.ref a:=r1
 obtain ⟨t1,t2⟩:=dc.typ I1
 refine ⟨t1,t2,?_⟩
 obtain ⟨us,es,rd,el,l1,l2,l3,_,hs⟩:=raw_of I1.hok dc.h
 show wpAny _ _ (callWith cpos (.builtin "dict.items") [.ref a] [] []) _ _ s1
 refine method_meetsIn PySem.F.slot_dict_items PySem.F.entry_dict_items rfl (PySem.evalArgs_none ⟨rfl,t1,PySem.F.args_dict_items_1 _,_,meets_items a hs,⟨es,ep,rd⟩,?_⟩)
 have rd1:RawD (s1.heap.push { cls:=.type "dict_items", data:=.fields #[.ref a] }) a es ep:=by
  obtain ⟨o,ho,z⟩:=rd
  exact ⟨o,Heap.get?_push_of_some _ ho,z⟩
 have I2:Inv X pins σ H1 { s1 with heap:=s1.heap.push { cls:=.type "dict_items", data:=.fields #[.ref a] } }:=I1.kept (t':=s1.toks) fun b o e=>Heap.get?_push_of_some _ e
 refine iiter_raw (s:={ s1 with heap:=s1.heap.push { cls:=.type "dict_items", data:=.fields #[.ref a] } }) ⟨_,Heap.get?_push_size _ rfl,rfl,rfl⟩ rd1 ?_
 refine ⟨_,[_],_,_,H1,rfl,I2.kept (t':=s1.toks) fun b o e=>Heap.get?_push_of_some _ e,turn_items _,⟨_,_,by rw [l3]; exact Heap.get?_push_size _ rfl⟩,fun c hc=>?_,q⟩
 rw [List.mem_singleton.mp hc]
 exact I2.fpOk (Nat.le_refl _) (I2.hok.fresh (Nat.le_refl _))
end
end L2
namespace L3
open PySem L2
section
variable {K:PySem.W.Frag} {u:UE} {w:UL}
def ItE (K:PySem.W.Frag) (B:Hp) (J:It) (ds:List D):Prop:=∀ (H:Hp),Same B H→∀ i,(i < ds.length→J.go i H)∧(ds.length≤i→J.stop i H)∧∀ x H',i < ds.length→J.yld i H x H'→∃ q vs es,H q=none∧x=.ref q∧H'=upd H q (.tup vs)∧ds[i]?=some (.tup es)∧Reps K B vs es
def RefIE (K:PySem.W.Frag) (t:TI) (u:UL):Prop:=∀ (ρ:List Sl) (k:List D→Prop),u ρ k→∀ (R:Hp) (W:Addr→Prop) (B H:Hp) (σ:St) (Q:It→Hp→Prop),Ev K R W B H σ ρ →
 (∀ ds J B' H',k ds→Ev K R W B' H' σ ρ→Grow R B B'→ItE K B' J ds→Q J H')→t σ H Q
def PIE3 (X:Cx) (tg e:Expr) (u:UL):Prop:=∃ t,PI X tg e t∧RefIE X.K t u
variable {X:Cx} {elt iter tg:Expr} {ifs:List Expr} {scope:Scope} {cl:List (Str×Addr)} {ts fr:List Str} {js:List Nat} {ug:UG} {ut:UT} {pos:Pos}
def prD (b:Bool):List (List (List Int))→List D→List D
 | k :: ks,d :: ds=>.tup [keyD b k,d] :: prD b ks ds
 | _,_=>[]
theorem prD_len {b:Bool}:∀ {ks:List (List (List Int))} {ds:List D},ds.length=ks.length→(prD b ks ds).length=ks.length
 | [],_,_=>by simp [prD]
 | _ :: _,[],h=>by simp at h
 | k :: ks,d :: ds,h=>by simp [prD,prD_len (b:=b) (ks:=ks) (ds:=ds) (by simpa using h)]
theorem prD_at {b:Bool}:∀ {ks:List (List (List Int))} {ds:List D} {i:Nat} {k:List (List Int)} {d:D},ks[i]?=some k→ds[i]?=some d→(prD b ks ds)[i]?=some (.tup [keyD b k,d])
 | [],_,_,_,_,h,_=>by simp at h
 | _ :: _,[],_,_,_,_,h=>by simp at h
 | k :: ks,d :: ds,0,_,_,h1,h2=>by simp at h1 h2; subst h1 h2; rfl
 | k :: ks,d :: ds,i + 1,_,_,h1,h2=>by
  have:=prD_at (b:=b) (ks:=ks) (ds:=ds) (i:=i) (by simpa using h1) (by simpa using h2)
  simpa [prD] using this
def uiP (u:UE):UL:=fun ρ k=>u ρ fun x=>∃ b ks ds,x=.dct b ks ds∧ds.length=ks.length∧k (prD b ks ds)
theorem i_items {tp apos cpos:Pos} {elts:List Expr} {kk:Nat} {l:Expr} {uo:UE} (hl:PE3 X l uo) (hbase:attributeBase l "items" X.env (eval l X.env)=eval l X.env:=by rfl) (hline:(apos.endLine == cpos.line)=true:=by rfl):PIE3 X (.Tuple elts kk tp) (.Call (.Attribute l "items" apos) [] [] cpos) (uiP uo):=by
 obtain ⟨_,h1,r1⟩:=hl
 refine ⟨_,pi_items h1 hbase hline,fun ρ k h R W B H σ Q e q=>?_⟩
 refine r1 ρ _ h R W B H σ _ e fun d v B1 H1 z1 e1 g1 s1=>?_
 obtain ⟨b,ks,ds,rfl,ld,z⟩:=z1
 cases s1 with
 | @dct a _ ep _ as vs _ hB hkk hbb rr =>
  have la:as.length=ks.length:=by have:=hkk.length; simpa using this
  have lv:=rr.length
  refine ⟨b,a,ep,ks,as,vs,rfl,⟨e1.bh _ _ hB,keys_of e1.bh hbb hkk⟩,?_⟩
  refine q _ _ B1 H1 z e1 g1 fun H' sH i=>?_
  rw [prD_len ld]
  refine ⟨fun hi=>⟨sH _ _ hB,hi⟩,fun hi=>⟨sH _ _ hB,hi⟩,fun x H2 hi y=>?_⟩
  obtain ⟨p,c,y,hp,rfl,rfl,hc,hy⟩:=y
  obtain ⟨d,hd,rd⟩:=rr.getV hy
  obtain ⟨kd,hkd,rk⟩:=hkk.getV (i:=i) (v:=.ref c) (by rw [List.getElem?_map,hc]; rfl)
  have ek:ks[i]?=some ks[i]:=List.getElem?_eq_getElem hi
  rw [List.getElem?_map,ek] at hkd
  cases hkd
  exact ⟨p,_,_,hp,rfl,rfl,prD_at ek hd,.cons rk (.cons rd .nil)⟩
end
end L3
namespace L2
open PySem PySem.Spec PyProof.Rows
end L2
namespace L3
open PySem L2
section
variable {K:PySem.W.Frag} {X:Cx} {pos p:Pos} {tg:Expr}
end
section
variable {X:Cx} {e:Expr} {u:UE} {pos:Pos}
end
end L3
namespace L3
open PySem L2
section
variable {X:Cx}
end
end L3
namespace Cut
open PySem L2 L3
open PySem.Builtin.Int (intBits)
end Cut
namespace Cut
open PySem L2 L3
open PySem.Builtin.Int (intBits)
end Cut
namespace Cut
open PySem L2 L3
open PySem.Builtin.Int (intBits)
end Cut
namespace Cut
open PySem L2 L3
open PySem.Builtin.Int (intBits)
end Cut
namespace L3
open PySem L2
end L3
namespace Cut
open PySem L2 L3
end Cut
namespace L3
open PySem L2
end L3
namespace Cut
open PySem L2 L3
end Cut
namespace Cut
open PySem L2 L3
open PySem.Builtin.Int (intBits)
end Cut
namespace Cut
open PySem L2 L3
open PySem.Builtin.Int (intBits)
end Cut
namespace Cut
open PySem L2 L3
open PySem.Builtin.Int (intBits)
end Cut
namespace Cut
open PySem L2 L3
open PySem.Builtin.Int (intBits)
end Cut
namespace L3
open PySem L2
end L3
namespace Cut
open PySem L2 L3
open PySem.Builtin.Int (intBits)
end Cut
namespace L3
open PySem L2
theorem forR_pr2 {α:Type} {f g:α→D} {s:US} {U:UEnds} {i j:Nat} (I:List α→List Sl→Prop):∀ {rs done:List α} {ρ:List Sl},I done ρ →
  (∀ pre e rest ρ,done ++ rs=pre ++ e :: rest→I pre ρ→∀ N:List Sl→Prop,(∀ r',I (pre ++ [e]) r'→N r')→s { U with nx:=N,ct:=N,bk:=U.nx } ((ρ.set i (.val (f e))).set j (.val (g e))))→(∀ ρ,I (done ++ rs) ρ→U.nx ρ) →
  forR (ugTup 2 (ugCons (ugName i) (ugCons (ugName j) ugNil))) s U (rs.map fun e=>.tup [f e,g e]) ρ
 | [],done,ρ,h0,_,h2=>h2 ρ (by rw [List.append_nil]; exact h0)
 | e :: rs,done,ρ,h0,h1,h2=>by
  refine ⟨_,rfl,rfl,_,_,rfl,_,_,rfl,rfl,h1 done e rs ρ rfl h0 _ fun r' hr=>?_⟩
  have eq:done ++ e :: rs=(done ++ [e]) ++ rs:=by simp
  rw [eq] at h1 h2
  exact forR_pr2 I hr h1 h2
end L3
namespace Cut
open PySem L2 L3
open PySem.Builtin.Int (intBits)
end Cut
namespace L3
open PySem L2
section
variable {prog:Program} {w:World} {K:Type} [DecidableEq K] {knd:HeapKind prog w K} {A:Around} {E:Value→Shared→Prop} {s:Shared}
theorem setDefaultH {d a:Addr} {xs:List (K×Addr×Value)} {k:K} {v:Value} {Q:Value→Shared→Prop} (hu:knd.room A) (hkey:knd.is s.heap k a) (hm:s.heap.DictOfH knd d xs)
  (h1:∀ p,atKey xs k=some p→Q p.2 { s with toks:=s.toks + knd.draws k })
  (h2:atKey xs k=none→∀ h',h'.DictOfH knd d (storedH xs k a v)→Heap.SameBut d s.heap h'→Q v { s with heap:=h',toks:=s.toks + knd.draws k })
  (hsz:xs.length≤sizeLine):wpAny (model prog w) A (dictSetDefault d (.ref a) v) Q E s:=by
 obtain ⟨o,es,ep,ho,hc,hd,he,his,hn⟩:=hm
 unfold dictSetDefault
 try with_reducible refine wpAny_holding ?_
 refine wpAny_bind (knd.pyHash hu hkey ?_)
 refine wpAny_bind (wpAny_dictFind_heap (s:={ s with toks:=s.toks + knd.draws k }) hu hkey ho hd he his hn ?_ ?_)
 ·intro hno
  have hnot:k ∉ xs.map (·.1):=not_mem_keys_of_get hno
  refine wpAny_bind (wpAny_rule (wpAny_bind (wpAny_updateDictKeys (hz:=by have e:=size_of_entries he; omega) (s:={ s with toks:=s.toks + knd.draws k }) ho hd (wpAny_pure (h2 (atKey_none_of_get hno) _ ⟨_,_,ep + 1,Heap.get?_update_self _ ho (Obj.isFreed_of_dict (Obj.data_mapDictKeys hd _)),
   hc.mapDictKeys _,Obj.data_mapDictKeys hd _,?_,?_,?_⟩ (Heap.SameBut.update ..))))))
  ·rw [storedH_new (atKey_none_of_get hno)]
   simp [he,entryOfKey]
  ·rw [storedH_new (atKey_none_of_get hno)]
   intro x hx
   rcases List.mem_append.mp hx with hx | hx
   ·exact knd.keeps (his x hx) ho hd (Heap.SameBut.update ..)
   ·simp only [List.mem_singleton] at hx
    subst hx
    exact knd.keeps hkey ho hd (Heap.SameBut.update ..)
  ·rw [storedH_new (atKey_none_of_get hno)]
   rw [List.map_append,List.nodup_append]
   refine ⟨hn,by simp,?_⟩
   intro x hx y hy
   simp only [List.map_cons,List.map_nil,List.mem_singleton] at hy
   subst hy
   exact fun e=>hnot (e ▸ hx)
 ·intro j p hj
  refine wpAny_bind (wpAny_dictEntries (s:={ s with toks:=s.toks + knd.draws k }) ho hd ?_)
  rw [entry_at he j,hj]
  exact wpAny_bind (wpAny_rule (wpAny_pure (h1 p (atKey_of_get hn hj))))
theorem meets_setdefaultH (knd:HeapKind prog w K) (d a:Addr) (hd:(d == sysModules)=false) (v:Value) :
  MeetsIn prog w (Builtin.«dict.setdefault» ⟨[.ref d,.ref a,v],[]⟩) (fun A R s=>knd.room A.in1∧∃ k xs,knd.is s.heap k a∧s.heap.DictOfH knd d xs∧xs.length≤sizeLine ∧
   (∀ p,atKey xs k=some p→R (.ok (.ret p.2)) { s with toks:=s.toks + knd.draws k }) ∧
   (atKey xs k=none→∀ h',h'.DictOfH knd d (storedH xs k a v)→Heap.SameBut d s.heap h'→R (.ok (.ret v)) { s with heap:=h',toks:=s.toks + knd.draws k })) :=
 .of_wp fun A R s ⟨hu,k,xs,hkey,hm,hz,h1,h2⟩=>by
  unfold Builtin.«dict.setdefault»
  refine wpAny_bind ?_
  unfold Builtin.Dict.keyAndDefault
  refine wpAny_bind (wpAny_notOrdered_dict hm.typeIs ?_)
  show wpAny _ _ (pure (d,Value.ref a,some v)) _ _ s
  refine wpAny_pure ?_
  show wpAny _ _ (if (d == sysModules)=true then _ else (dictSetDefault d (.ref a) v >>= _)) _ _ s
  rw [if_neg (by rw [hd]; exact Bool.false_ne_true)]
  exact wpAny_bind (setDefaultH hu hkey hm (fun p hp=>wpAny_pure ⟨p.2,rfl,h1 p hp⟩) (fun hn h' hm' hs'=>wpAny_pure ⟨v,rfl,h2 hn h' hm' hs'⟩) hz)
end
def rSetD (b:Bool):V→List V→Hp→VK→Prop:=fun x xs H Q=>∃ a c z ep ks as vs k,x=.ref a∧xs=[.ref c,z]∧DcAt H b a ep ks as vs∧KeyAt H b k c∧ks.length < sizeLine ∧
 (∀ v,lkA ks vs k=some v→Q v H)∧(lkA ks vs k=none→∀ ep',Q z (upd H a (DicO b a ep' (ks ++ [k]) (as ++ [c]) (vs ++ [z]))))
section
variable {X:Cx} {b:Bool}
theorem mt_setD (hu:X.A.units + 4 < cLine):MtR X "dict.setdefault" (rSetD b):=by
 intro pins s σ H x xs v us Q I rx rs h
 obtain ⟨a,c,z,ep0,ks,as,vs,k,rfl,rfl,dc,ka,hl,q1,q2⟩:=h
 obtain rfl:v=Value.ref a:=rx
 obtain ⟨u1,u2,rfl,r1,r2⟩:=rs.two
 obtain rfl:u1=Value.ref c:=r1
 obtain ⟨h1,h2,h3,h4,us,h5,dd,h6⟩:=dc.raw I.hok
 have l5:=h5.length
 have le:(ent3 ks as us).length=ks.length:=by
  have:=congrArg List.length (ent_keys (as:=as) (us:=us) h2 (by omega))
  rwa [List.length_map] at this
 have g:=ent_get (as:=as) (us:=us) k h2 (by omega)
 refine call_meetsIn PySem.F.slot_dict_setdefault dd.typeIs PySem.F.entry_dict_setdefault (PySem.F.args_dict_setdefault_3 _ _ _) (meets_setdefaultH (kd X.prog X.w b) a c h4 u2) ⟨kd_room hu,k,ent3 ks as us,ka.is I.hok,dd,by omega,fun p hp=>?_,fun hn h' dn sb=>?_⟩
 ·rw [hp] at g
  have rr:=vals_lk (ks:=ks) k h5
  rw [← g] at rr
  cases q:lkA ks vs k with
  | none=>rw [q] at rr; exact rr.elim
  | some vv=>rw [q] at rr; exact ⟨vv,H,I.tok _,rr,q1 vv q⟩
 ·rw [hn] at g
  have rr:=vals_lk (ks:=ks) k h5
  rw [← g] at rr
  have nk:lkA ks vs k=none:=by
   cases q:lkA ks vs k with
   | none=>rfl
   | some vv=>rw [q] at rr; exact rr.elim
  have nm:k ∉ ks:=(lk_none h3).mp nk
  rw [ent_stored k c u2 h2 (by omega),if_neg nm] at dn
  have e1:ptK ks k=ks ++ [k]:=if_neg nm
  have e2:ptA ks us k u2=us ++ [u2]:=if_neg nm
  rw [e1,e2] at dn
  obtain ⟨ob,es,ep,o1,o2,o3,o4,o5,o6⟩:=dn
  refine ⟨z,_,?_,r2,q2 nk ep⟩
  refine I.write (x:=a) (e:=a) (by rw [dc.h]; trivial) (.inl rfl) (fun c' q hb z=>(sb.2 c' hb).trans z) ⟨ob,o1⟩ ?_
  have nd:(ks ++ [k]).Nodup:=by have:=pt_nodup (k:=k) h6; rwa [e1] at this
  refine ⟨⟨by rw [List.length_append,List.length_singleton]; omega,by rw [List.length_append,List.length_append,h2]; rfl,by rw [List.length_append,List.length_append,h3]; rfl,h4,_,Paired.snoc h5 r2,ob,es,o1,o2,o3,?_,nd⟩,⟨ob,o1⟩,?_⟩
  ·rw [o4,ent_map (P:=X.prog) (w:=X.w)]
  ·rintro g1 g2 ⟨z1,z2,z3,z4,us',z5,ob',es',z6,z7⟩ hk
   exact ⟨z1,z2,z3,z4,us',z5,ob',es',hk _ z6,z7⟩
end
end L3
namespace L3
open PySem L2
def sd1:List (List (List Int))→List (List D)→List (List Int)→D→List (List D)
 | k' :: ks,ds :: dss,k,d=>if k'=k then (ds ++ [d]) :: dss else ds :: sd1 ks dss k d
 | _,dss,_,_=>dss
def sdA (ks:List (List (List Int))) (dss:List (List D)) (k:List (List Int)) (d:D):List (List D):=if k∈ks then sd1 ks dss k d else dss ++ [[d]]
theorem lk_first {α:Type}:∀ {ks:List (List (List Int))} {as:List α} {k:List (List Int)} {x:α},lkA ks as k=some x→∃ j:Nat,as[j]?=some x∧∀ {β:Type} (ds:List β),ds.length=as.length→lkA ks ds k=ds[j]?
 | [],_,_,_,h=>by simp [lkA] at h
 | _ :: _,[],_,_,h=>by simp [lkA] at h
 | k' :: ks,a :: as,k,x,h=>by
  rw [lkA] at h
  by_cases e:k'=k
  ·rw [if_pos e] at h; cases h
   refine ⟨0,rfl,fun ds hl=>?_⟩
   cases ds with
   | nil=>simp at hl
   | cons d ds=>rw [lkA,if_pos e]; rfl
  ·rw [if_neg e] at h
   obtain ⟨j,h1,h2⟩:=lk_first h
   refine ⟨j + 1,by simpa using h1,fun ds hl=>?_⟩
   cases ds with
   | nil=>simp at hl
   | cons d ds=>rw [lkA,if_neg e,h2 ds (by simpa using hl)]; rfl
theorem sd1_first {α:Type}:∀ {ks:List (List (List Int))} {as:List α} {k:List (List Int)} {x:α},lkA ks as k=some x→∃ j:Nat,as[j]?=some x∧∀ (dss:List (List D)) (ds:List D) (d:D),dss.length=as.length→dss[j]?=some ds→lkA ks dss k=some ds∧sd1 ks dss k d=dss.set j (ds ++ [d])
 | [],_,_,_,h=>by simp [lkA] at h
 | _ :: _,[],_,_,h=>by simp [lkA] at h
 | k' :: ks,a :: as,k,x,h=>by
  rw [lkA] at h
  by_cases e:k'=k
  ·rw [if_pos e] at h; cases h
   refine ⟨0,rfl,fun dss ds d hl hd=>?_⟩
   cases dss with
   | nil=>simp at hl
   | cons y dss =>
    cases (show y=ds by simpa using hd)
    exact ⟨by rw [lkA,if_pos e],by rw [sd1,if_pos e]; rfl⟩
  ·rw [if_neg e] at h
   obtain ⟨j,h1,h2⟩:=sd1_first h
   refine ⟨j + 1,by simpa using h1,fun dss ds d hl hd=>?_⟩
   cases dss with
   | nil=>simp at hl
   | cons y dss =>
    obtain ⟨h3,h4⟩:=h2 dss ds d (by simpa using hl) (by simpa using hd)
    exact ⟨by rw [lkA,if_neg e,h3],by rw [sd1,if_neg e,h4]; rfl⟩
section
variable {K:PySem.W.Frag} {R:Hp} {W:Addr→Prop} {B B' H H':Hp} {σ:St} {ρ:List Sl}
theorem set_self {i:Nat} {v:V} (h:σ[i]?=some (some v)):σ.set i (some v)=σ:=by
 apply List.ext_getElem?
 intro j
 by_cases z:i=j
 ·subst z
  have lt:i < σ.length:=by
   by_cases z:i < σ.length
   ·exact z
   ·rw [List.getElem?_eq_none (by omega)] at h; cases h
  rw [List.getElem?_set_self lt,h]
 ·rw [List.getElem?_set_ne z]
theorem slot_self {i:Nat} {k:Sl} (h:ρ[i]?=some k):ρ.set i k=ρ:=by
 apply List.ext_getElem?
 intro j
 by_cases z:i=j
 ·subst z
  have lt:i < ρ.length:=by
   by_cases z:i < ρ.length
   ·exact z
   ·rw [List.getElem?_eq_none (by omega)] at h; cases h
  rw [List.getElem?_set_self lt,h]
 ·rw [List.getElem?_set_ne z]
theorem Ev.deepW (e:Ev K R W B H σ ρ) {i:Nat} {c c':Dp} {x:Addr} {o:HO} (ho:ρ[i]?=some (.deep c)) (hx:x∈c.adr :: c.ins) (ha:c'.adr=c.adr)
  (sub:∀ y∈c'.ins,y∈c.ins) (nd:(c'.adr :: c'.ins).Nodup) (ok:DpO K B (upd H x o) c'):Ev K R W B (upd H x o) σ (ρ.set i (.deep c')):=by
 obtain ⟨d1,d2⟩:=e.deepAt ho
 have hxf:=d2.fr x hx
 have nw:¬ W x:=fun z=>e.wr x z hxf.1
 have me:MutAt σ ρ i x:=.inr ⟨c,ho,hx⟩
 have sub':∀ y∈c'.adr :: c'.ins,y∈c.adr :: c.ins:=fun y hy=>by
  rcases List.mem_cons.mp hy with z | z
  ·rw [z,ha]; exact List.mem_cons_self
  ·exact List.mem_cons_of_mem _ (sub y z)
 refine ⟨⟨fun b u q z=>?_,fun b u q=>?_,e.wb,fun b z=>?_,e.wr⟩,by rw [List.length_set]; exact e.len,fun j k q=>?_,fun a b y hy hz=>?_⟩
 ·rw [upd_ne (by rintro rfl; rw [hxf.1] at q; cases q)]; exact e.fr b u q z
 ·rw [upd_ne (by rintro rfl; rw [hxf.2] at q; cases q)]; exact e.bh b u q
 ·exact (e.wh b z).upd (by rintro rfl; exact nw z)
 ·rcases getElem?_set_some q with ⟨rfl,rfl⟩ | ⟨n,q⟩
  ·exact ⟨by rw [ha,d1]; rfl,fun y hy=>d2.fr y (sub' y hy),nd,ok⟩
  ·have z:=e.ok j k q
   have ne:∀ y,MutAt σ ρ j y→y≠x:=fun y m=>by rintro rfl; exact n (e.sep j i y m me)
   cases k with
   | no=>trivial
   | new d=>exact z
   | pin v d=>exact z
   | val d=>exact z
   | own es =>
    obtain ⟨b,z1,z2,z3,z4⟩:=z
    exact ⟨b,z1,z2,z3,z4.mono (Same.refl _) (upd_ne (ne b (.inl ⟨join_some z1,.inr ⟨es,q⟩⟩)))⟩
   | deep d=>exact ⟨z.1,z.2.fr,z.2.nd,z.2.ok.mono (Same.refl _) fun b mb=>upd_ne (ne b (.inr ⟨d,q,mb⟩))⟩
   | bag =>
    obtain ⟨b,z1,z2,z3,z4⟩:=z
    exact ⟨b,z1,z2,z3,z4.upd (ne b (.inl ⟨join_some z1,.inl q⟩))⟩
 ·have back:∀ a,MutAt σ (ρ.set i (.deep c')) a y→MutAt σ ρ a y:=fun a m=>by
   rcases m with ⟨m1,m2⟩ | ⟨d,m1,m2⟩
   ·refine .inl ⟨m1,?_⟩
    rcases m2 with m2 | ⟨es,m2⟩
    ·rcases getElem?_set_some m2 with ⟨_,z⟩ | ⟨_,m2⟩
     ·cases z
     ·exact .inl m2
    ·rcases getElem?_set_some m2 with ⟨_,z⟩ | ⟨_,m2⟩
     ·cases z
     ·exact .inr ⟨es,m2⟩
   ·rcases getElem?_set_some m1 with ⟨rfl,z⟩ | ⟨_,m1⟩
    ·cases z
     exact .inr ⟨c,ho,sub' y m2⟩
    ·exact .inr ⟨d,m1,m2⟩
  exact e.sep a b y (back a hy) (back b hz)
theorem Ev.deepN (e:Ev K R W B H σ ρ) {i:Nat} {c c':Dp} {p:Addr} {vs:List V} {o:HO} (ho:ρ[i]?=some (.deep c)) (hp:H p=some (.lst vs)) (hr:R p=none) (hb:B p=none) (hm:∀ j,¬ MutAt σ ρ j p) (ha:c'.adr=c.adr)
  (sub:∀ y∈c'.ins,y∈c.ins∨y=p) (nd:(c'.adr :: c'.ins).Nodup) (ok:DpO K B (upd H c.adr o) c'):Ev K R W B (upd H c.adr o) σ (ρ.set i (.deep c')):=by
 obtain ⟨d1,d2⟩:=e.deepAt ho
 have hxf:=d2.fr c.adr List.mem_cons_self
 have nw:¬ W c.adr:=fun z=>e.wr _ z hxf.1
 have me:MutAt σ ρ i c.adr:=.inr ⟨c,ho,List.mem_cons_self⟩
 have sub':∀ y∈c'.adr :: c'.ins,y∈c.adr :: c.ins∨y=p:=fun y hy=>by
  rcases List.mem_cons.mp hy with z | z
  ·rw [z,ha]; exact .inl List.mem_cons_self
  ·exact (sub y z).imp (List.mem_cons_of_mem _) id
 refine ⟨⟨fun b u q z=>?_,fun b u q=>?_,e.wb,fun b z=>?_,e.wr⟩,by rw [List.length_set]; exact e.len,fun j k q=>?_,fun a b y hy hz=>?_⟩
 ·rw [upd_ne (by rintro rfl; rw [hxf.1] at q; cases q)]; exact e.fr b u q z
 ·rw [upd_ne (by rintro rfl; rw [hxf.2] at q; cases q)]; exact e.bh b u q
 ·exact (e.wh b z).upd (by rintro rfl; exact nw z)
 ·rcases getElem?_set_some q with ⟨rfl,rfl⟩ | ⟨n,q⟩
  ·exact ⟨by rw [ha,d1]; rfl,fun y hy=>by
    rcases sub' y hy with z | rfl
    ·exact d2.fr y z
    ·exact ⟨hr,hb⟩,nd,ok⟩
  ·have z:=e.ok j k q
   have ne:∀ y,MutAt σ ρ j y→y≠c.adr:=fun y m=>by rintro rfl; exact n (e.sep j i _ m me)
   cases k with
   | no=>trivial
   | new d=>exact z
   | pin v d=>exact z
   | val d=>exact z
   | own es =>
    obtain ⟨b,z1,z2,z3,z4⟩:=z
    exact ⟨b,z1,z2,z3,z4.mono (Same.refl _) (upd_ne (ne b (.inl ⟨join_some z1,.inr ⟨es,q⟩⟩)))⟩
   | deep d=>exact ⟨z.1,z.2.fr,z.2.nd,z.2.ok.mono (Same.refl _) fun b mb=>upd_ne (ne b (.inr ⟨d,q,mb⟩))⟩
   | bag =>
    obtain ⟨b,z1,z2,z3,z4⟩:=z
    exact ⟨b,z1,z2,z3,z4.upd (ne b (.inl ⟨join_some z1,.inl q⟩))⟩
 ·have back:∀ a,MutAt σ (ρ.set i (.deep c')) a y→MutAt σ ρ a y∨(a=i∧y=p):=fun a m=>by
   rcases m with ⟨m1,m2⟩ | ⟨d,m1,m2⟩
   ·refine .inl (.inl ⟨m1,?_⟩)
    rcases m2 with m2 | ⟨es,m2⟩
    ·rcases getElem?_set_some m2 with ⟨_,z⟩ | ⟨_,m2⟩
     ·cases z
     ·exact .inl m2
    ·rcases getElem?_set_some m2 with ⟨_,z⟩ | ⟨_,m2⟩
     ·cases z
     ·exact .inr ⟨es,m2⟩
   ·rcases getElem?_set_some m1 with ⟨rfl,z⟩ | ⟨_,m1⟩
    ·cases z
     rcases sub' y m2 with z | z
     ·exact .inl (.inr ⟨c,ho,z⟩)
     ·exact .inr ⟨rfl,z⟩
    ·exact .inl (.inr ⟨d,m1,m2⟩)
  rcases back a hy with h1 | ⟨h1,h1'⟩
  ·rcases back b hz with h2 | ⟨h2,h2'⟩
   ·exact e.sep a b y h1 h2
   ·subst h2'; exact absurd h1 (hm a)
  ·rcases back b hz with h2 | ⟨h2,_⟩
   ·subst h1'; exact absurd h2 (hm b)
   ·rw [h1,h2]
end
def tBMD (r:V→List V→Hp→VK→Prop) (to:TE) (t:TA):TE:=fun σ H Q=>to σ H fun x H1=>(∃ a,x=.ref a∧IsDc H1 a)∧t σ H1 fun xs H2=>r x xs H2 Q
theorem pe_bmD {X:Cx} {o e:Expr} {es:List Expr} {to:TE} {t:TA} {name:Str} {apos cpos:Pos} {id:String} {r:V→List V→Hp→VK→Prop} (slot:Slot "dict" name id) (hty:typeOf (.builtin id)=pure (.type "method_descriptor")) (hm:MtR X id r) (ho:PE X o to) (ha:PA X (e :: es) t)
  (hbase:attributeBase o name X.env (eval o X.env)=eval o X.env:=by rfl)
  (hfew:((backTo cpos (starEach (e :: es) X.env)).all (fun x => !x.1) && (backToKw cpos (keywordEach [] X.env)).all (fun x=>x.1.isSome)
   && decide ((e :: es).length + ([]:List Keyword).length + (if ([]:List Keyword).isEmpty then 0 else 1) < 30))=true:=by rfl)
  (hline:(apos.endLine == cpos.line)=true:=by rfl) (hs:starEach (e :: es) X.env=(false,eval e X.env) :: starEach es X.env:=by rfl) (hplain:(backTo cpos (starEach es X.env)).any (·.1)=false:=by rfl) :
  PE X (.Call (.Attribute o name apos) (e :: es) [] cpos) (tBMD r to t):=by
 intro pins s σ H Q I h
 refine wpAny_Call_method_late hbase hfew hline rfl (thn (ho pins s σ H _ I h) fun v s1 ⟨x,H1,I1,r1,⟨a,ea,b1,ep1,ks1,as1,vs1,dc⟩,q1⟩=>?_)
 subst ea
 obtain rfl:v=Value.ref a:=r1
 obtain ⟨h1,h2⟩:=dc.typ I1
 refine ⟨"dict", id,PySem.F.plainAttrs_dict,slot,hty,h1,h2,?_⟩
 have hA:=ha cpos pins s1 σ H1 _ I1 q1
 rw [hs] at hA ⊢
 refine Calls.callWith_builtin (by show (false || (backTo cpos (starEach es X.env)).any (·.1))=false; rw [hplain] <;> rfl) (Calls.evalArgs_plain ?_)
 exact thn hA fun us s2 ⟨vs,H2,I2,r2,q2⟩=>hm pins s2 σ H2 (.ref a) vs (.ref a) us Q I2 rfl r2 q2
def uDnewL (b:Bool) (i:Nat):US:=fun U ρ=>∀ a,U.nx (ρ.set i (.deep (.dl b a [] [] [])))
def uSdA (b:Bool) (n:Nat) (ue uf:UE):US:=fun U ρ=>∃ a ks as dss,ρ[n]?=some (.deep (.dl b a ks as dss))∧ue ρ fun y=>∃ kk,y=keyD b kk∧KeyOk b kk∧ks.length < sizeLine∧dss.length=ks.length∧(∀ ds,lkA ks dss kk=some ds→ds.length < sizeLine) ∧
 ∀ as1 dss1,uf (ρ.set n (.deep (.dl b a (ptK ks kk) as1 dss1))) fun d=>U.nx (ρ.set n (.deep (.dl b a (ptK ks kk) as1 (sdA ks dss kk d))))
section
variable {X:Cx} {b:Bool} {n:Nat} {x:Str} {px pos pos' apos cpos apos2 cpos2 pd pl:Pos} {e f:Expr} {ue uf:UE}
theorem s_dnewL {i:Nat} (hN:X.N.Nodup) (hi:X.N[i]?=some x) (hx:Loc X.env.scope x) (hs:swapsWith (.Dict [] [] pd) (some (.Name x pos')) pos.line X.env=pure false:=by rfl) (hf:X.fn x=true∨X.env.scope.names.lookup x=some .local:=by first | exact .inl rfl | exact .inr rfl | assumption) :
  PS3 X (.Assign [.Name x pos'] (.Dict [] [] pd) pos) (uDnewL b i):=by
 refine ⟨_,ps_set hN hi hx (pe_cnew (b:=b)) hs hf,fun U ρ h R W B H σ D e s=>?_⟩
 intro p hp
 obtain ⟨f1,f2,f3⟩:=e.toWd.fresh hp
 refine s.nx _ _ B _ (h p) ((e.allocH hp _).set i ⟨rfl,fun a ha=>?_,by simp [Dp.adr,Dp.ins],0,[],upd_same,.nil,fun _ _ z=>by simp at z,rfl,fun j a ds z=>by simp at z⟩ (fun a _ z=>by rcases z with z | ⟨_,z⟩ <;> cases z) fun a ha j _ m=>?_) (Grow.refl _ _)
 ·have:a=p:=by simpa [Dp.adr,Dp.ins] using ha
  subst this
  exact ⟨f1,f3⟩
 ·have:a=p:=by simpa [Sl.adrs,Dp.adr,Dp.ins] using ha
  subst this
  exact e.notNew hp m rfl
theorem lk_mem {α:Type}:∀ {ks:List (List (List Int))} {ds:List α} {k:List (List Int)} {x:α},lkA ks ds k=some x→k∈ks
 | [],_,_,_,h=>by simp [lkA] at h
 | _ :: _,[],_,_,h=>by simp [lkA] at h
 | k' :: ks,d :: ds,k,x,h=>by
  rw [lkA] at h
  by_cases e:k'=k
  ·rw [e]; exact List.mem_cons_self
  ·rw [if_neg e] at h; exact List.mem_cons_of_mem _ (lk_mem h)
theorem sd_fin {K:PySem.W.Frag} {t:TE} {U:UEnds} {D:Ends} {ρ ρ1:List Sl} {R:Hp} {W:Addr→Prop} {B B0 H:Hp} {σ:St} {a x:Addr} {ks1 ks:List (List (List Int))} {as as1:List Addr} {dss dss1:List (List L3.D)} {j:Nat} {ds:List L3.D} {F:L3.D→List (List L3.D)} (r2:RefE K t uf) (ev:Ev K R W B H σ ρ1) (ho:ρ[n]?=some (.deep (.dl b a ks as dss)))
  (e1:ρ.set n (.deep (.dl b a ks1 as1 dss1))=ρ1) (hx:as1[j]?=some x) (hd:dss1[j]?=some ds) (hl:ds.length < sizeLine) (g:Grow R B0 B) (sm:Sim K R W B0 U D)
  (hq:uf (ρ.set n (.deep (.dl b a ks1 as1 dss1))) fun d=>U.nx (ρ.set n (.deep (.dl b a ks1 as1 (F d))))) (hF:∀ d,F d=dss1.set j (ds ++ [d])) :
  tyV K "list" (.ref x) H∧tCons t tNil σ H fun xs H3=>rAppend (.ref x) xs H3 fun _ H4=>D.nx σ H4:=by
 have lt0:n < ρ.length:=by
  by_cases z:n < ρ.length
  ·exact z
  ·rw [List.getElem?_eq_none (by omega)] at ho; cases ho
 have ho1:ρ1[n]?=some (.deep (.dl b a ks1 as1 dss1)):=by rw [← e1,List.getElem?_set_self lt0]
 obtain ⟨_,d2⟩:=ev.deepAt ho1
 obtain ⟨_,_,_,_,_,c7⟩:=d2.ok
 obtain ⟨vs,hv,_⟩:=c7.at_ j x ds hx hd
 refine ⟨.inl ⟨rfl,vs,SqL.of hv⟩,?_⟩
 rw [e1] at hq
 refine r2 ρ1 _ hq R W B H σ _ ev fun d v B2 H2 z2 f2 g2 s2=>?_
 obtain ⟨d3,d4⟩:=f2.deepAt ho1
 obtain ⟨ep',kas',e4,e5,e6,e7⟩:=d4.ok
 have e4':H2 a=some (DicO b a ep' ks1 kas' (as1.map V.ref)):=e4
 obtain ⟨vs',hv',rs'⟩:=e7.at_ j x ds hx hd
 have nda:(a :: as1).Nodup:=d4.nd
 have mx:x∈as1:=List.mem_of_getElem? hx
 have xa:a≠x:=fun z=>(List.nodup_cons.mp nda).1 (by rw [z]; exact mx)
 refine ⟨x,vs',v,rfl,rfl,hv',by rw [rs'.length]; exact hl,?_⟩
 have f3:=f2.deepW (c':=.dl b a ks1 as1 (F d)) (x:=x) (o:=.lst (vs' ++ [v])) ho1 (List.mem_cons_of_mem _ mx) rfl (fun y hy=>hy) nda ⟨ep',kas',by rw [upd_ne xa]; exact e4',e5,e6,by rw [hF,List.length_set]; exact e7.len,fun i y es hy hes=>?_⟩
 ·rw [← e1,List.set_set] at f3
  exact sm.nx _ _ B2 _ z2 f3 (g.trans g2)
 ·rw [hF] at hes
  by_cases z:j=i
  ·subst z
   rw [hx] at hy; cases hy
   rw [List.getElem?_set_self (by have:=List.getElem?_eq_some_iff.mp hd; exact this.1)] at hes
   cases hes
   exact ⟨_,upd_same,rs'.append (.cons s2 .nil)⟩
  ·rw [List.getElem?_set_ne z] at hes
   obtain ⟨us,hu1,hu2⟩:=e7.at_ i y es hy hes
   refine ⟨us,?_,hu2⟩
   rw [upd_ne ?_]
   ·exact hu1
   ·rintro rfl
    have l1:i < as1.length:=(List.getElem?_eq_some_iff.mp hy).1
    exact z ((List.getElem?_inj l1 (List.nodup_cons.mp nda).2).mp (hy.trans hx.symm)).symm
theorem s_sdA (n:Nat) (hu:X.A.units + 4 < cLine) (he:PE3 X e ue) (hf:PE3 X f uf) (hN:X.N[n]?=some x:=by rfl) (hv:Vis X.env.scope x:=by first | exact Or.inl rfl | exact Or.inr (Or.inl rfl) | exact Or.inr (Or.inr rfl)) (hd:(x == ("__debug__" : Str))=false:=by decide)
  (hcd:(x == ("__classdict__" : Str))=false:=by decide)
  (hbase:attributeBase (.Name x px) "setdefault" X.env (eval (.Name x px) X.env)=eval (.Name x px) X.env:=by rfl)
  (hfew:((backTo cpos (starEach [e,.List [] pl] X.env)).all (fun x => !x.1) && (backToKw cpos (keywordEach [] X.env)).all (fun x=>x.1.isSome)
   && decide (([e,.List [] pl]:List Expr).length + ([]:List Keyword).length + (if ([]:List Keyword).isEmpty then 0 else 1) < 30))=true:=by rfl)
  (hline:(apos.endLine == cpos.line)=true:=by rfl) (hs1:starEach [e,.List [] pl] X.env=(false,eval e X.env) :: starEach [.List [] pl] X.env:=by rfl) (hs2:starEach [.List [] pl] X.env=(false,eval (.List [] pl) X.env) :: starEach [] X.env:=by rfl) (hpl1:(backTo cpos (starEach [.List [] pl] X.env)).any (·.1)=false:=by rfl)
  (hbase2:attributeBase (.Call (.Attribute (.Name x px) "setdefault" apos) [e,.List [] pl] [] cpos) "append" X.env (eval (.Call (.Attribute (.Name x px) "setdefault" apos) [e,.List [] pl] [] cpos) X.env)=eval (.Call (.Attribute (.Name x px) "setdefault" apos) [e,.List [] pl] [] cpos) X.env:=by rfl)
  (hfew2:((backTo cpos2 (starEach [f] X.env)).all (fun x => !x.1) && (backToKw cpos2 (keywordEach [] X.env)).all (fun x=>x.1.isSome)
   && decide ([f].length + ([]:List Keyword).length + (if ([]:List Keyword).isEmpty then 0 else 1) < 30))=true:=by rfl)
  (hline2:(apos2.endLine == cpos2.line)=true:=by rfl) (hs3:starEach [f] X.env=(false,eval f X.env) :: starEach [] X.env:=by rfl) (hplain2:(backTo cpos2 (starEach ([]:List Expr) X.env)).any (·.1)=false:=by rfl)
  (hsw:swapsWith (.Call (.Attribute (.Call (.Attribute (.Name x px) "setdefault" apos) [e,.List [] pl] [] cpos) "append" apos2) [f] [] cpos2) none pos.line X.env=pure false:=by rfl) :
  PS3 X (.Expr (.Call (.Attribute (.Call (.Attribute (.Name x px) "setdefault" apos) [e,.List [] pl] [] cpos) "append" apos2) [f] [] cpos2) pos) (uSdA b n ue uf):=by
 obtain ⟨_,h1,r1⟩:=he
 obtain ⟨_,h2,r2⟩:=hf
 refine ⟨_,ps_expr (pe_bm PySem.F.plainAttrs_list PySem.F.slot_list_append PySem.F.type_list_append mt_append
  (pe_bmD PySem.F.slot_dict_setdefault PySem.F.type_dict_setdefault (mt_setD (b:=b) hu) (pe_var hN hv hd hcd) (pa_cons h1 (pa_cons (pe_lst pa_nil) pa_nil hs2) hs1) hbase hfew hline hs1 hpl1)
  (pa_cons h2 pa_nil hs3) hbase2 hfew2 hline2 hs3 hplain2) hsw,fun U ρ h R W B H σ D ev sm=>?_⟩
 obtain ⟨a,ks,as,dss,ho,h⟩:=h
 obtain ⟨d1,d2⟩:=ev.deepAt ho
 obtain ⟨ep,kas,c4,c5,c6,c7⟩:=d2.ok
 refine ⟨_,d1,⟨a,rfl,b,ep,ks,kas,_,c4,keys_of ev.bh c6 c5⟩,?_⟩
 refine r1 ρ _ h R W B H σ _ ev fun y v B1 H1 z1 f1 g1 s1=>?_
 obtain ⟨kk,rfl,hk,hl,hll,hz,hq⟩:=z1
 obtain ⟨c,rfl⟩:=key_ref s1
 refine ⟨Nat.zero_le _,fun p hp=>?_⟩
 obtain ⟨q1,q2,q3⟩:=f1.toWd.fresh hp
 have f2:=f1.allocH hp (.lst [])
 have nm:∀ j,¬ MutAt σ ρ j p:=fun j m=>f1.notNew hp m rfl
 obtain ⟨_,d3⟩:=f2.deepAt ho
 obtain ⟨ep',kas',e4,e5,e6,e7⟩:=d3.ok
 have e4':(upd H1 p (.lst [])) a=some (DicO b a ep' ks kas' (as.map V.ref)):=e4
 have ldss:as.length=dss.length:=e7.len
 have nda:(a :: as).Nodup:=d3.nd
 have lk2:lkA ks dss kk=none∨∃ ds,lkA ks dss kk=some ds:=by cases lkA ks dss kk with | none=>exact .inl rfl | some ds=>exact .inr ⟨ds,rfl⟩
 refine ⟨a,c,.ref p,ep',ks,kas',as.map V.ref,kk,rfl,rfl,⟨e4',keys_of f2.bh e6 e5⟩,keyAt_of f2.bh hk s1,hl,fun v hv=>?_,fun hn ep2=>?_⟩
 ·-- the key is there
  obtain ⟨j,j1,j2⟩:=sd1_first hv
  have jl:j < dss.length:=by
   have:=List.getElem?_eq_some_iff.mp j1
   obtain ⟨z,_⟩:=this
   rw [List.length_map] at z; omega
  have hds:=List.getElem?_eq_getElem jl
  obtain ⟨x1,hx1,rfl⟩:∃ x1,as[j]?=some x1∧v=.ref x1:=by
   rw [List.getElem?_map] at j1
   cases q:as[j]? with
   | none=>rw [q] at j1; cases j1
   | some x1=>rw [q] at j1; exact ⟨x1,rfl,(Option.some.inj j1).symm⟩
  have m:kk∈ks:=by
   by_cases z:kk∈ks
   ·exact z
   ·have lm:(as.map V.ref).length=ks.length:=by
     have:=(j2 dss dss[j] .non (by rw [List.length_map]; omega) hds).1
     obtain ⟨_,h3,_⟩:=lk_first this
     exact absurd h3 (by
      have:=lk_mem hv
      exact absurd this z)
    exact absurd ((lk_none lm).mpr z) (by rw [hv]; simp)
  have ek:ptK ks kk=ks:=if_pos m
  refine sd_fin (ds:=dss[j]) r2 f2 ho (by rw [ek]; exact slot_self ho) hx1 hds (hz _ (j2 dss dss[j] .non (by rw [List.length_map]; omega) hds).1) g1 sm (hq as dss) fun d=>?_
  rw [← (j2 dss dss[j] d (by rw [List.length_map]; omega) hds).2]
  unfold sdA
  rw [if_pos m]
 ·have lm:(as.map V.ref).length=ks.length:=by
   rw [List.length_map]; omega
  have m:kk ∉ ks:=(lk_none lm).mp hn
  have ek:ptK ks kk=ks ++ [kk]:=if_neg m
  rw [List.length_map] at lm
  have pa:a≠p:=fun z=>by
   have:=d2.ok
   obtain ⟨_,d9⟩:=f1.deepAt ho
   exact d9.ok.ne (a:=a) List.mem_cons_self (by rw [z]; exact hp)
  have pin:p ∉ as:=fun z=>by
   obtain ⟨_,d9⟩:=f1.deepAt ho
   exact d9.ok.ne (a:=p) (List.mem_cons_of_mem _ z) hp
  have nd2:(a :: (as ++ [p])).Nodup:=by
   rw [← List.cons_append,List.nodup_append]
   refine ⟨nda,by simp,fun x hx y hy=>?_⟩
   rw [List.mem_singleton.mp hy]
   rcases List.mem_cons.mp hx with z | z
   ·rw [z]; exact pa
   ·rintro rfl; exact pin z
  have f3:=f2.deepN (c':=.dl b a (ks ++ [kk]) (as ++ [p]) (dss ++ [[]])) (p:=p) (vs:=[]) (o:=DicO b a ep2 (ks ++ [kk]) (kas' ++ [c]) (as.map V.ref ++ [.ref p])) ho upd_same q1 q3 nm rfl (fun y hy=>by
    rcases List.mem_append.mp hy with z | z
    ·exact .inl z
    ·exact .inr (List.mem_singleton.mp z)) nd2 ⟨ep2,kas' ++ [c],by
     show upd _ a _ a=_
     rw [upd_same,List.map_append]; rfl,?_,?_,by rw [List.length_append,List.length_append,ldss]; rfl,fun i y es hy hes=>?_⟩
  ·have f3:Ev X.K R W B1 (upd (upd H1 p (.lst [])) a (DicO b a ep2 (ks ++ [kk]) (kas' ++ [c]) (as.map V.ref ++ [.ref p]))) σ (ρ.set n (.deep (.dl b a (ptK ks kk) (as ++ [p]) (dss ++ [[]])))):=by rw [ek]; exact f3
   refine sd_fin (F:=fun d=>sdA ks dss kk d) (ds:=[]) (j:=as.length) (x:=p) (as1:=as ++ [p]) (dss1:=dss ++ [[]]) (ks1:=ptK ks kk) r2 f3 ho rfl (by rw [List.getElem?_append_right (Nat.le_refl _)]; simp) (by rw [ldss,List.getElem?_append_right (Nat.le_refl _)]; simp) (by decide) g1 sm (hq _ _) fun d=>?_
   unfold sdA
   rw [if_neg m,ldss,List.set_append_right _ _ (Nat.le_refl _)]
   simp
  ·rw [List.map_append,List.map_append]
   exact e5.append (.cons s1 .nil)
  ·intro z k' hk'
   rcases List.mem_append.mp hk' with w | w
   ·exact e6 z k' w
   ·rw [List.mem_singleton.mp w]; exact hk z
  ·have ya:y≠a:=by
    rintro rfl
    have:y∈as ++ [p]:=List.mem_of_getElem? hy
    exact (List.nodup_cons.mp nd2).1 this
   show ∃ vs,upd _ a _ y=_∧_
   rw [upd_ne ya]
   by_cases z:i < as.length
   ·rw [List.getElem?_append_left z] at hy
    rw [List.getElem?_append_left (by omega)] at hes
    exact e7.at_ i y es hy hes
   ·rw [List.getElem?_append_right (by omega)] at hy hes
    have i0:i - as.length=0:=by
     by_cases q:i - as.length=0
     ·exact q
     ·rw [List.getElem?_eq_none (by simp; omega)] at hy; cases hy
    rw [i0] at hy
    rw [← ldss,i0] at hes
    simp at hy hes
    subst hy hes
    exact ⟨[],upd_same,.nil⟩
end
section
variable {K:PySem.W.Frag} {R:Hp} {W:Addr→Prop} {B B' H H':Hp} {σ:St} {ρ:List Sl}
theorem Ev.fzIn:∀ {as:List Addr} {dss:List (List D)} {B:Hp},Ev K R W B H σ ρ→as.Nodup→InOk K B H as dss→(∀ a∈as,R a=none∧B a=none∧∀ i,¬ MutAt σ ρ i a)→∃ B',Ev K R W B' H σ ρ∧Grow R B B'∧Reps K B' (as.map V.ref) (dss.map D.lst)∧∀ a,a ∉ as→B' a=B a
 | [],[],B,e,_,_,_=>⟨B,e,Grow.refl _ _,.nil,fun _ _=>rfl⟩
 | [],_ :: _,_,_,_,h,_=>by have:=h.len; simp at this
 | _ :: _,[],_,_,_,h,_=>by have:=h.len; simp at this
 | a :: as,ds :: dss,B,e,nd,h,hf=>by
  obtain ⟨vs,h1,h2⟩:=h.at_ 0 a ds rfl rfl
  obtain ⟨f1,f2,f3⟩:=hf a List.mem_cons_self
  obtain ⟨e1,g1⟩:=e.freeze h1 f1 f2 f3
  obtain ⟨n1,n2⟩:=List.nodup_cons.mp nd
  have h':InOk K (upd B a (.lst vs)) H as dss:=⟨by have:=h.len; simpa using this,fun i x es hx he=>by
   obtain ⟨us,u1,u2⟩:=h.at_ (i + 1) x es (by simpa using hx) (by simpa using he)
   exact ⟨us,u1,u2.mono g1.s⟩⟩
  obtain ⟨B2,e2,g2,r2,o2⟩:=Ev.fzIn e1 n2 h' fun x hx=>by
   obtain ⟨q1,q2,q3⟩:=hf x (List.mem_cons_of_mem _ hx)
   exact ⟨q1,by rw [upd_ne (by rintro rfl; exact n1 hx)]; exact q2,q3⟩
  refine ⟨B2,e2,g1.trans g2,.cons (.lst (g2.s _ _ upd_same) (h2.mono (g1.trans g2).s)) r2,fun x hx=>?_⟩
  rw [o2 x fun z=>hx (List.mem_cons_of_mem _ z),upd_ne (by rintro rfl; exact hx List.mem_cons_self)]
theorem Ev.fzDL (e:Ev K R W B H σ ρ) {i:Nat} {c:Dp} (ho:ρ[i]?=some (.deep c)):∃ B',Grow R B B'∧Ev K R W B' H σ (ρ.set i (.val (match c with | .ll _ _ dss=>.lst (dss.map D.lst) | .dl b _ ks _ dss=>.dct b ks (dss.map D.lst)))):=by
 obtain ⟨d1,d2⟩:=e.deepAt ho
 have f:=e.setV (d:=.non) i (v:=.non) .non
 have me:∀ x∈c.adr :: c.ins,∀ j,¬ MutAt (σ.set i (some V.non)) (ρ.set i (.val .non)) j x:=fun x hx j m=>by
  obtain ⟨n,m⟩:=mut_setV m (by simp) (by simp) rfl
  exact n (e.sep j i x m (.inr ⟨c,ho,hx⟩))
 have lt0:i < ρ.length:=by
  by_cases z:i < ρ.length
  ·exact z
  ·rw [List.getElem?_eq_none (by omega)] at ho; cases ho
 have fin:∀ (o:HO) (dss:List (List D)) (d:D),H c.adr=some o→InOk K B H c.ins dss→(∀ B2,Same B B2→B2 c.adr=some o→Reps K B2 (c.ins.map V.ref) (dss.map D.lst)→Rep K B2 (.ref c.adr) d)→∃ B',Grow R B B'∧Ev K R W B' H σ (ρ.set i (.val d)):=fun o dss d h1 h2 h3=>by
  obtain ⟨n1,n2⟩:=List.nodup_cons.mp d2.nd
  obtain ⟨B2,e2,g2,r2,o2⟩:=f.fzIn n2 h2 fun x hx=>⟨(d2.fr x (List.mem_cons_of_mem _ hx)).1,(d2.fr x (List.mem_cons_of_mem _ hx)).2,me x (List.mem_cons_of_mem _ hx)⟩
  obtain ⟨q1,q2⟩:=d2.fr c.adr List.mem_cons_self
  obtain ⟨e3,g3⟩:=e2.freezeO h1 q1 (by rw [o2 _ n1]; exact q2) (me _ List.mem_cons_self)
  refine ⟨_,g2.trans g3,?_⟩
  have e4:=e3.setV i (h3 _ (g2.trans g3).s upd_same (r2.mono g3.s))
  rw [List.set_set,List.set_set,set_self d1] at e4
  exact e4
 cases c with
 | ll a as dss=>exact fin _ dss _ d2.ok.1 d2.ok.2 fun B2 s h r=>.lst h r
 | dl b a ks as dss =>
  obtain ⟨ep,kas,h1,h2,h3,h4⟩:=d2.ok
  exact fin _ dss _ h1 h4 fun B2 s h r=>.dct h (h2.mono s) h3 r
end
def uFzL (i:Nat) (s:US):US:=fun U ρ=>∃ b a ks as dss,ρ[i]?=some (.deep (.dl b a ks as dss))∧s U (ρ.set i (.val (.dct b ks (dss.map D.lst))))
section
variable {X:Cx} {tg:Expr} {w:UL} {pos:Pos}
theorem s_fzL {st:List Stmt} {s:US} (i:Nat) (h:PSs3 X st s):PSs3 X st (uFzL i s):=by
 obtain ⟨_,h1,r1⟩:=h
 refine ⟨_,h1,fun U ρ h R W B H σ D e sm=>?_⟩
 obtain ⟨b,a,ks,as,dss,ho,z⟩:=h
 obtain ⟨B',g,e'⟩:=e.fzDL ho
 exact r1 U _ z R W B' H σ D e' (sm.grow g)
theorem s_forI {iter:Expr} {body:List Stmt} {g:UG} {s:US} (hp:PassesOwn (model X.prog X.w) X.A X.env X.xe) (hc:X.calm=true) (hi:PIE3 X tg iter w) (hg:PG3 X tg g) (hb:PSs3 X body s)
  (hs:∀ x,foldedSetIterable iter X.env x=pure x:=by intro _; rfl):PS3 X (.For tg iter body [] pos) (uFor w g s):=by
 obtain ⟨_,h0,r0⟩:=hi; obtain ⟨_,h1,r1⟩:=hg; obtain ⟨_,h2,r2⟩:=hb
 refine ⟨_,ps_for hp hc h0 h1 h2 hs,fun U ρ h R W B H σ D e sm=>?_⟩
 refine r0 ρ _ h R W B H σ _ e fun ds J B1 H1 z1 e1 g1 it=>?_
 refine ⟨fun i m σ' H'=>∃ ρ' B',m=ds.length - i∧i≤ds.length∧forR g s U (ds.drop i) ρ'∧Ev X.K R W B' H' σ' ρ'∧Grow R B B'∧Same B1 B',⟨ds.length,ρ,B1,by simp,Nat.zero_le _,z1,e1,g1,Same.refl _⟩,?_⟩
 rintro i m σ1 H2 ⟨ρ1,B2,rfl,hi,z2,e2,g2,s2⟩
 obtain ⟨t1,t2,t3⟩:=it H2 (s2.trans e2.bh) i
 by_cases hlt:i < ds.length
 ·refine .inr ⟨t1 hlt,fun σ' H'=>∃ ρ' B',forR g s U (ds.drop (i + 1)) ρ'∧Ev X.K R W B' H' σ' ρ'∧Grow R B B'∧Same B1 B',?_,?_⟩
  ·rintro σ' H' ⟨ρ',B',z,e',g',s'⟩
   exact ⟨ds.length - (i + 1),by omega,ρ',B',rfl,hlt,z,e',g',s'⟩
  ·rintro x H' hy
   obtain ⟨q,vs,es,hq0,rfl,rfl,hd,rx⟩:=t3 x H' hlt hy
   have ed:ds.drop i=.tup es :: ds.drop (i + 1):=by
    rw [List.drop_eq_getElem_cons hlt]
    rw [List.getElem?_eq_getElem hlt] at hd
    rw [Option.some.inj hd]
   rw [ed] at z2
   have g3:=e2.grow hq0 (.tup vs)
   have e3:=e2.alloc hq0 (.tup vs)
   refine r1 _ ρ1 _ z2 R W _ _ σ1 (.ref q) _ e3 (.tup upd_same (rx.mono (s2.trans g3.s))) fun ρ' σ' z' e' _=>?_
   have g4:=g2.trans g3
   have s4:=s2.trans g3.s
   exact r2 _ ρ' z' R W _ _ σ' _ e' ⟨fun ρ' σ' B' H' z e' g=>⟨ρ',B',z,e',g4.trans g,s4.trans g.s⟩,fun ρ' σ' B' H' z e' g=>sm.nx ρ' σ' B' H' z e' (g4.trans g),fun ρ' σ' B' H' z e' g=>⟨ρ',B',z,e',g4.trans g,s4.trans g.s⟩,fun r v B' H' z e' g q=>sm.rt r v B' H' z e' (g4.trans g) q⟩
 ·have ei:i=ds.length:=by omega
  subst ei
  rw [List.drop_length] at z2
  exact .inl ⟨t2 (Nat.le_refl _),sm.nx ρ1 σ1 B2 H2 z2 e2 g2⟩
end
abbrev FL:=Bool→List (List (List Int))→List (List D)→List D→(List (List (List Int))→List (List D)→Prop)→Prop
def ConL (K:PySem.W.Frag) (n:Nat) (F:FL):Sp:=fun vs H Q _=>∃ (B:Hp) (a:Addr) (us:List V) (xs:List D) (b:Bool) (ks:List (List (List Int))) (as:List Addr) (dss:List (List D)) (k:List (List (List Int))→List (List D)→Prop),
 vs=.ref a :: us∧F b ks dss xs k∧xs.length + 1=n∧Same B H∧(∀ x∈a :: as,B x=none)∧(a :: as).Nodup∧DpO K B H (.dl b a ks as dss)∧Reps K B us xs ∧
 ∀ ks' as' dss' B' H',k ks' dss'→(∀ c o,c ∉ a :: as→H c=some o→H' c=some o)→Same B' H'→Same B B'→(∀ c o,B' c=some o→B c=some o∨c∈a :: as∨H c=none) →
  (∀ x∈a :: as',B' x=none∧(x∈a :: as∨H x=none))→(a :: as').Nodup→DpO K B' H' (.dl b a ks' as' dss')→Q .non H'
def uCallL (m n:Nat) (F:FL) (w:UL):US:=fun U ρ=>∃ b a ks as dss,ρ[m]?=some (.deep (.dl b a ks as dss))∧w ρ fun xs=>xs.length + 1=n∧F b ks dss xs fun ks' dss'=>∀ as',U.nx (ρ.set m (.deep (.dl b a ks' as' dss')))
section
variable {K:PySem.W.Frag}
open Classical in
theorem def3L {P:Program} {w:World} {mg:Str→Option Value} {base:Heap} {x:Str} {st:Stmt} {N ps:List Str} {lv n:Nat} {F:FL} (Fd:Fnd K mg x st ps) (S:FnScope N ps (defScope st)) (hn:ps.length=n)
  (hbody:∀ (f:Addr) (cdv:Value) (A:Around) (outer:List PySem.Env) (s:Shared) (H:Hp) (E:XK),Room lv (A.deeper (PyProof.Rows.envOfC x (defScope st) s.heap.objs.size f cdv)) →
   ∃ u,PSs3 (cxOf CX0 P w K mg base N x (defScope st) f cdv A outer s H E).nox (defBody st) u∧∀ b a ks as dss xs k,xs.length + 1=n→F b ks dss xs k →
    u { nx:=fun ρ=>∃ ks' as' dss',ρ[0]?=some (.deep (.dl b a ks' as' dss'))∧k ks' dss',rt:=fun _=>False } (.deep (.dl b a ks as dss) :: xs.map Sl.val ++ List.replicate (N.length - n) .no)):Cal P w K mg base x ps (lv + 1) (ConL K n F):=by
 refine Fd.ok S (fun vs H Q E h=>?_) (fun f cdv A outer s H vs Q E hr h=>?_)
 ·obtain ⟨B,a,us,xs,b,ks,as,dss,k,rfl,_,hl,_,_,_,_,rs,_⟩:=h
  rw [List.length_cons,rs.length,hl,hn]
 ·obtain ⟨B,a,us,xs,b,ks,as,dss,k,rfl,hF,hl,sB,hb,nd,hc,rs,q⟩:=h
  obtain ⟨u,⟨t,ht,rt⟩,hu⟩:=hbody f cdv A outer s H E hr
  have hlen:=rs.length
  have hRa:∀ c∈a :: as,(fun c=>if c∈a :: as then none else H c:Hp) c=none:=fun c z=>if_pos z
  have hRc:∀ c,c ∉ a :: as→(fun c=>if c∈a :: as then none else H c:Hp) c=H c:=fun c z=>if_neg z
  generalize hR:(fun c=>if c∈a :: as then none else H c:Hp)=R at hRa hRc
  have hxs:(xs.map Sl.val).length=us.length:=by rw [List.length_map]; omega
  have at0:(L2.start N (.ref a :: us))[0]?=some (some (.ref a)):=rfl
  have atS:∀ i v,us[i]?=some v→(L2.start N (.ref a :: us))[i + 1]?=some (some v):=fun i v h=>by
   have lt:i < us.length:=by
    by_cases z:i < us.length
    ·exact z
    ·rw [List.getElem?_eq_none (by omega)] at h; cases h
   unfold L2.start
   rw [List.getElem?_append_left (by rw [List.length_map,List.length_cons]; omega),List.getElem?_map,List.getElem?_cons_succ,h]
   rfl
  have look:∀ (i:Nat) (kk:Sl),(Sl.deep (.dl b a ks as dss) :: xs.map Sl.val ++ List.replicate (N.length - n) Sl.no)[i]?=some kk→(i=0∧kk=.deep (.dl b a ks as dss))∨(∃ j d,i=j + 1∧xs[j]?=some d∧kk=.val d)∨kk=.no:=fun i kk h=>by
   cases i with
   | zero=>exact .inl ⟨rfl,(Option.some.inj h).symm⟩
   | succ j =>
    rw [List.cons_append,List.getElem?_cons_succ] at h
    by_cases z:j < (xs.map Sl.val).length
    ·rw [List.getElem?_append_left z,List.getElem?_map] at h
     cases y:xs[j]? with
     | none=>rw [y] at h; cases h
     | some d=>rw [y] at h; exact .inr (.inl ⟨j,d,rfl,y,(Option.some.inj h).symm⟩)
    ·rw [List.getElem?_append_right (by omega),List.getElem?_replicate] at h
     split at h
     ·exact .inr (.inr (Option.some.inj h).symm)
     ·cases h
  have ev:Ev K R (fun _=>False) B H (L2.start N (.ref a :: us)) (.deep (.dl b a ks as dss) :: xs.map Sl.val ++ List.replicate (N.length - n) .no):=by
   refine ⟨⟨fun c o h _=>?_,sB,fun _ z=>z.elim,fun _ z=>z.elim,fun _ z=>z.elim⟩,?_,fun i kk h=>?_,fun i j c m1 m2=>?_⟩
   ·by_cases z:c∈a :: as
    ·rw [hRa c z] at h; cases h
    ·rw [hRc c z] at h; exact h
   ·unfold L2.start
    simp only [List.length_append,List.length_map,List.length_cons,List.length_replicate]
    omega
   ·rcases look i kk h with ⟨rfl,rfl⟩ | ⟨j,d,rfl,hd,rfl⟩ | rfl
    ·exact ⟨by rw [at0]; rfl,fun y hy=>⟨hRa y hy,hb y hy⟩,nd,hc⟩
    ·obtain ⟨v,hv,rv⟩:=rs.get hd
     exact ⟨v,by rw [atS j v hv]; rfl,rv⟩
    ·trivial
   ·have one:∀ i,MutAt (L2.start N (.ref a :: us)) (.deep (.dl b a ks as dss) :: xs.map Sl.val ++ List.replicate (N.length - n) .no) i c→i=0:=fun i m=>by
     rcases m with ⟨_,z | ⟨_,z⟩⟩ | ⟨_,z,_⟩
     ·rcases look i _ z with ⟨rfl,y⟩ | ⟨j,d,rfl,hd,y⟩ | y <;> cases y
     ·rcases look i _ z with ⟨rfl,y⟩ | ⟨j,d,rfl,hd,y⟩ | y <;> cases y
     ·rcases look i _ z with ⟨rfl,y⟩ | ⟨j,d,rfl,hd,y⟩ | y
      ·rfl
      ·cases y
      ·cases y
    rw [one i m1,one j m2]
  refine ⟨t,ht,rt _ _ (hu b a ks as dss xs k hl hF) R (fun _=>False) B H (L2.start N (.ref a :: us)) _ ev ⟨fun ρ σ B' H' h e g=>?_,fun _ _ _ _ h=>h.elim,fun _ _ _ _ h=>h.elim,fun _ _ _ _ h=>h.elim⟩⟩
  obtain ⟨ks',as',dss',ho,hk⟩:=h
  obtain ⟨d1,d2⟩:=e.deepAt ho
  refine q ks' as' dss' B' H' hk (fun c o hc hH=>e.fr c o (by rw [hRc c hc]; exact hH) fun z=>z) e.bh g.s (fun c o z=>?_) (fun y hy=>?_) d2.nd d2.ok
  ·rcases g.n c o z with y | y
   ·exact .inl y
   ·by_cases z2:c∈a :: as
    ·exact .inr (.inl z2)
    ·rw [hRc c z2] at y; exact .inr (.inr y)
  ·obtain ⟨y1,y2⟩:=d2.fr y hy
   refine ⟨y2,?_⟩
   by_cases z:y∈a :: as
   ·exact .inl z
   ·rw [hRc y z] at y1; exact .inr y1
end
section
variable {X:Cx} {m n:Nat} {x:Str} {px p pos pos2:Pos} {e:Expr} {es:List Expr} {F:FL} {w:UL}
theorem s_callL {f:Str} {ps:List Str} {j lv:Nat} (m:Nat) (c:Cal X.prog X.w X.K X.mg X.base f ps j (ConL X.K n F)) (hr:Room lv X.A) (hg:Gl X f) (ha:PL3 X es w) (hN:X.N[m]?=some x:=by rfl) (hv:Vis X.env.scope x:=by first | exact Or.inl rfl | exact Or.inr (Or.inl rfl) | exact Or.inr (Or.inr rfl)) (hd:(x == ("__debug__" : Str))=false:=by decide)
  (hcd:(x == ("__classdict__" : Str))=false:=by decide) (hjk:j≤lv:=by decide) (hdb:(f == ("__debug__" : Str))=false:=by decide)
  (he:starEach (.Name x px :: es) X.env=(false,eval (.Name x px) X.env) :: starEach es X.env:=by rfl) (hpl:(backTo pos (starEach es X.env)).any (·.1)=false:=by rfl) (hs:swapsWith (.Call (.Name f p) (.Name x px :: es) [] pos) none pos2.line X.env=pure false:=by rfl) :
  PS3 X (.Expr (.Call (.Name f p) (.Name x px :: es) [] pos) pos2) (uCallL m n F w):=by
 obtain ⟨_,h1,r1⟩:=ha
 refine ⟨_,ps_expr (pe_cal c hr hg (pa_cons (pe_var hN hv hd hcd) h1 he) hjk hdb he hpl) hs,fun U ρ h R W B H σ D ev sm=>?_⟩
 obtain ⟨b,a,ks,as,dss,ho,h⟩:=h
 obtain ⟨e1,e2⟩:=ev.deepAt ho
 refine ⟨_,e1,?_⟩
 refine r1 ρ _ h R W B H σ _ ev fun xs vs B1 H1 z1 f1 g1 s1=>?_
 obtain ⟨zl,z1⟩:=z1
 obtain ⟨_,d2⟩:=f1.deepAt ho
 show ConL X.K n F ((.ref a :: vs) ++ []) H1 _ _
 rw [List.append_nil]
 refine ⟨B1,a,vs,xs,b,ks,as,dss,_,rfl,z1,zl,f1.bh,fun y hy=>(d2.fr y hy).2,d2.nd,d2.ok,s1,fun ks' as' dss' B' H' hk fr sB s2 gn hBa nd' ok'=>?_⟩
 have mm:∀ y∈a :: as,MutAt σ ρ m y:=fun y hy=>.inr ⟨_,ho,hy⟩
 have nWa:∀ y∈a :: as,¬ W y:=fun y hy z=>f1.wr y z (d2.fr y hy).1
 have nb:∀ c,c ∉ a :: as→B1 c=none→H1 c≠none→B' c=none:=fun c hc h1 h2=>by
  cases z:B' c with
  | none=>rfl
  | some o =>
   rcases gn c o z with y | y | y
   ·rw [h1] at y; cases y
   ·exact absurd y hc
   ·exact absurd y h2
 have f0:Ev X.K R W B1 H1 (σ.set m (some .non)) (ρ.set m .no):=f1.set m trivial fun _ _ z=>by rcases z with z | ⟨_,z⟩ <;> cases z
 have wd:Wd R W B' H':=by
  refine ⟨fun c o h nw=>fr c o (fun z=>by rw [(d2.fr c z).1] at h; cases h) (f1.fr c o h nw),sB,fun c z=>?_,fun c z=>?_,f1.wr⟩
  ·obtain ⟨y1,y2,y3,_⟩:=f1.wh c z
   exact nb c (fun y=>nWa c y z) (f1.wb c z) (by rw [y3]; simp)
  ·obtain ⟨y1,y2,y3,y4⟩:=f1.wh c z
   exact ⟨y1,y2,fr c _ (fun y=>nWa c y z) y3,y4⟩
 have keep:∀ c,c ∉ a :: as→H1 c≠none→H' c=H1 c:=fun c hc hn=>by
  cases z:H1 c with
  | none=>exact absurd z hn
  | some o=>exact fr c o hc z
 have f2:Ev X.K R W B' H' (σ.set m (some .non)) (ρ.set m .no):=f0.move wd s2 fun i c mu=>by
  have ne:c ∉ a :: as:=fun hc=>by
   obtain ⟨hne,mu⟩:=mut_setV mu (by simp) (by simp) rfl
   exact hne (f1.sep i m c mu (mm c hc))
  obtain ⟨y1,y2⟩:=f0.mutOk mu
  refine ⟨nb c ne y1 y2,fun z=>?_,fun _=>keep c ne y2⟩
  obtain ⟨c',w1,_,_,w4⟩:=f0.bagAt z
  rw [mut_bag mu z] at w1; cases w1
  obtain ⟨x1,x2,x3,x4⟩:=w4
  exact ⟨x1,x2,by rw [keep c ne y2]; exact x3,x4⟩
 have f3:=f2.set m (v:=.ref a) (k:=.deep (.dl b a ks' as' dss')) ⟨rfl,fun y hy=>⟨(hBa y hy).2.elim (fun z=>(d2.fr y z).1) (fun z=>(f1.toWd.fresh z).1),(hBa y hy).1⟩,nd',ok'⟩ (fun _ _ z=>by rcases z with z | ⟨_,z⟩ <;> cases z) fun y hy j hj mu=>by
  obtain ⟨hne,mu⟩:=mut_setV mu (by simp) (by simp) rfl
  rcases (hBa y hy).2 with z | z
  ·exact hj (f1.sep j m y mu (mm y z))
  ·exact f1.notNew z mu rfl
 rw [List.set_set,List.set_set,set_self (show σ[m]?=some (some (V.ref a)) from e1)] at f3
 exact sm.nx _ _ B' H' (hk as') f3 (g1.trans ⟨s2,fun c o z=>by
  rcases gn c o z with y | y | y
  ·exact .inl y
  ·exact .inr (d2.fr c y).1
  ·exact .inr (f1.toWd.fresh y).1⟩)
end
end L3
namespace Cut
open PySem L2 L3
abbrev En:=P3×Int
def kP (p:P3):List (List Int):=[dL p]
theorem kP_inj {p q:P3} (h:kP p=kP q):p=q:=by
 unfold kP dL at h
 simp at h
 exact Prod.ext h.1 (Prod.ext h.2.1 h.2.2)
theorem keyOk_P (p:P3):KeyOk false (kP p):=fun _=>⟨_,rfl⟩
def dE (e:En):D:=.tup [dP e.1,.int e.2]
def addC (C:P3→List En) (q:P3) (e:En):P3→List En:=fun p=>if p=q then C p ++ [e] else C p
def DsOk (ks:List (List (List Int))) (dss:List (List D)) (C:P3→List En):Prop:=∃ ps:List P3,ks=ps.map kP∧ps.Nodup∧dss=ps.map (fun p=>(C p).map dE)∧(∀ p∈ps,C p≠[])∧∀ p,p ∉ ps→C p=[]
theorem DsOk.nil:DsOk [] [] fun _=>[]:=⟨[],rfl,List.nodup_nil,rfl,(fun _ h=>by cases h),fun _ _=>rfl⟩
theorem DsOk.len {ks:List (List (List Int))} {dss:List (List D)} {C:P3→List En} (h:DsOk ks dss C):dss.length=ks.length:=by
 obtain ⟨ps,rfl,_,rfl,_,_⟩:=h
 simp
theorem lk_P {β:Type} {f:P3→β}:∀ {ps:List P3} {q:P3} {x:β},lkA (ps.map kP) (ps.map f) (kP q)=some x→x=f q
 | [],_,_,h=>by simp [lkA] at h
 | p :: ps,q,x,h=>by
  rw [List.map_cons,List.map_cons,lkA] at h
  by_cases e:kP p=kP q
  ·rw [if_pos e] at h; cases h; rw [kP_inj e]
  ·rw [if_neg e] at h; exact lk_P h
theorem DsOk.at {ks:List (List (List Int))} {dss:List (List D)} {C:P3→List En} (h:DsOk ks dss C) {q:P3} {ds:List D} (e:lkA ks dss (kP q)=some ds):ds=(C q).map dE:=by
 obtain ⟨ps,rfl,_,rfl,_,_⟩:=h
 exact lk_P e
theorem mem_kP {ps:List P3} {q:P3}:kP q∈ps.map kP↔q∈ps:=by
 rw [List.mem_map]
 constructor
 ·rintro ⟨p,h,e⟩; rw [← kP_inj e]; exact h
 ·intro h; exact ⟨q,h,rfl⟩
theorem sd1_P {g:P3→List D} {q:P3} {d:D}:∀ {ps:List P3},ps.Nodup→sd1 (ps.map kP) (ps.map g) (kP q) d=ps.map fun p=>if p=q then g p ++ [d] else g p
 | [],_=>rfl
 | p :: ps,nd=>by
  obtain ⟨n1,n2⟩:=List.nodup_cons.mp nd
  rw [List.map_cons,List.map_cons,sd1,List.map_cons]
  by_cases e:p=q
  ·subst e
   rw [if_pos rfl,if_pos rfl]
   congr 1
   refine List.map_congr_left fun x hx=>?_
   rw [if_neg (by rintro rfl; exact n1 hx)]
  ·rw [if_neg (fun z=>e (kP_inj z)),if_neg e,sd1_P n2]
theorem DsOk.put {ks:List (List (List Int))} {dss:List (List D)} {C:P3→List En} (h:DsOk ks dss C) (q:P3) (e:En):DsOk (ptK ks (kP q)) (sdA ks dss (kP q) (dE e)) (addC C q e):=by
 obtain ⟨ps,rfl,nd,rfl,hi,ho⟩:=h
 unfold ptK sdA
 by_cases m:q∈ps
 ·rw [if_pos (mem_kP.mpr m),if_pos (mem_kP.mpr m),sd1_P nd]
  refine ⟨ps,rfl,nd,List.map_congr_left fun p hp=>?_,fun p hp=>?_,fun p hp=>?_⟩
  ·unfold addC
   by_cases z:p=q
   ·rw [if_pos z,if_pos z,List.map_append]; rfl
   ·rw [if_neg z,if_neg z]
  ·unfold addC
   split
   ·simp
   ·exact hi p hp
  ·unfold addC
   rw [if_neg (by rintro rfl; exact hp m)]
   exact ho p hp
 ·rw [if_neg (fun z=>m (mem_kP.mp z)),if_neg (fun z=>m (mem_kP.mp z))]
  refine ⟨ps ++ [q],by rw [List.map_append]; rfl,?_,?_,fun p hp=>?_,fun p hp=>?_⟩
  ·rw [List.nodup_append]
   refine ⟨nd,by simp,fun x hx y hy=>?_⟩
   rw [List.mem_singleton.mp hy]
   rintro rfl
   exact m hx
  ·rw [List.map_append]
   congr 1
   ·refine List.map_congr_left fun p hp=>?_
    unfold addC
    rw [if_neg (by rintro rfl; exact m hp)]
   ·show [[dE e]]=[(addC C q e q).map dE]
    unfold addC
    rw [if_pos rfl,ho q m]
    rfl
  ·unfold addC
   split
   ·simp
   ·rename_i z
    rcases List.mem_append.mp hp with y | y
    ·exact hi p y
    ·exact absurd (List.mem_singleton.mp y) z
  ·unfold addC
   rw [List.mem_append,List.mem_singleton] at hp
   rw [if_neg (fun z=>hp (.inr z))]
   exact ho p fun z=>hp (.inl z)
theorem DsOk.size {ks:List (List (List Int))} {dss:List (List D)} {C:P3→List En} {n:Nat} (h:DsOk ks dss C) (q:P3) (hn:ks.length≤n):(ptK ks (kP q)).length≤n + 1:=by
 unfold ptK
 split
 ·omega
 ·rw [List.length_append,List.length_singleton]; omega
def ends1 (s:Int) (p:P3) (e:P3×P3):List En:=(if e.1=p then [(e.2,s)] else []) ++ (if e.2=p then [(e.1,-s)] else [])
def endsE (s:Int) (p:P3) (es:List (P3×P3)):List En:=es.flatMap (ends1 s p)
def endsR (s:Int) (p:P3) (rs:List (List P3)):List En:=rs.flatMap fun ps=>endsE s p (fwd ps)
theorem endsE_snoc (s:Int) (p:P3) (es:List (P3×P3)) (e:P3×P3):endsE s p (es ++ [e])=endsE s p es ++ ends1 s p e:=by unfold endsE; simp
theorem endsR_snoc (s:Int) (p:P3) (rs:List (List P3)) (ps:List P3):endsR s p (rs ++ [ps])=endsR s p rs ++ endsE s p (fwd ps):=by unfold endsR; simp
theorem ends1_len (s:Int) (p:P3) (e:P3×P3):(ends1 s p e).length≤2:=by
 unfold ends1
 split <;> split <;> simp
theorem endsE_len (s:Int) (p:P3):∀ es:List (P3×P3),(endsE s p es).length≤2 * es.length
 | []=>by simp [endsE]
 | e :: es=>by
  have h1:=ends1_len s p e
  have h2:=endsE_len s p es
  show (ends1 s p e ++ endsE s p es).length≤_
  rw [List.length_append,List.length_cons]
  omega
theorem addC_ends (C:P3→List En) (u v:P3) (s:Int):addC (addC C u (v,s)) v (u,-s)=fun p=>C p ++ ends1 s p (u,v):=by
 funext p
 unfold addC ends1
 dsimp only
 by_cases h1:p=u <;> by_cases h2:p=v
 ·subst h1; subst h2; simp
 ·subst h1; rw [if_neg h2,if_pos rfl,if_pos rfl,if_neg (fun z=>h2 z.symm)]; simp
 ·subst h2; rw [if_pos rfl,if_neg h1,if_neg (fun z=>h1 z.symm),if_pos rfl]; simp
 ·rw [if_neg h2,if_neg h1,if_neg (fun z=>h1 z.symm),if_neg (fun z=>h2 z.symm)]; simp
def sumOn (L p:P3) (es:List En):Int:=(es.map fun e=>if lnK p e.1=L then e.2 else 0).sum
def EvenAt (p:P3) (es:List En):Prop:=∀ e∈es,sumOn (lnK p e.1) p es=0
theorem sumOn_app (L p:P3) (es fs:List En):sumOn L p (es ++ fs)=sumOn L p es + sumOn L p fs:=by unfold sumOn; rw [List.map_append,List.sum_append]
theorem sumOn_cons (L p:P3) (e:En) (es:List En):sumOn L p (e :: es)=(if lnK p e.1=L then e.2 else 0) + sumOn L p es:=by unfold sumOn; rw [List.map_cons,List.sum_cons]
theorem sumOn_out {L p:P3}:∀ {es:List En},(∀ e∈es,lnK p e.1≠L)→sumOn L p es=0
 | [],_=>rfl
 | e :: es,h=>by rw [sumOn_cons,if_neg (h e List.mem_cons_self),sumOn_out fun x hx=>h x (List.mem_cons_of_mem _ hx)]; rfl
theorem sumOn_filter {L L0 p:P3} (h:L≠L0):∀ es:List En,sumOn L p (es.filter fun e => !decide (lnK p e.1=L0))=sumOn L p es
 | []=>rfl
 | e :: es=>by
  rw [sumOn_cons,List.filter_cons]
  by_cases z:lnK p e.1=L0
  ·rw [decide_eq_true z,if_neg (by simp),if_neg (fun q=>h (by rw [← q,z])),sumOn_filter h es]; omega
  ·rw [decide_eq_false z,if_pos (by simp),sumOn_cons,sumOn_filter h es]
theorem even_step (p:P3) (L0:P3) {es:List En} {e0:En} (h0:e0∈es) (hl:lnK p e0.1=L0):EvenAt p es↔sumOn L0 p es=0∧EvenAt p (es.filter fun e => !decide (lnK p e.1=L0)):=by
 constructor
 ·intro h
  refine ⟨by rw [← hl]; exact h e0 h0,fun e he=>?_⟩
  obtain ⟨h1,h2⟩:=List.mem_filter.mp he
  have ne:lnK p e.1≠L0:=by simpa using h2
  rw [sumOn_filter ne]
  exact h e h1
 ·rintro ⟨h1,h2⟩ e he
  by_cases z:lnK p e.1=L0
  ·rw [z]; exact h1
  ·have:=h2 e (List.mem_filter.mpr ⟨he,by simpa using z⟩)
   rwa [sumOn_filter z] at this
theorem on_line {p q r:P3} (hp:PtP p) (hq:PtP q) (hr:PtP r) (nq:q≠p) (nr:r≠p):det3 p q r=0↔lnK p r=lnK p q:=by
 constructor
 ·intro h
  have hl:=crs_ne hp hq (Ne.symm nq)
  have l1:ln (crs p q) p=0:=by show (crs p q).1 * p.1 + (crs p q).2.1 * p.2.1 + (crs p q).2.2 * p.2.2=0; unfold crs; dsimp only; grind
  exact lnK_on hl hp hr (Ne.symm nr) l1 h
 ·intro h
  have e1:=crs_oft (p:=p) (q:=q)
  have e2:=crs_oft (p:=p) (q:=r)
  have o2:=oft_ne (crs_ne hp hr (Ne.symm nr))
  have z:ln (crs p r) r=0:=by show (crs p r).1 * r.1 + (crs p r).2.1 * r.2.1 + (crs p r).2.2 * r.2.2=0; unfold crs; dsimp only; grind
  rw [e2] at z
  have z2:ln (lnK p r) r=0:=by
   have:oftL (crs p r) * ln (lnK p r) r=0:=by
    rw [← z]; unfold ln sc; dsimp only; grind
   exact (Int.mul_eq_zero.mp this).resolve_left o2
  show ln (crs p q) r=0
  rw [e1,← h]
  have:ln (sc (oftL (crs p q)) (lnK p r)) r=oftL (crs p q) * ln (lnK p r) r:=by unfold ln sc; dsimp only; grind
  rw [this,z2,Int.mul_zero]
theorem dL_inj {p q:P3} (h:dL p=dL q):p=q:=by
 unfold dL at h
 simp at h
 exact Prod.ext h.1 (Prod.ext h.2.1 h.2.2)
theorem kE_eq {L p u v x:P3}:[dL L,dL p]=kE u v x↔L=lnK u v∧p=x:=by
 unfold kE
 constructor
 ·intro h
  simp only [List.cons.injEq] at h
  exact ⟨dL_inj h.1,dL_inj h.2.1⟩
 ·rintro ⟨rfl,rfl⟩; rfl
theorem sumOn_end {L p u v:P3} (s:Int) (hu:PtP u) (hv:PtP v):sumOn L p (ends1 s p (u,v))=s * cn1 [dL L,dL p] (u,v):=by
 have sw:=lnK_swap hu hv
 unfold cn1
 dsimp only
 rw [show (if [dL L,dL p]=kE u v u then (1:Int) else 0)=if L=lnK u v∧p=u then 1 else 0 by simp only [kE_eq],show (if [dL L,dL p]=kE u v v then (1:Int) else 0)=if L=lnK u v∧p=v then 1 else 0 by simp only [kE_eq]]
 unfold ends1
 dsimp only
 rw [sumOn_app]
 have a1:sumOn L p (if u=p then [(v,s)] else [])=s * (if L=lnK u v∧p=u then 1 else 0):=by
  by_cases z:u=p
  ·subst z
   rw [if_pos rfl,sumOn_cons]
   by_cases y:lnK u v=L
   ·rw [if_pos y,if_pos ⟨y.symm,rfl⟩]; show s + 0=_; omega
   ·rw [if_neg y,if_neg (fun q=>y q.1.symm)]; show (0:Int) + 0=_; omega
  ·rw [if_neg z,if_neg (fun q=>z q.2.symm)]; show (0:Int)=_; omega
 have a2:sumOn L p (if v=p then [(u,-s)] else []) = -s * (if L=lnK u v∧p=v then 1 else 0):=by
  by_cases z:v=p
  ·subst z
   rw [if_pos rfl,sumOn_cons]
   by_cases y:lnK u v=L
   ·rw [if_pos (show lnK v u=L by rw [sw]; exact y),if_pos ⟨y.symm,rfl⟩]; show -s + 0=_; omega
   ·rw [if_neg (show ¬ lnK v u=L by rw [sw]; exact y),if_neg (fun q=>y q.1.symm)]; show (0:Int) + 0=_; omega
  ·rw [if_neg z,if_neg (fun q=>z q.2.symm)]; show (0:Int)=_; omega
 rw [a1,a2]
 grind
theorem sumOn_ends {L p:P3} (s:Int):∀ {es:List (P3×P3)},(∀ e∈es,PtP e.1∧PtP e.2)→sumOn L p (endsE s p es)=s * cnE [dL L,dL p] es
 | [],_=>by show (0:Int)=s * 0; omega
 | e :: es,h=>by
  show sumOn L p (ends1 s p e ++ endsE s p es)=s * ((e :: es).map _).sum
  rw [sumOn_app,List.map_cons,List.sum_cons,sumOn_ends s fun x hx=>h x (List.mem_cons_of_mem _ hx)]
  obtain ⟨h1,h2⟩:=h e List.mem_cons_self
  rw [show ends1 s p e=ends1 s p (e.1,e.2) from rfl,sumOn_end s h1 h2]
  show s * cn1 _ e + s * (es.map _).sum=_
  grind
theorem fwd_perm (ps:List P3):(fwd ps).Perm (eds ps):=by
 cases ps with
 | nil=>exact .refl _
 | cons a r =>
  have e1:fwd (a :: r)=prZ a (r ++ [a]):=zip_prZ r a a
  rw [e1,prZ_app]
  show (prZ a r ++ [(lz a r,a)]).Perm ((lz (0,0,1) (a :: r),a) :: prZ a r)
  have e2:lz (0,0,1) (a :: r)=lz a r:=rfl
  rw [e2]
  exact List.perm_append_comm (l₂:=[(lz a r,a)])
theorem cnE_perm {key:List (List Int)} {es fs:List (P3×P3)} (h:es.Perm fs):cnE key es=cnE key fs:=by
 unfold cnE
 induction h with
 | nil=>rfl
 | cons x _ ih=>rw [List.map_cons,List.sum_cons,List.map_cons,List.sum_cons,ih]
 | swap x y l=>simp only [List.map_cons,List.sum_cons]; omega
 | trans _ _ h1 h2=>rw [h1,h2]
theorem fwd_pts {ps:List P3} (h:∀ p∈ps,PtP p):∀ e∈fwd ps,PtP e.1∧PtP e.2:=fun e he=>by
 obtain ⟨h1,h2⟩:=eds_mem ((fwd_perm ps).mem_iff.mp he)
 exact ⟨h _ h1,h _ h2⟩
theorem sumOn_rings {L p:P3} (s:Int):∀ {rs:List (List P3)},(∀ ps∈rs,∀ p∈ps,PtP p)→sumOn L p (endsR s p rs)=s * cnR [dL L,dL p] rs
 | [],_=>by show (0:Int)=s * 0; omega
 | ps :: rs,h=>by
  show sumOn L p (endsE s p (fwd ps) ++ endsR s p rs)=s * ((ps :: rs).map _).sum
  rw [sumOn_app,List.map_cons,List.sum_cons,sumOn_rings s fun x hx=>h x (List.mem_cons_of_mem _ hx),sumOn_ends s (fwd_pts (h ps List.mem_cons_self)),cnE_perm (fwd_perm ps)]
  show s * cnE _ _ + s * (rs.map _).sum=_
  grind
def noted (rs qs:List (List P3)) (p:P3):List En:=endsR 1 p rs ++ endsR (-1) p qs
theorem sumOn_noted {L p:P3} {rs qs:List (List P3)} (hr:∀ ps∈rs,∀ p∈ps,PtP p) (hq:∀ ps∈qs,∀ p∈ps,PtP p):sumOn L p (noted rs qs p)=cnR [dL L,dL p] rs - cnR [dL L,dL p] qs:=by
 unfold noted
 rw [sumOn_app,sumOn_rings 1 hr,sumOn_rings (-1) hq]
 omega
def wS (φ:List (List Int)→Int) (l:List (List (List Int)×Int)):Int:=(l.map fun x=>x.2 * φ x.1).sum
def wC (key:List (List Int)) (l:List (List (List Int)×Int)):Int:=(l.map fun x=>if key=x.1 then x.2 else 0).sum
theorem wS_split (φ:List (List Int)→Int) (k:List (List Int)):∀ l:List (List (List Int)×Int),wS φ l=φ k * wC k l + wS φ (l.filter fun x => !decide (k=x.1))
 | []=>by show (0:Int)=φ k * 0 + 0; omega
 | x :: l=>by
  have ih:=wS_split φ k l
  unfold wS wC at ih ⊢
  rw [List.map_cons,List.sum_cons,List.map_cons,List.sum_cons,List.filter_cons]
  by_cases e:k=x.1
  ·rw [decide_eq_true e,if_pos e,if_neg (show ¬ (!true)=true by decide),ih,e]; grind
  ·rw [decide_eq_false e,if_neg e,if_pos (show (!false)=true by decide),List.map_cons,List.sum_cons,ih]; grind
theorem wC_filter {key k:List (List Int)} (h:key≠k):∀ l:List (List (List Int)×Int),wC key (l.filter fun x => !decide (k=x.1))=wC key l
 | []=>rfl
 | x :: l=>by
  have ih:=wC_filter h l
  unfold wC at ih ⊢
  rw [List.map_cons,List.sum_cons,List.filter_cons]
  by_cases e:k=x.1
  ·rw [decide_eq_true e,if_neg (by simp),if_neg (fun z=>h (z.trans e.symm)),ih]; omega
  ·rw [decide_eq_false e,if_pos (by simp),List.map_cons,List.sum_cons,ih]
theorem wC_none {key k:List (List Int)} (h:key=k):∀ l:List (List (List Int)×Int),wC key (l.filter fun x => !decide (k=x.1))=0
 | []=>rfl
 | x :: l=>by
  have ih:=wC_none h l
  unfold wC at ih ⊢
  rw [List.filter_cons]
  by_cases e:k=x.1
  ·rw [decide_eq_true e,if_neg (by simp),ih]
  ·rw [decide_eq_false e,if_pos (by simp),List.map_cons,List.sum_cons,if_neg (fun z=>e (h.symm.trans z)),ih]; rfl
theorem wS_zero (φ:List (List Int)→Int):∀ (n:Nat) (l:List (List (List Int)×Int)),l.length≤n→(∀ key,wC key l=0)→wS φ l=0
 | 0,l,h,_=>by cases l with | nil=>rfl | cons x l=>simp at h
 | n + 1,[],_,_=>rfl
 | n + 1,x :: l,h,hz=>by
  rw [wS_split φ x.1,hz x.1]
  have len:((x :: l).filter fun y => !decide (x.1=y.1)).length≤n:=by
   rw [List.filter_cons,decide_eq_true rfl,if_neg (by simp)]
   have:=List.length_filter_le (fun y => !decide (x.1=y.1)) l
   rw [List.length_cons] at h
   omega
  rw [wS_zero φ n _ len fun key=>by
   by_cases e:key=x.1
   ·exact wC_none e _
   ·rw [wC_filter e]; exact hz key]
  omega
def wE (s:Int) (es:List (P3×P3)):List (List (List Int)×Int):=es.flatMap fun e=>[(kE e.1 e.2 e.1,s),(kE e.1 e.2 e.2,-s)]
def wR (s:Int) (rs:List (List P3)):List (List (List Int)×Int):=rs.flatMap fun ps=>wE s (eds ps)
theorem wS_app (φ:List (List Int)→Int) (a b:List (List (List Int)×Int)):wS φ (a ++ b)=wS φ a + wS φ b:=by unfold wS; rw [List.map_append,List.sum_append]
theorem wC_app (key:List (List Int)) (a b:List (List (List Int)×Int)):wC key (a ++ b)=wC key a + wC key b:=by unfold wC; rw [List.map_append,List.sum_append]
theorem wS_E (φ:List (List Int)→Int) (s:Int):∀ es:List (P3×P3),((wS φ (wE s es):Int):Rat)=(s:Rat) * sumT (sG φ) es
 | []=>by show ((0:Int):Rat)=s * sumT (sG φ) []; rw [sumT_nil]; grind
 | e :: es=>by
  show ((wS φ ([(kE e.1 e.2 e.1,s),(kE e.1 e.2 e.2,-s)] ++ wE s es):Int):Rat)=_
  rw [wS_app,sumT_cons]
  have ih:=wS_E φ s es
  have a:wS φ [(kE e.1 e.2 e.1,s),(kE e.1 e.2 e.2,-s)]=s * φ (kE e.1 e.2 e.1) - s * φ (kE e.1 e.2 e.2):=by unfold wS; rw [List.map_cons,List.sum_cons,List.map_cons,List.sum_cons,List.map_nil,List.sum_nil]; dsimp only; grind
  rw [a]
  unfold sG at ih ⊢
  have c1:(((s * φ (kE e.1 e.2 e.1) - s * φ (kE e.1 e.2 e.2) + wS φ (wE s es):Int)):Rat)=(s:Rat) * (φ (kE e.1 e.2 e.1):Rat) - (s:Rat) * (φ (kE e.1 e.2 e.2):Rat) + ((wS φ (wE s es):Int):Rat):=by
   rw [Rat.intCast_add,ratI_sub,Rat.intCast_mul,Rat.intCast_mul]
  rw [c1,ih]
  grind
theorem wC_E (key:List (List Int)) (s:Int):∀ es:List (P3×P3),wC key (wE s es)=s * cnE key es
 | []=>by show (0:Int)=s * 0; omega
 | e :: es=>by
  show wC key ([(kE e.1 e.2 e.1,s),(kE e.1 e.2 e.2,-s)] ++ wE s es)=s * ((e :: es).map _).sum
  rw [wC_app,wC_E key s es,List.map_cons,List.sum_cons]
  show _=s * (cn1 key e + (es.map _).sum)
  have a:wC key [(kE e.1 e.2 e.1,s),(kE e.1 e.2 e.2,-s)]=s * cn1 key e:=by
   unfold wC cn1
   rw [List.map_cons,List.sum_cons,List.map_cons,List.sum_cons,List.map_nil,List.sum_nil]
   dsimp only
   split <;> split <;> grind
  rw [a]
  show s * cn1 key e + s * (es.map _).sum=_
  grind
theorem wS_R (φ:List (List Int)→Int) (s:Int):∀ rs:List (List P3),((wS φ (wR s rs):Int):Rat)=(s:Rat) * sRs φ rs
 | []=>by show ((0:Int):Rat)=s * ([]:List Rat).sum; rw [List.sum_nil]; grind
 | ps :: rs=>by
  show ((wS φ (wE s (eds ps) ++ wR s rs):Int):Rat)=s * ((ps :: rs).map _).sum
  rw [wS_app,Rat.intCast_add,wS_E,wS_R φ s rs,List.map_cons,List.sum_cons]
  show (s:Rat) * sR φ ps + s * (rs.map _).sum=_
  grind
theorem wC_R (key:List (List Int)) (s:Int):∀ rs:List (List P3),wC key (wR s rs)=s * cnR key rs
 | []=>by show (0:Int)=s * 0; omega
 | ps :: rs=>by
  show wC key (wE s (eds ps) ++ wR s rs)=s * ((ps :: rs).map _).sum
  rw [wC_app,wC_E,wC_R key s rs,List.map_cons,List.sum_cons]
  show s * _ + s * (rs.map _).sum=_
  grind
theorem bal_of_cn {rs qs:List (List P3)} (h:∀ key,cnR key rs=cnR key qs):Bal rs qs:=fun φ=>by
 have z:=wS_zero φ _ (wR 1 rs ++ wR (-1) qs) (Nat.le_refl _) fun key=>by
  rw [wC_app,wC_R,wC_R,h key]; omega
 rw [wS_app] at z
 have z2:((wS φ (wR 1 rs) + wS φ (wR (-1) qs):Int):Rat)=0:=by rw [z]; rfl
 rw [Rat.intCast_add,wS_R,wS_R] at z2
 have e1:((1:Int):Rat)=1:=rfl
 have e2:((-1:Int):Rat) = -1:=rfl
 rw [e1,e2] at z2
 grind
theorem cn1_ne {key:List (List Int)} {e:P3×P3} (h:cn1 key e≠0):∃ L p,key=[dL L,dL p]:=by
 unfold cn1 at h
 by_cases z:key=kE e.1 e.2 e.1
 ·exact ⟨_,_,z⟩
 ·by_cases y:key=kE e.1 e.2 e.2
  ·exact ⟨_,_,y⟩
  ·rw [if_neg z,if_neg y] at h; exact absurd rfl h
theorem cnE_zero {key:List (List Int)} (h:¬ ∃ L p,key=[dL L,dL p]) (es:List (P3×P3)):cnE key es=0:=by
 induction es with
 | nil=>rfl
 | cons e es ih =>
  show cn1 key e + (es.map (cn1 key)).sum=0
  have:cn1 key e=0:=by
   by_cases z:cn1 key e=0
   ·exact z
   ·exact absurd (cn1_ne z) h
  rw [this]
  have:(es.map (cn1 key)).sum=0:=ih
  omega
theorem cnR_zero {key:List (List Int)} (h:¬ ∃ L p,key=[dL L,dL p]):∀ rs:List (List P3),cnR key rs=0
 | []=>rfl
 | ps :: rs=>by
  show cnE key (eds ps) + (rs.map fun ps=>cnE key (eds ps)).sum=0
  rw [cnE_zero h]
  have:(rs.map fun ps=>cnE key (eds ps)).sum=0:=cnR_zero h rs
  omega
theorem even_bal {rs qs:List (List P3)} (hr:∀ ps∈rs,∀ p∈ps,PtP p) (hq:∀ ps∈qs,∀ p∈ps,PtP p):(∀ p,EvenAt p (noted rs qs p))↔Bal rs qs:=by
 constructor
 ·intro h
  refine bal_of_cn fun key=>?_
  by_cases z:∃ L p,key=[dL L,dL p]
  ·obtain ⟨L,p,rfl⟩:=z
   have e:=sumOn_noted (L:=L) (p:=p) hr hq
   by_cases y:∃ e∈noted rs qs p,lnK p e.1=L
   ·obtain ⟨x,hx,rfl⟩:=y
    rw [h p x hx] at e
    omega
   ·rw [sumOn_out fun x hx q=>y ⟨x,hx,q⟩] at e
    omega
  ·rw [cnR_zero z,cnR_zero z]
 ·intro h p e he
  rw [sumOn_noted hr hq,cnR_bal h]
  omega
def RgN (ps:List P3):Prop:=1≤ps.length∧ps.length≤75∧(∀ p∈ps,GP 900 p)∧∀ e∈eds ps,e.1≠e.2
theorem endsR_len (s:Int) (p:P3):∀ rs:List (List P3),(endsR s p rs).length≤2 * (rs.map List.length).sum
 | []=>by simp [endsR]
 | x :: l=>by
  have a1:=endsE_len s p (fwd x)
  rw [fwd_len] at a1
  have a2:=endsR_len s p l
  show (endsE s p (fwd x) ++ endsR s p l).length≤2 * (List.length x + (l.map List.length).sum)
  rw [List.length_append]
  omega
theorem ends_in {s:Int} {p:P3} {rs:List (List P3)} (h:∀ ps∈rs,RgN ps):∀ e∈endsR s p rs,GP 900 e.1∧e.1≠p:=fun e he=>by
 obtain ⟨ps,hps,he⟩:=List.mem_flatMap.mp he
 obtain ⟨x,hx,he⟩:=List.mem_flatMap.mp he
 have hx:=(fwd_perm ps).mem_iff.mp hx
 obtain ⟨m1,m2⟩:=eds_mem hx
 obtain ⟨_,_,g,n⟩:=h ps hps
 have n:=n x hx
 unfold ends1 at he
 rcases List.mem_append.mp he with he | he
 ·by_cases z:x.1=p
  ·rw [if_pos z] at he
   rw [List.mem_singleton.mp he]
   exact ⟨g _ m2,by rw [← z]; exact fun q=>n q.symm⟩
  ·rw [if_neg z] at he; cases he
 ·by_cases z:x.2=p
  ·rw [if_pos z] at he
   rw [List.mem_singleton.mp he]
   exact ⟨g _ m1,by rw [← z]; exact n⟩
  ·rw [if_neg z] at he; cases he
theorem noted_in {p:P3} {rs qs:List (List P3)} (hr:∀ ps∈rs,RgN ps) (hq:∀ ps∈qs,RgN ps):∀ e∈noted rs qs p,GP 900 e.1∧e.1≠p:=fun e he=>by
 rcases List.mem_append.mp he with he | he
 ·exact ends_in hr e he
 ·exact ends_in hq e he
theorem noted_len (p:P3) (rs qs:List (List P3)):(noted rs qs p).length≤2 * (rs.map List.length).sum + 2 * (qs.map List.length).sum:=by
 have a1:=endsR_len 1 p rs
 have a2:=endsR_len (-1) p qs
 unfold noted
 rw [List.length_append]
 omega
theorem noted_at {p:P3} {rs qs:List (List P3)} (hr:∀ ps∈rs,RgN ps) (hq:∀ ps∈qs,RgN ps) (h:noted rs qs p≠[]):GP 900 p:=by
 obtain ⟨e,he⟩:=List.exists_mem_of_ne_nil _ h
 have go:∀ {s:Int} {rs:List (List P3)},(∀ ps∈rs,RgN ps)→e∈endsR s p rs→GP 900 p:=fun {s rs} h he=>by
  obtain ⟨ps,hps,he⟩:=List.mem_flatMap.mp he
  obtain ⟨x,hx,he⟩:=List.mem_flatMap.mp he
  obtain ⟨m1,m2⟩:=eds_mem ((fwd_perm ps).mem_iff.mp hx)
  obtain ⟨_,_,g,_⟩:=h ps hps
  unfold ends1 at he
  rcases List.mem_append.mp he with he | he
  ·by_cases z:x.1=p
   ·rw [← z]; exact g _ m1
   ·rw [if_neg z] at he; cases he
  ·by_cases z:x.2=p
   ·rw [← z]; exact g _ m2
   ·rw [if_neg z] at he; cases he
 rcases List.mem_append.mp he with he | he
 ·exact go hr he
 ·exact go hq he
theorem prD_P (C:P3→List En):∀ ps:List P3,prD false (ps.map kP) ((ps.map fun p=>(C p).map dE).map D.lst)=ps.map fun p=>.tup [dP p,.lst ((C p).map dE)]
 | []=>rfl
 | p :: ps=>by
  show .tup [keyD false (kP p),.lst ((C p).map dE)] :: prD false (ps.map kP) ((ps.map fun p=>(C p).map dE).map D.lst)=_
  rw [prD_P C ps]
  rfl
def IsTri (ps:List P3):Prop:=∃ a b c,ps=[a,b,c]∧0 < det3 a b c
def ledP (t:Bool) (g p:P3):P3:=nP (sld g (if t=true then trn p else p))
def ledR (s:Piece):List P3:=s.1.map fun p=>ledP s.2.1 s.2.2 p
def IsPlan (one other:List (List P3)) (ms:List Piece) (t:Bool):Prop:=(∀ s∈ms,IsTri s.1∧(s.2.1=true→t=true))∧Bal (ms.map fun s=>s.1) one∧Bal (ms.map ledR) other
theorem tri_ne {a b c:P3} (h:0 < det3 a b c):a≠b∧b≠c∧c≠a:=by
 refine ⟨?_,?_,?_⟩ <;> rintro rfl <;> unfold det3 crs at h <;> dsimp only at h <;> grind
theorem tri_rg {ps:List P3} (h:IsTri ps) (g:∀ p∈ps,GP 900 p):RgN ps:=by
 obtain ⟨a,b,c,rfl,h⟩:=h
 obtain ⟨n1,n2,n3⟩:=tri_ne h
 refine ⟨by simp,by simp,g,fun e he=>?_⟩
 have:eds [a,b,c]=[(c,a),(a,b),(b,c)]:=rfl
 rw [this] at he
 simp at he
 rcases he with rfl | rfl | rfl
 ·exact n3
 ·exact n1
 ·exact n2
theorem led_tri {s:Piece} (h:IsTri s.1) (hp:∀ p∈s.1,PtP p) (hs:PtP s.2.2):IsTri (ledR s):=by
 obtain ⟨a,b,c,e,h⟩:=h
 unfold ledR
 rw [e] at hp ⊢
 refine ⟨_,_,_,rfl,?_⟩
 have ha:=hp a (by simp)
 have hb:=hp b (by simp)
 have hc:=hp c (by simp)
 apply sg_one
 cases s.2.1 with
 | true =>
  show sg (det3 (nP (sld s.2.2 (trn a))) (nP (sld s.2.2 (trn b))) (nP (sld s.2.2 (trn c))))=1
  rw [(lin_sld hs.1).side ha.trn.1 hb.trn.1 hc.trn.1,sg_trn ha hb hc]
  exact sg_pos h
 | false =>
  show sg (det3 (nP (sld s.2.2 a)) (nP (sld s.2.2 b)) (nP (sld s.2.2 c)))=1
  rw [(lin_sld hs.1).side ha.1 hb.1 hc.1]
  exact sg_pos h
theorem led_gp {t:Bool} {m:Nat} {g p:P3} (hp:GP m p) (hg:GP 90 g) (hm:m≤800:=by decide):GP 900 (ledP t g p):=by
 unfold ledP
 cases t with
 | true=>rw [if_pos rfl]; exact (hg.sl hp.trn).mono (by omega)
 | false=>rw [if_neg Bool.false_ne_true]; exact (hg.sl hp).mono (by omega)
end Cut
namespace Cut
open PySem L2 L3
open PySem.Builtin.Int (intBits)
def BxP (p:P3):Prop:=0≤rX p∧rX p≤5∧0≤rY p∧rY p≤5
def wq:List Int→List Rat→Rat
 | w :: ws,x :: xs=>(w:Rat) * x + wq ws xs
 | _,_=>0
theorem wq_snoc (w:Int) (x:Rat):∀ (ws:List Int) (xs:List Rat),ws.length=xs.length→wq (ws ++ [w]) (xs ++ [x])=wq ws xs + (w:Rat) * x
 | [],[],_=>by simp only [List.nil_append,wq]; grind
 | [],_ :: _,h=>by simp at h
 | _ :: _,[],h=>by simp at h
 | a :: ws,b :: xs,h=>by
  simp only [List.cons_append,wq]
  rw [wq_snoc w x ws xs (by simpa using h)]
  grind
def MixR (ps:List P3) (p:P3):Prop:=∃ ws:List Int,ws.length=ps.length∧(∀ w∈ws,0 < w)∧(ws.sum:Rat) * rX p=wq ws (ps.map rX)∧(ws.sum:Rat) * rY p=wq ws (ps.map rY)
def lnR (l p:P3):Rat:=(l.1:Rat) * rX p + (l.2.1:Rat) * rY p + (l.2.2:Rat)
theorem ln_lnR {l p:P3} (h:0 < p.2.2):((ln l p:Int):Rat)=(p.2.2:Rat) * lnR l p:=by
 have n:=pos_ne h
 unfold lnR rX rY ln
 rw [Rat.intCast_add,Rat.intCast_add,Rat.intCast_mul,Rat.intCast_mul,Rat.intCast_mul]
 grind
theorem rpos {x:Int}:0 < (x:Rat)↔0 < x:=by exact_mod_cast Iff.rfl
theorem rnn {x:Int}:0≤(x:Rat)↔0≤x:=by exact_mod_cast Iff.rfl
theorem lnR_pos {l p:P3} (h:0 < p.2.2):0 < lnR l p↔0 < ln l p:=by
 rw [← rpos (x:=ln l p),ln_lnR h]
 have n:=rpos.mpr h
 constructor
 ·intro z; exact Rat.mul_pos n z
 ·intro z
  by_cases q:0 < lnR l p
  ·exact q
  ·have:lnR l p≤0:=Rat.not_lt.mp q
   have:(p.2.2:Rat) * lnR l p≤0:=by
    have:=Rat.mul_le_mul_of_nonneg_left this (Rat.le_of_lt n)
    grind
   grind
theorem lnR_nn {l p:P3} (h:0 < p.2.2):0≤lnR l p↔0≤ln l p:=by
 rw [← rnn (x:=ln l p),ln_lnR h]
 have n:=rpos.mpr h
 constructor
 ·intro z
  have:=Rat.mul_le_mul_of_nonneg_left z (Rat.le_of_lt n)
  grind
 ·intro z
  by_cases q:0≤lnR l p
  ·exact q
  ·have:lnR l p < 0:=Rat.not_le.mp q
   have:0 < (p.2.2:Rat) * (-lnR l p):=Rat.mul_pos n (by grind)
   grind
theorem wq_ln (l:P3):∀ (ws:List Int) (ps:List P3),ws.length=ps.length→wq ws (ps.map (lnR l))=(l.1:Rat) * wq ws (ps.map rX) + (l.2.1:Rat) * wq ws (ps.map rY) + (l.2.2:Rat) * (ws.sum:Rat)
 | [],[],_=>by simp only [List.map_nil,wq,List.sum_nil]; grind
 | [],_ :: _,h=>by simp at h
 | _ :: _,[],h=>by simp at h
 | w :: ws,p :: ps,h=>by
  simp only [List.map_cons,wq,List.sum_cons]
  rw [wq_ln l ws ps (by simpa using h),Rat.intCast_add]
  unfold lnR
  grind
theorem wq_nn:∀ {ws:List Int} {xs:List Rat},(∀ w∈ws,0 < w)→(∀ x∈xs,0≤x)→0≤wq ws xs
 | [],_,_,_=>by simp only [wq]; grind
 | _ :: _,[],_,_=>by simp only [wq]; grind
 | w :: ws,x :: xs,h1,h2=>by
  simp only [wq]
  have a:=wq_nn (ws:=ws) (xs:=xs) (fun y hy=>h1 y (List.mem_cons_of_mem _ hy)) fun y hy=>h2 y (List.mem_cons_of_mem _ hy)
  have b:=Rat.mul_nonneg (Rat.le_of_lt (rpos.mpr (h1 w List.mem_cons_self))) (h2 x List.mem_cons_self)
  grind
theorem wq_pos:∀ {ws:List Int} {xs:List Rat},ws.length=xs.length→(∀ w∈ws,0 < w)→(∀ x∈xs,0≤x)→(∃ x∈xs,0 < x)→0 < wq ws xs
 | _,[],_,_,_,h=>by obtain ⟨_,z,_⟩:=h; cases z
 | [],_ :: _,h,_,_,_=>by simp at h
 | w :: ws,x :: xs,hl,h1,h2,h3=>by
  simp only [wq]
  have g1:∀ y∈ws,0 < y:=fun y hy=>h1 y (List.mem_cons_of_mem _ hy)
  have g2:∀ y∈xs,0≤y:=fun y hy=>h2 y (List.mem_cons_of_mem _ hy)
  have w0:=rpos.mpr (h1 w List.mem_cons_self)
  by_cases z:0 < x
  ·have a:=wq_nn g1 g2
   have b:=Rat.mul_pos w0 z
   grind
  ·obtain ⟨y,hy,y0⟩:=h3
   rcases List.mem_cons.mp hy with rfl | hy
   ·exact absurd y0 z
   ·have a:=wq_pos (by simpa using hl) g1 g2 ⟨y,hy,y0⟩
    have b:=Rat.mul_nonneg (Rat.le_of_lt w0) (h2 x List.mem_cons_self)
    grind
theorem sum_pos:∀ {ws:List Int},ws≠[]→(∀ w∈ws,0 < w)→0 < ws.sum
 | [],h,_=>absurd rfl h
 | [w],_,h=>by simp; exact h w List.mem_cons_self
 | w :: v :: ws,_,h=>by
  have:=sum_pos (ws:=v :: ws) (by simp) fun y hy=>h y (List.mem_cons_of_mem _ hy)
  have:=h w List.mem_cons_self
  rw [List.sum_cons]; omega
theorem MixR.eq {ps:List P3} {p:P3} (h:MixR ps p) (l:P3):∃ ws:List Int,ws.length=ps.length∧(∀ w∈ws,0 < w)∧(ws.sum:Rat) * lnR l p=wq ws (ps.map (lnR l)):=by
 obtain ⟨ws,h1,h2,h3,h4⟩:=h
 refine ⟨ws,h1,h2,?_⟩
 rw [wq_ln l ws ps h1,← h3,← h4]
 unfold lnR
 grind
theorem MixR.pos {ps:List P3} {p l:P3} (h:MixR ps p) (hp:0 < p.2.2) (hs:∀ q∈ps,0 < q.2.2) (h1:∀ q∈ps,0≤ln l q) (h2:∃ q∈ps,0 < ln l q):0 < ln l p:=by
 obtain ⟨ws,l1,l2,e⟩:=h.eq l
 rw [← lnR_pos hp]
 have a:0 < wq ws (ps.map (lnR l)):=wq_pos (by rw [List.length_map]; exact l1) l2 (fun x hx=>by
  obtain ⟨q,hq,rfl⟩:=List.mem_map.mp hx
  exact (lnR_nn (hs q hq)).mpr (h1 q hq)) (by
  obtain ⟨q,hq,q0⟩:=h2
  exact ⟨_,List.mem_map.mpr ⟨q,hq,rfl⟩,(lnR_pos (hs q hq)).mpr q0⟩)
 rw [← e] at a
 have ne:ws≠[]:=by
  rintro rfl
  obtain ⟨q,hq,_⟩:=h2
  cases ps with
  | nil=>cases hq
  | cons _ _=>simp at l1
 have s:=rpos.mpr (sum_pos ne l2)
 by_cases z:0 < lnR l p
 ·exact z
 ·have:0≤(ws.sum:Rat) * (-lnR l p):=Rat.mul_nonneg (Rat.le_of_lt s) (by grind)
  grind
theorem MixR.ge {ps:List P3} {p l:P3} (h:MixR ps p) (hp:0 < p.2.2) (hs:∀ q∈ps,0 < q.2.2) (ne:ps≠[]) (h1:∀ q∈ps,0≤lnR l q):0≤lnR l p:=by
 obtain ⟨ws,l1,l2,e⟩:=h.eq l
 have a:0≤wq ws (ps.map (lnR l)):=wq_nn l2 (fun x hx=>by
  obtain ⟨q,hq,rfl⟩:=List.mem_map.mp hx
  exact h1 q hq)
 rw [← e] at a
 have ne:ws≠[]:=by
  rintro rfl
  cases ps with
  | nil=>exact ne rfl
  | cons _ _=>simp at l1
 have s:=rpos.mpr (sum_pos ne l2)
 by_cases z:0≤lnR l p
 ·exact z
 ·have:0 < (ws.sum:Rat) * (-lnR l p):=Rat.mul_pos s (by grind)
  grind
theorem MixR.box {ps:List P3} {p:P3} (h:MixR ps p) (hp:0 < p.2.2) (hs:∀ q∈ps,0 < q.2.2) (ne:ps≠[]) (hb:∀ q∈ps,BxP q):BxP p:=by
 have c0:((0:Int):Rat)=0:=rfl
 have c1:((1:Int):Rat)=1:=rfl
 have cm:((-1:Int):Rat) = -1:=rfl
 have c5:((5:Int):Rat)=5:=rfl
 have a1:=h.ge (l:=(1,0,0)) hp hs ne fun q hq=>by have:=(hb q hq).1; unfold lnR; dsimp only; rw [c0,c1]; grind
 have a2:=h.ge (l:=(-1,0,5)) hp hs ne fun q hq=>by have:=(hb q hq).2.1; unfold lnR; dsimp only; rw [c0,cm,c5]; grind
 have a3:=h.ge (l:=(0,1,0)) hp hs ne fun q hq=>by have:=(hb q hq).2.2.1; unfold lnR; dsimp only; rw [c0,c1]; grind
 have a4:=h.ge (l:=(0,-1,5)) hp hs ne fun q hq=>by have:=(hb q hq).2.2.2; unfold lnR; dsimp only; rw [c0,cm,c5]; grind
 unfold lnR at a1 a2 a3 a4
 dsimp only at a1 a2 a3 a4
 rw [c0,c1] at a1
 rw [c0,cm,c5] at a2
 rw [c0,c1] at a3
 rw [c0,cm,c5] at a4
 refine ⟨?_,?_,?_,?_⟩ <;> grind
def fanT (p:P3) (ps:List P3):List (List P3):=(eds ps).map fun e=>[p,e.1,e.2]
theorem fan_pos {ps:List P3} {p:P3} (hc:Cvx ps) (hp:0 < p.2.2) (hs:∀ q∈ps,0 < q.2.2) (h:MixR ps p):∀ e∈eds ps,0 < det3 p e.1 e.2:=fun e he=>by
 obtain ⟨a,b⟩:=eds_gt ((t0_iff ps).mpr hc.tri) hc.1 he
 have:=h.pos (l:=crs e.1 e.2) hp hs (fun q hq=>a q hq) b
 rw [← d_cyc]
 exact this
theorem sG_swap {φ:List (List Int)→Int} {u v:P3} (hu:PtP u) (hv:PtP v):sG φ v u = -sG φ u v:=by
 unfold sG kE
 rw [lnK_swap hu hv]
 grind
theorem sR3 (φ:List (List Int)→Int) (a b c:P3):sR φ [a,b,c]=sG φ c a + sG φ a b + sG φ b c:=by
 unfold sR
 have:eds [a,b,c]=[(c,a),(a,b),(b,c)]:=rfl
 rw [this,sumT_cons,sumT_cons,sumT_cons,sumT_nil]
 grind
theorem fan_sum {φ:List (List Int)→Int} {p:P3} (hp:PtP p):∀ {es:List (P3×P3)},(∀ e∈es,PtP e.1∧PtP e.2)→sRs φ (es.map fun e=>[p,e.1,e.2])=sumT (sG φ) es + sumT (fun a b=>sG φ p a - sG φ p b) es
 | [],_=>by rw [sumT_nil,sumT_nil]; show (0:Rat)=_; grind
 | e :: es,h=>by
  obtain ⟨h1,h2⟩:=h e List.mem_cons_self
  rw [List.map_cons,sRs_cons,fan_sum hp fun x hx=>h x (List.mem_cons_of_mem _ hx),sR3,sumT_cons,sumT_cons,sG_swap hp h2]
  grind
theorem fan_bal {ps:List P3} {p:P3} (hp:PtP p) (hs:∀ q∈ps,PtP q):Bal (fanT p ps) [ps]:=fun φ=>by
 unfold fanT
 rw [fan_sum hp fun e he=>by obtain ⟨a,b⟩:=eds_mem he; exact ⟨hs _ a,hs _ b⟩,tele0,sRs_cons]
 show sumT (sG φ) (eds ps) + 0=sumT (sG φ) (eds ps) + sRs φ []
 have:sRs φ []=0:=rfl
 grind
theorem Bal.refl (rs:List (List P3)):Bal rs rs:=fun _=>rfl
theorem Bal.app {a b c d:List (List P3)} (h:Bal a b) (g:Bal c d):Bal (a ++ c) (b ++ d):=fun φ=>by rw [sRs_app,sRs_app,h φ,g φ]
theorem tri_cvx {ps:List P3} (h:IsTri ps):Cvx ps:=by
 obtain ⟨a,b,c,rfl,h⟩:=h
 exact cvx3 (sg_pos h)
end Cut
namespace L3
open PySem L2
section
variable {X:Cx} {a b:Expr} {ua ub:UE} {pos:Pos}
theorem op_isnotB:OpR X (compareOp .IsNot) (fun x y H Q=>∃ c d,x=.bl c∧y=.bl d∧Q (.bl (!(c == d))) H):=by
 intro pins s σ H x y v u Q I rx ry h
 obtain ⟨c,d,rfl,rfl,q⟩:=h
 cases rx
 cases ry
 refine wpAny_isNot_plain (by cases c <;> cases d <;> rfl) (fin_bl I q ?_)
 cases c <;> cases d <;> rfl
def uIsnB (ua ub:UE):UE:=fun ρ k=>ua ρ fun x=>ub ρ fun y=>∃ c d,x=.bl c∧y=.bl d∧k (.bl (!(c == d)))
theorem refIsnB {K:PySem.W.Frag} {ta tb:TE} (ha:RefE K ta ua) (hb:RefE K tb ub):RefE K (tOp (fun x y H Q=>∃ c d,x=.bl c∧y=.bl d∧Q (.bl (!(c == d))) H) ta tb) (uIsnB ua ub) :=
 ref2 (f:=fun x y k=>∃ c d,x=.bl c∧y=.bl d∧k (.bl (!(c == d)))) ha hb fun x y k h R W B H σ ρ v w Q e rx ry q=>by
  obtain ⟨c,d,rfl,rfl,hk⟩:=h
  exact ⟨c,d,rx.blV,ry.blV,q _ _ B H hk e (Grow.refl _ _) (.bl _)⟩
theorem t_isnB (ha:PE3 X a ua) (hb:PE3 X b ub) (hm:behindInMarks .IsNot b=false):PT3 X (.Compare a [.IsNot] [b] pos) (uB (uIsnB ua ub)):=by
 obtain ⟨_,h1,r1⟩:=ha; obtain ⟨_,h2,r2⟩:=hb
 exact ⟨_,pt_cmpR op_isnotB h1 h2 hm,refB (refIsnB r1 r2)⟩
end
end L3
namespace Cut
open PySem L2 L3
open PySem.Builtin.Int (intBits)
section
variable (Φ:List (List Int)→Rat)
def vS (l:List (List (List Int)×Int)):Rat:=(l.map fun x=>(x.2:Rat) * Φ x.1).sum
theorem vS_split (k:List (List Int)):∀ l:List (List (List Int)×Int),vS Φ l=Φ k * ((wC k l:Int):Rat) + vS Φ (l.filter fun x => !decide (k=x.1))
 | []=>by show (0:Rat)=Φ k * ((0:Int):Rat) + 0; have:((0:Int):Rat)=0:=rfl; rw [this]; grind
 | x :: l=>by
  have ih:=vS_split k l
  unfold vS wC at ih ⊢
  rw [List.map_cons,List.sum_cons,List.map_cons,List.sum_cons,List.filter_cons,Rat.intCast_add]
  by_cases e:k=x.1
  ·rw [decide_eq_true e,if_pos e,if_neg (show ¬ (!true)=true by decide),ih,e]; grind
  ·have z:((0:Int):Rat)=0:=rfl
   rw [decide_eq_false e,if_neg e,if_pos (show (!false)=true by decide),List.map_cons,List.sum_cons,ih,z]; grind
theorem vS_zero:∀ (n:Nat) (l:List (List (List Int)×Int)),l.length≤n→(∀ key,wC key l=0)→vS Φ l=0
 | 0,l,h,_=>by cases l with | nil=>rfl | cons x l=>simp at h
 | n + 1,[],_,_=>rfl
 | n + 1,x :: l,h,hz=>by
  rw [vS_split Φ x.1,hz x.1]
  have len:((x :: l).filter fun y => !decide (x.1=y.1)).length≤n:=by
   rw [List.filter_cons,decide_eq_true rfl,if_neg (by simp)]
   have:=List.length_filter_le (fun y => !decide (x.1=y.1)) l
   rw [List.length_cons] at h
   omega
  rw [vS_zero n _ len fun key=>by
   by_cases e:key=x.1
   ·exact wC_none e _
   ·rw [wC_filter e]; exact hz key]
  have z:((0:Int):Rat)=0:=rfl
  rw [z]; grind
def vG (p q:P3):Rat:=Φ (kE p q p) - Φ (kE p q q)
def vR (ps:List P3):Rat:=sumT (vG Φ) (eds ps)
def vRs (rs:List (List P3)):Rat:=(rs.map (vR Φ)).sum
theorem vS_app (a b:List (List (List Int)×Int)):vS Φ (a ++ b)=vS Φ a + vS Φ b:=by unfold vS; rw [List.map_append,List.sum_append]
theorem vS_E (s:Int):∀ es:List (P3×P3),vS Φ (wE s es)=(s:Rat) * sumT (vG Φ) es
 | []=>by show (0:Rat)=s * sumT (vG Φ) []; rw [sumT_nil]; grind
 | e :: es=>by
  show vS Φ ([(kE e.1 e.2 e.1,s),(kE e.1 e.2 e.2,-s)] ++ wE s es)=_
  rw [vS_app,sumT_cons,vS_E s es]
  have a:vS Φ [(kE e.1 e.2 e.1,s),(kE e.1 e.2 e.2,-s)]=(s:Rat) * Φ (kE e.1 e.2 e.1) - (s:Rat) * Φ (kE e.1 e.2 e.2):=by
   unfold vS
   rw [List.map_cons,List.sum_cons,List.map_cons,List.sum_cons,List.map_nil,List.sum_nil]
   dsimp only
   rw [Rat.intCast_neg]
   grind
  rw [a]
  unfold vG
  grind
theorem vS_R (s:Int):∀ rs:List (List P3),vS Φ (wR s rs)=(s:Rat) * vRs Φ rs
 | []=>by show (0:Rat)=s * ([]:List Rat).sum; rw [List.sum_nil]; grind
 | ps :: rs=>by
  show vS Φ (wE s (eds ps) ++ wR s rs)=s * ((ps :: rs).map _).sum
  rw [vS_app,vS_E,vS_R s rs,List.map_cons,List.sum_cons]
  show (s:Rat) * vR Φ ps + s * (rs.map _).sum=_
  grind
theorem bal_rat {rs qs:List (List P3)} (h:Bal rs qs):vRs Φ rs=vRs Φ qs:=by
 have z:=vS_zero Φ _ (wR 1 rs ++ wR (-1) qs) (Nat.le_refl _) fun key=>by
  rw [wC_app,wC_R,wC_R,cnR_bal h key]; omega
 rw [vS_app,vS_R,vS_R] at z
 have e1:((1:Int):Rat)=1:=rfl
 have e2:((-1:Int):Rat) = -1:=rfl
 rw [e1,e2] at z
 grind
theorem vRs_cons (ps:List P3) (rs:List (List P3)):vRs Φ (ps :: rs)=vR Φ ps + vRs Φ rs:=by unfold vRs; rw [List.map_cons,List.sum_cons]
end
def fA (L q:P3):Rat:=if L.2.1≠0 then -((L.2.2:Rat) / L.2.1) * rX q else ((L.2.2:Rat) / L.1) * rY q
theorem lnK_at {p q:P3} (hp:PtP p) (hq:PtP q) (h:p≠q):ln (lnK p q) p=0∧ln (lnK p q) q=0:=by
 have e:=crs_oft (p:=p) (q:=q)
 have o:=oft_ne (crs_ne hp hq h)
 have a1:ln (crs p q) p=0:=by show (crs p q).1 * p.1 + (crs p q).2.1 * p.2.1 + (crs p q).2.2 * p.2.2=0; unfold crs; dsimp only; grind
 have a2:ln (crs p q) q=0:=by show (crs p q).1 * q.1 + (crs p q).2.1 * q.2.1 + (crs p q).2.2 * q.2.2=0; unfold crs; dsimp only; grind
 rw [e] at a1 a2
 have s:∀ x,ln (sc (oftL (crs p q)) (lnK p q)) x=oftL (crs p q) * ln (lnK p q) x:=fun x=>by unfold ln sc; dsimp only; grind
 rw [s] at a1 a2
 exact ⟨(Int.mul_eq_zero.mp a1).resolve_left o,(Int.mul_eq_zero.mp a2).resolve_left o⟩
theorem ratz {x:Int}:(x:Rat)=0↔x=0:=by exact_mod_cast Iff.rfl
theorem fA_side {p q:P3} (hp:PtP p) (hq:PtP q) (h:p≠q):fA (lnK p q) p - fA (lnK p q) q=crR p q:=by
 obtain ⟨a1,a2⟩:=lnK_at hp hq h
 have b1:=ln_R hp.1 a1
 have b2:=ln_R hq.1 a2
 have ne:=lnK_ne hp hq h
 generalize lnK p q=L at b1 b2 ne
 unfold fA crR
 generalize rX p=x1 at *
 generalize rY p=y1 at *
 generalize rX q=x2 at *
 generalize rY q=y2 at *
 by_cases z:L.2.1≠0
 ·rw [if_pos z,if_pos z]
  have z':(L.2.1:Rat)≠0:=fun w=>z (ratz.mp w)
  generalize (L.1:Rat)=a at *
  generalize (L.2.1:Rat)=b at *
  generalize (L.2.2:Rat)=c at *
  have e1:y1 = -(a * x1 + c) / b:=by grind
  have e2:y2 = -(a * x2 + c) / b:=by grind
  rw [e1,e2]
  grind
 ·rw [if_neg z,if_neg z]
  have z0:L.2.1=0:=Decidable.not_not.mp z
  have n1:L.1≠0:=ne.resolve_right fun w=>w z0
  have z':(L.1:Rat)≠0:=fun w=>n1 (ratz.mp w)
  have b0:(L.2.1:Rat)=0:=ratz.mpr z0
  rw [b0] at b1 b2
  generalize (L.1:Rat)=a at *
  generalize (L.2.2:Rat)=c at *
  have e1:x1 = -c / a:=by grind
  have e2:x2 = -c / a:=by grind
  rw [e1,e2]
  grind
def pA (P:P3→Bool):List (List Int)→Rat
 | [l,x]=>if P (toP x)=true then fA (toP l) (toP x) else 0
 | _=>0
theorem pA_kE (P:P3→Bool) (p q x:P3):pA P (kE p q x)=if P x=true then fA (lnK p q) x else 0:=rfl
theorem pA_in {P:P3→Bool} {ps:List P3} (hp:∀ p∈ps,PtP p) (h:∀ p∈ps,P p=true):vR (pA P) ps=areaR ps:=by
 unfold vR areaR
 refine sumT_congr fun e he=>?_
 obtain ⟨m1,m2⟩:=eds_mem he
 unfold vG
 rw [pA_kE,pA_kE,if_pos (h _ m1),if_pos (h _ m2)]
 by_cases z:e.1=e.2
 ·rw [z]; unfold crR; grind
 ·exact fA_side (hp _ m1) (hp _ m2) z
def areaRs (rs:List (List P3)):Rat:=(rs.map areaR).sum
theorem bal_area {rs qs:List (List P3)} (h:Bal rs qs) (hr:∀ ps∈rs,∀ p∈ps,PtP p) (hq:∀ ps∈qs,∀ p∈ps,PtP p):areaRs rs=areaRs qs:=by
 have e:∀ rs:List (List P3),(∀ ps∈rs,∀ p∈ps,PtP p)→vRs (pA fun _=>true) rs=areaRs rs:=fun rs hr=>by
  unfold vRs areaRs
  congr 1
  exact List.map_congr_left fun ps hps=>pA_in (hr ps hps) fun _ _=>rfl
 rw [← e rs hr,← e qs hq]
 exact bal_rat _ h
theorem tr_sign {o p q:P3} (ho:PtP o) (hp:PtP p) (hq:PtP q):(0≤det3 o p q→0≤trR o p q)∧(0 < det3 o p q→0 < trR o p q):=by
 obtain ⟨k,k0,e⟩:=det_R (p:=o) (q:=p) (r:=q) ⟨ho,rfl,rfl⟩ ⟨hp,rfl,rfl⟩ ⟨hq,rfl,rfl⟩
 have t:(rX p - rX o) * (rY q - rY o) - (rY p - rY o) * (rX q - rX o)=trR o p q:=rfl
 rw [t] at e
 constructor
 ·intro h
  have h:=rnn.mpr h
  rw [e] at h
  by_cases z:0≤trR o p q
  ·exact z
  ·have:=Rat.mul_pos k0 (show 0 < -trR o p q by grind)
   grind
 ·intro h
  have h:=rpos.mpr h
  rw [e] at h
  by_cases z:0 < trR o p q
  ·exact z
  ·have:=Rat.mul_nonneg (Rat.le_of_lt k0) (show 0 ≤ -trR o p q by grind)
   grind
end Cut
namespace Cut
open PySem L2 L3
open PySem.Builtin.Int (intBits)
def GB (p:P3):Prop:=GP 6 p∧BxP p
theorem rat_le {x y n:Int} (n0:0 < n) (h:x≤y * n):(x:Rat) / n≤y:=by
 have a:(0:Rat) < (n:Rat):=rpos.mpr n0
 have b:(x:Rat)≤(y:Rat) * n:=by rw [← Rat.intCast_mul]; exact_mod_cast h
 rw [Rat.div_def]
 have c:=Rat.mul_le_mul_of_nonneg_right b (Rat.le_of_lt (Rat.inv_pos.mpr a))
 have e:(y:Rat) * n * (n:Rat)⁻¹=y:=by rw [Rat.mul_assoc,Rat.mul_inv_cancel _ (pos_ne n0),Rat.mul_one]
 rw [e] at c
 exact c
theorem rat_ge {x n:Int} (n0:0 < n) (h:0≤x):0≤(x:Rat) / n:=by
 rw [Rat.div_def]
 exact Rat.mul_nonneg (rnn.mpr h) (Rat.le_of_lt (Rat.inv_pos.mpr (rpos.mpr n0)))
theorem box_of {a b n:Int} (n0:0 < n) (a0:0≤a) (a1:a≤5 * n) (b0:0≤b) (b1:b≤5 * n):BxP (a,b,n):=⟨rat_ge n0 a0,rat_le n0 a1,rat_ge n0 b0,rat_le n0 b1⟩
theorem box_nP {a b n:Int} (n0:0 < n) (a0:0≤a) (a1:a≤5 * n) (b0:0≤b) (b1:b≤5 * n):BxP (nP (a,b,n)):=by
 have e:=rX_nP (p:=(a,b,n)) n0
 have f:rY (nP (a,b,n))=rY (a,b,n):=(isPt_npt (a:=a) (b:=b) n0).2.2
 obtain ⟨h1,h2,h3,h4⟩:=box_of n0 a0 a1 b0 b1
 unfold BxP
 rw [e,f]
 exact ⟨h1,h2,h3,h4⟩
theorem eds_len (ps:List P3):(eds ps).length=ps.length:=by
 unfold eds
 generalize lz (0,0,1) ps=z
 induction ps generalizing z with
 | nil=>rfl
 | cons a r ih=>show (prZ a r).length + 1=_; rw [ih]; rfl
theorem fan_len (p:P3) (ps:List P3):(fanT p ps).length=ps.length:=by unfold fanT; rw [List.length_map,eds_len]
def StepsOk (ms:List Piece):Prop:=∀ (k:Nat) (s:Piece),ms[k]?=some s→∃ d e:Int,s.2.2=(60 * k + d,e,1)∧0≤d∧d≤8 ∧ -20≤e∧e≤20
theorem cvx_rgN {ps:List P3} (cv:Cvx ps) (hl:ps.length≤75) (g:∀ p∈ps,GP 900 p):RgN ps:=by
 refine ⟨by have:=cv.1; omega,hl,g,fun e he=>?_⟩
 obtain ⟨_,x,_,hx⟩:=eds_gt ((t0_iff ps).mpr cv.tri) cv.1 he
 intro z
 rw [z,d_same] at hx
 omega
theorem led_pt {t:Bool} {g p:P3} (hg:PtP g) (hp:PtP p):PtP (ledP t g p):=by
 unfold ledP
 cases t with
 | true=>rw [if_pos rfl]; exact hg.sld hp.trn
 | false=>rw [if_neg Bool.false_ne_true]; exact hg.sld hp
theorem led_rX {t:Bool} {g p:P3} (hg:PtP g) (hp:PtP p):rX (ledP t g p)=(if t=true then -rX p else rX p) + rX g∧rY (ledP t g p)=(if t=true then -rY p else rY p) + rY g:=by
 cases t with
 | false =>
  rw [if_neg Bool.false_ne_true,if_neg Bool.false_ne_true]
  have:=isPt_sl (g:=g) (p:=p) ⟨hg,rfl,rfl⟩ ⟨hp,rfl,rfl⟩
  exact this.2
 | true =>
  rw [if_pos rfl,if_pos rfl]
  have e1:rX (trn p) = -rX p:=by
   show (((-p.1:Int):Rat)) / (p.2.2:Rat) = -((p.1:Rat) / p.2.2)
   rw [Rat.intCast_neg]; grind
  have e2:rY (trn p) = -rY p:=by
   show (((-p.2.1:Int):Rat)) / (p.2.2:Rat) = -((p.2.1:Rat) / p.2.2)
   rw [Rat.intCast_neg]; grind
  have:=isPt_sl (g:=g) (p:=trn p) ⟨hg,rfl,rfl⟩ ⟨hp.trn,e1,e2⟩
  exact this.2
end Cut
namespace Cut
open PySem L2 L3
open PySem.Builtin.Int (intBits)
end Cut
namespace Cut
open PySem L2 L3
open PySem.Builtin.Int (intBits)
theorem sumT3 (T:P3→P3→Rat) (a b c:P3):sumT T (eds [a,b,c])=T c a + T a b + T b c:=by
 have:eds [a,b,c]=[(c,a),(a,b),(b,c)]:=rfl
 rw [this,sumT_cons,sumT_cons,sumT_cons,sumT_nil]
 grind
end Cut
namespace L2
open PySem PySem.Spec PyProof.Rows PySem.W
section
variable {X:Cx}
end
end L2
namespace L3
open PySem L2
section
variable {X:Cx} {e:Expr} {u:UE} {pos p:Pos}
end
end L3
namespace Cut
open PySem L2 L3
open PySem.Builtin.Int (intBits)
def backS (s:Piece):Piece:=(ledR s,s.2.1,if s.2.1=true then s.2.2 else trn s.2.2)
theorem rX_trn (p:P3):rX (trn p) = -rX p∧rY (trn p) = -rY p:=by
 constructor
 ·show (((-p.1:Int):Rat)) / (p.2.2:Rat) = -((p.1:Rat) / p.2.2)
  rw [Rat.intCast_neg]; grind
 ·show (((-p.2.1:Int):Rat)) / (p.2.2:Rat) = -((p.2.1:Rat) / p.2.2)
  rw [Rat.intCast_neg]; grind
theorem led_there_back {t:Bool} {g p:P3} (hg:PtP g) (hp:PtP p):ledP t (if t=true then g else trn g) (ledP t g p)=p:=by
 have q:=led_pt (t:=t) hg hp
 have hb:PtP (if t=true then g else trn g):=by split; exact hg; exact hg.trn
 have e:=led_rX (t:=t) hb q
 have e0:=led_rX (t:=t) hg hp
 have r:=rX_trn g
 refine IsPt.eq (x:=rX p) (y:=rY p) ⟨led_pt hb q,?_,?_⟩ ⟨hp,rfl,rfl⟩
 ·rw [e.1,e0.1]
  cases t with
  | true=>simp only [if_true]; grind
  | false=>simp only [Bool.false_eq_true,if_false]; rw [r.1]; grind
 ·rw [e.2,e0.2]
  cases t with
  | true=>simp only [if_true]; grind
  | false=>simp only [Bool.false_eq_true,if_false]; rw [r.2]; grind
theorem led_back_ring {s:Piece} (hs:PtP s.2.2) (hp:∀ p∈s.1,PtP p):ledR (backS s)=s.1:=by
 show (s.1.map _).map _=s.1
 rw [List.map_map]
 conv=>rhs; rw [← List.map_id s.1]
 exact List.map_congr_left fun p h=>led_there_back hs (hp p h)
theorem back_plan {one other:List (List P3)} {ms:List Piece} {t:Bool} (hs:∀ s∈ms,PtP s.2.2∧∀ p∈s.1,PtP p) (h:IsPlan one other ms t):IsPlan other one (ms.map backS) t:=by
 obtain ⟨h1,h2,h3⟩:=h
 refine ⟨fun s h=>?_,?_,?_⟩
 ·obtain ⟨x,hx,rfl⟩:=List.mem_map.mp h
  exact ⟨led_tri (h1 x hx).1 (hs x hx).2 (hs x hx).1,(h1 x hx).2⟩
 ·rw [List.map_map]; exact h3
 ·rw [List.map_map]
  have:ms.map (ledR ∘ backS)=ms.map fun s=>s.1:=List.map_congr_left fun s h=>led_back_ring (hs s h).1 (hs s h).2
  rw [this]; exact h2
end Cut
namespace Cut
open PySem L2 L3
open PySem.Builtin.Int (intBits)
def StIn (o:P3) (r:List P3):Prop:=∀ e∈eds r,0 < det3 e.1 e.2 o
def DjR (r t:List P3):Prop:=∀ o,StIn o r→StIn o t→False
def Dj (rs:List (List P3)):Prop:=rs.Pairwise DjR
theorem prZ_sub:∀ {z:P3} {r:List P3} {f:P3×P3},f∈prZ z r→[f.1,f.2].Sublist (z :: r)
 | _,[],_,h=>by cases h
 | z,a :: r,f,h=>by
  rcases List.mem_cons.mp h with rfl | h
  ·exact .cons_cons _ (.cons_cons _ (List.nil_sublist _))
  ·exact .cons _ (prZ_sub h)
theorem prZ_two {z a:P3} {r:List P3} {f:P3×P3} (h:f∈prZ a r):f.1=a∨[z,a,f.1,f.2].Sublist (z :: a :: r):=by
 cases r with
 | nil=>cases h
 | cons b r =>
  rcases List.mem_cons.mp h with rfl | h
  ·exact .inl rfl
  ·exact .inr (.cons_cons _ (.cons_cons _ (prZ_sub h)))
theorem prZ_pw:∀ (z:P3) (r:List P3),(prZ z r).Pairwise fun e f=>e.2=f.1∨[e.1,e.2,f.1,f.2].Sublist (z :: r)
 | _,[]=>.nil
 | z,a :: r=>by
  refine .cons (fun f hf=>?_) ((prZ_pw a r).imp fun h=>h.imp id fun s=>.cons _ s)
  rcases prZ_two (z:=z) hf with h | h
  ·exact .inl h.symm
  ·exact .inr h
theorem st_sign {o p a b:P3} (h:StIn o [p,a,b]):ln (crs p o) a < 0∧0 < ln (crs p o) b:=by
 have e:eds [p,a,b]=[(b,p),(p,a),(a,b)]:=rfl
 have h1:=h (b,p) (by rw [e]; simp)
 have h2:=h (p,a) (by rw [e]; simp)
 dsimp only at h1 h2
 have e1:ln (crs p o) a = -det3 p a o:=by show det3 p o a=_; unfold det3 crs; grind
 have e2:ln (crs p o) b=det3 b p o:=by show det3 p o b=_; unfold det3 crs; grind
 rw [e1,e2]
 omega
theorem four_no {l a b c d:P3} (h:T0 [a,b,c,d]) (ha:ln l a < 0) (hb:0 < ln l b) (hc:ln l c < 0) (hd:0 < ln l d):False:=(alt (l:=l) h).2 ⟨ha,by omega,hc,by omega⟩
theorem fan_dj {ps:List P3} {p:P3} (cv:Cvx ps):Dj (fanT p ps):=by
 have t0:=(t0_iff ps).mpr cv.tri
 unfold Dj fanT
 rw [List.pairwise_map]
 cases ps with
 | nil=>exact .nil
 | cons a r =>
  have ee:eds (a :: r)=(lz a r,a) :: prZ a r:=rfl
  rw [ee]
  refine .cons (fun f hf o h1 h2=>?_) ((prZ_pw a r).imp_of_mem fun {e f} _ _ h o h1 h2=>?_)
  ·obtain ⟨s1,s2⟩:=st_sign h1
   obtain ⟨s3,s4⟩:=st_sign h2
   dsimp only at s1 s2
   by_cases rn:r=[]
   ·subst rn; cases hf
   ·obtain ⟨A,hA⟩:=lz_split (z:=a) rn
    have hf2:=hf
    rw [hA,prZ_app] at hf2
    rcases List.mem_append.mp hf2 with hf3 | hf3
    ·rcases prZ_two (z:=lz a r) hf3 with q | q
     ·rw [q] at s3; omega
     ·have t1:T0 (lz a r :: a :: A):=by
       have:T0 ((a :: A) ++ [lz a r]):=by rw [List.cons_append,← hA]; exact t0
       exact T0.unrot this
      exact four_no (T0.sub q t1) s1 s2 s3 s4
    ·have:f=(lz a A,lz a r):=by
      have:prZ (lz a A) [lz a r]=[(lz a A,lz a r)]:=rfl
      rw [this] at hf3
      exact List.mem_singleton.mp hf3
     rw [this] at s4
     dsimp only at s4
     omega
  ·obtain ⟨s1,s2⟩:=st_sign h1
   obtain ⟨s3,s4⟩:=st_sign h2
   rcases h with q | q
   ·rw [← q] at s3; omega
   ·exact four_no (T0.sub q t0) s1 s2 s3 s4
theorem fan_in {ps:List P3} {p o:P3} {t:List P3} (cv:Cvx ps) (hp:∀ e∈eds ps,0 < det3 p e.1 e.2) (ht:t∈fanT p ps) (h:StIn o t):StIn o ps:=fun e he=>by
 obtain ⟨f,hf,rfl⟩:=List.mem_map.mp ht
 have t0:=(t0_iff ps).mpr cv.tri
 obtain ⟨m1,m2⟩:=eds_mem hf
 obtain ⟨g1,_⟩:=eds_gt t0 cv.1 he
 have e0:eds [p,f.1,f.2]=[(f.2,p),(p,f.1),(f.1,f.2)]:=rfl
 have h1:=h (f.2,p) (by rw [e0]; simp)
 have h2:=h (p,f.1) (by rw [e0]; simp)
 have h3:=h (f.1,f.2) (by rw [e0]; simp)
 dsimp only at h1 h2 h3
 have d0:=hp f hf
 have a0:0 < ln (crs e.1 e.2) p:=by
  have:=hp e he
  rw [← d_cyc] at this
  exact this
 have a1:0≤ln (crs e.1 e.2) f.1:=g1 _ m1
 have a2:0≤ln (crs e.1 e.2) f.2:=g1 _ m2
 have k:=tri_in (a:=p) (b:=f.1) (c:=f.2) (s:=o) (l:=crs e.1 e.2)
 have b0:=Int.mul_pos h3 a0
 have b1:=Int.mul_nonneg (Int.le_of_lt h1) a1
 have b2:=Int.mul_nonneg (Int.le_of_lt h2) a2
 show 0 < ln (crs e.1 e.2) o
 by_cases z:0 < ln (crs e.1 e.2) o
 ·exact z
 ·have:=Int.mul_nonneg (Int.le_of_lt d0) (show 0 ≤ -ln (crs e.1 e.2) o by omega)
  have e1:det3 p f.1 f.2 * -ln (crs e.1 e.2) o = -(det3 p f.1 f.2 * ln (crs e.1 e.2) o):=Int.mul_neg _ _
  omega
theorem dj_part {A C:List (List P3)} {t:List P3} {p:P3} (cv:Cvx t) (hp:∀ e∈eds t,0 < det3 p e.1 e.2) (h:Dj (A ++ t :: C)):Dj (A ++ fanT p t ++ C):=by
 unfold Dj at h ⊢
 rw [List.pairwise_append,List.pairwise_cons] at h
 obtain ⟨hA,⟨htC,hC⟩,hAC⟩:=h
 rw [List.append_assoc,List.pairwise_append,List.pairwise_append]
 refine ⟨hA,⟨fan_dj cv,hC,fun x hx y hy o h1 h2=>htC y hy o (fan_in cv hp hx h1) h2⟩,fun x hx y hy o h1 h2=>?_⟩
 rcases List.mem_append.mp hy with hy | hy
 ·exact hAC x hx t List.mem_cons_self o h1 (fan_in cv hp hy h2)
 ·exact hAC x hx y (List.mem_cons_of_mem _ hy) o h1 h2
def bw (p:P3):Nat:=max (intBits p.1) (max (intBits p.2.1) (intBits p.2.2))
theorem bw_bp (p:P3):BP (bw p) p:=⟨by unfold bw; omega,by unfold bw; omega,by unfold bw; omega⟩
theorem bw_le {m:Nat} {p:P3} (h:BP m p):bw p≤m:=by
 have a:=h.a
 have b:=h.b
 have c:=h.c
 unfold bw
 omega
theorem bw_gp {p:P3} (h:PtP p):GP (bw p) p:=⟨h,bw_bp p⟩
def bws (ps:List P3):Nat:=(ps.map bw).sum
theorem bw_mem {p:P3}:∀ {ps:List P3},p∈ps→bw p≤bws ps
 | q :: ps,h=>by
  show bw p≤bw q + bws ps
  rcases List.mem_cons.mp h with rfl | h
  ·omega
  ·have:=bw_mem h; omega
def TrW (S M:Nat) (r:List P3):Prop:=IsTri r∧(∀ p∈r,PtP p∧BxP p∧bw p≤M)∧bws r≤S
theorem TrW.mono {S M S' M':Nat} {r:List P3} (h:TrW S M r) (h1:S≤S') (h2:M≤M'):TrW S' M' r:=⟨h.1,fun p hp=>⟨(h.2.1 p hp).1,(h.2.1 p hp).2.1,by have:=(h.2.1 p hp).2.2; omega⟩,by have:=h.2.2; omega⟩
theorem TrW.gp {S M:Nat} {r:List P3} (h:TrW S M r):∀ p∈r,GP M p∧BxP p:=fun p hp=>⟨(bw_gp (h.2.1 p hp).1).mono (h.2.1 p hp).2.2,(h.2.1 p hp).2.1⟩
theorem two_le {ps:List P3} {e:P3×P3} (h:e∈eds ps) (hl:3≤ps.length) (t3:ps.length=3):bw e.1 + bw e.2≤bws ps:=by
 match ps,t3 with
 | [a,b,c],_ =>
  have e0:eds [a,b,c]=[(c,a),(a,b),(b,c)]:=rfl
  rw [e0] at h
  simp only [List.mem_cons,List.not_mem_nil,or_false] at h
  show _≤bw a + (bw b + (bw c + 0))
  rcases h with rfl | rfl | rfl <;> dsimp only <;> omega
theorem fan_trW {S M:Nat} {p:P3} {t:List P3} (h:TrW S M t) (hp:GP (S + 31) p) (bp:BxP p) (pos:∀ e∈eds t,0 < det3 p e.1 e.2) (hM:M≤S + 31):∀ r∈fanT p t,TrW (2 * S + 31) (S + 31) r:=fun r hr=>by
 obtain ⟨e,he,rfl⟩:=List.mem_map.mp hr
 obtain ⟨m1,m2⟩:=eds_mem he
 have t3:t.length=3:=by obtain ⟨_,_,_,q,_⟩:=h.1; rw [q]; rfl
 have two:=two_le he (by omega) t3
 have bp':=bw_le hp.bp
 refine ⟨⟨_,_,_,rfl,pos e he⟩,fun q hq=>?_,?_⟩
 ·simp only [List.mem_cons,List.not_mem_nil,or_false] at hq
  rcases hq with rfl | rfl | rfl
  ·exact ⟨hp.pt,bp,bp'⟩
  ·exact ⟨(h.2.1 _ m1).1,(h.2.1 _ m1).2.1,by have:=(h.2.1 _ m1).2.2; omega⟩
  ·exact ⟨(h.2.1 _ m2).1,(h.2.1 _ m2).2.1,by have:=(h.2.1 _ m2).2.2; omega⟩
 ·show bw p + (bw e.1 + (bw e.2 + 0))≤_
  have:=h.2.2
  omega
theorem fan_trW0 {p:P3} {ps:List P3} (hs:∀ q∈ps,GB q) (hp:GP 75 p) (bp:BxP p) (pos:∀ e∈eds ps,0 < det3 p e.1 e.2):∀ r∈fanT p ps,TrW 87 75 r:=fun r hr=>by
 obtain ⟨e,he,rfl⟩:=List.mem_map.mp hr
 obtain ⟨m1,m2⟩:=eds_mem he
 have b1:=bw_le (hs _ m1).1.bp
 have b2:=bw_le (hs _ m2).1.bp
 have b3:=bw_le hp.bp
 refine ⟨⟨_,_,_,rfl,pos e he⟩,fun q hq=>?_,?_⟩
 ·simp only [List.mem_cons,List.not_mem_nil,or_false] at hq
  rcases hq with rfl | rfl | rfl
  ·exact ⟨hp.pt,bp,b3⟩
  ·exact ⟨(hs _ m1).1.pt,(hs _ m1).2,by omega⟩
  ·exact ⟨(hs _ m2).1.pt,(hs _ m2).2,by omega⟩
 ·show bw p + (bw e.1 + (bw e.2 + 0))≤_
  omega
def szS:Nat→Nat
 | 0=>87
 | 1=>205
 | _=>441
def szM:Nat→Nat
 | 0=>75
 | 1=>118
 | _=>236
theorem szS_le {j:Nat}:szS j≤441:=by
 match j with
 | 0=>decide
 | 1=>decide
 | _ + 2=>exact Nat.le_refl _
theorem szM_le {j:Nat}:szM j≤236:=by
 match j with
 | 0=>decide
 | 1=>decide
 | _ + 2=>exact Nat.le_refl _
end Cut
namespace Cut
open PySem L2 L3
open PySem.Builtin.Int (intBits)
theorem steps_gp20 {ms:List Piece} (st:StepsOk ms) (hl:ms.length≤100):∀ s∈ms,GP 20 s.2.2:=fun s hs=>by
 obtain ⟨k,hk⟩:=List.getElem?_of_mem hs
 have kl:k < ms.length:=(List.getElem?_eq_some_iff.mp hk).1
 obtain ⟨d,e,q,d0,d1,e0,e1⟩:=st k s hk
 rw [q]
 have b:∀ x:Int,-20≤x→x≤7000→intBits x≤20:=fun x x0 x1=>Nat.le_trans (intBits_le_iff (m:=13).mpr (by show x.natAbs < 8192; omega)) (by decide)
 exact ⟨⟨(show (0:Int) < 1 by decide),by show Nat.gcd _ 1=1; exact Nat.gcd_one_right _⟩,b (60 * (k:Int) + d) (by omega) (by omega),b e (by omega) (by omega),(show intBits 1≤20 by decide)⟩
structure PW (m:Nat) (g:P3):Prop where
 ps:0 < g.2.2
 bp:BP m g
theorem GP.pw {m n:Nat} {g:P3} (h:GP m g) (l:m≤n):PW n g:=⟨h.pt.1,h.bp.mono l⟩
end Cut
namespace Cut
open PySem L2 L3
open PySem.Builtin.Int (intBits)
def hW (u:Rat):Rat:=if 0 < u then 1 else 0
def crW (u v g:Rat):Rat:=if (u - v) * g < 0 then hW v - hW u else 0
theorem rnp {a b:Rat} (h:a≤0) (k:b≤0):0≤a * b:=by
 have:=Rat.mul_nonneg (a := -a) (b := -b) (by grind) (by grind)
 grind
theorem rpn {a b:Rat} (h:0≤a) (k:b≤0):a * b≤0:=by
 have:=Rat.mul_nonneg (a:=a) (b := -b) h (by grind)
 grind
theorem rpn' {a b:Rat} (h:0 < a) (k:b < 0):a * b < 0:=by
 have:=Rat.mul_pos (a:=a) (b := -b) h (by grind)
 grind
theorem cr_pp {u v g:Rat} (h:0 < u) (k:0 < v):crW u v g=0:=by unfold crW hW; rw [if_pos h,if_pos k]; split <;> grind
theorem cr_nn {u v g:Rat} (h:u≤0) (k:v≤0):crW u v g=0:=by unfold crW hW; rw [if_neg (show ¬ 0 < v by grind),if_neg (show ¬ 0 < u by grind)]; split <;> grind
theorem cr_up {u v g:Rat} (h:u≤0) (k:0 < v):crW u v g=if 0 < g then 1 else 0:=by
 unfold crW hW
 rw [if_neg (show ¬ 0 < u by grind),if_pos k]
 by_cases z:0 < g
 ·rw [if_pos z,if_pos (by have:=rpn' (a:=g) (b:=u - v) z (by grind); grind)]; grind
 ·rw [if_neg z,if_neg (by have:=rnp (a:=g) (b:=u - v) (by grind) (by grind); grind)]
theorem cr_dn {u v g:Rat} (h:0 < u) (k:v≤0):crW u v g=if g < 0 then -1 else 0:=by
 unfold crW hW
 rw [if_pos h,if_neg (show ¬ 0 < v by grind)]
 by_cases z:g < 0
 ·rw [if_pos z,if_pos (rpn' (by grind) z)]; grind
 ·rw [if_neg z,if_neg (by have:=Rat.mul_nonneg (a:=u - v) (b:=g) (by grind) (by grind); grind)]
def WOk (α β γ W:Rat):Prop:=0≤W∧(0 < α→0 < β→0 < γ→W=1)∧(α < 0∨β < 0∨γ < 0→W=0)
theorem w_one {α β γ u v w:Rat} (S:0 < α + β + γ) (E:α * u + β * v + γ * w=0) (hu:0 < u) (hv:v≤0) (hw:w≤0):WOk α β γ (crW w u β + crW u v γ + crW v w α):=by
 rw [cr_up hw hu,cr_dn hu hv,cr_nn hv hw]
 have k1:¬ (β≤0∧γ < 0):=fun ⟨a,b⟩=>by
  have h1:=rnp a hv
  have h2:=rnp (a:=γ) (b:=w) (by grind) hw
  have h3:¬ 0 < α:=fun z=>by have:=Rat.mul_pos z hu; grind
  grind
 have k2:¬ (α < 0∧0≤β∧0≤γ):=fun ⟨a,b,c⟩=>by
  have h1:=rpn b hv
  have h2:=rpn c hw
  have h3:=rpn' hu a
  grind
 refine ⟨?_,fun a b c=>?_,fun z=>?_⟩
 ·by_cases b:0 < β
  ·rw [if_pos b]; split <;> grind
  ·rw [if_neg b,if_neg (by grind)]; grind
 ·rw [if_pos b,if_neg (by grind)]; grind
 ·by_cases b:0 < β
  ·rw [if_pos b]
   by_cases c:γ < 0
   ·rw [if_pos c]; grind
   ·grind
  ·rw [if_neg b,if_neg (by grind)]; grind
theorem w_two {α β γ u v w:Rat} (S:0 < α + β + γ) (E:α * u + β * v + γ * w=0) (hu:u≤0) (hv:0 < v) (hw:0 < w):WOk α β γ (crW w u β + crW u v γ + crW v w α):=by
 rw [cr_dn hw hu,cr_up hu hv,cr_pp hv hw]
 have k1:¬ (β < 0∧γ≤0):=fun ⟨a,b⟩=>by
  have h1:=rpn' hv a
  have h2:=rpn (a:=w) (b:=γ) (by grind) b
  have h3:¬ 0≤α:=fun z=>by have:=rpn z hu; grind
  grind
 have k2:¬ (α < 0∧0≤β∧0≤γ):=fun ⟨a,b,c⟩=>by
  have h0:=rnp (a:=α) (b:=u) (by grind) hu
  have h1:¬ 0 < β:=fun z=>by have:=Rat.mul_pos z hv; have:=Rat.mul_nonneg (a:=γ) (b:=w) c (by grind); grind
  have h2:¬ 0 < γ:=fun z=>by have:=Rat.mul_pos z hw; have:=Rat.mul_nonneg (a:=β) (b:=v) b (by grind); grind
  grind
 refine ⟨?_,fun a b c=>?_,fun z=>?_⟩
 ·by_cases b:β < 0
  ·rw [if_pos b,if_pos (by grind)]; grind
  ·rw [if_neg b]; split <;> grind
 ·rw [if_neg (by grind),if_pos c]; grind
 ·by_cases c:0 < γ
  ·rw [if_pos c]
   by_cases b:β < 0
   ·rw [if_pos b]; grind
   ·grind
  ·rw [if_neg c,if_neg (by grind)]; grind
theorem w_tri {α β γ u v w:Rat} (S:0 < α + β + γ) (E:α * u + β * v + γ * w=0) (nd:¬ (u=v∧v=w)):WOk α β γ (crW w u β + crW u v γ + crW v w α):=by
 have rot:∀ {α β γ W W':Rat},WOk α β γ W→W=W'→WOk β γ α W':=fun h e=>by
  subst e
  exact ⟨h.1,fun a b c=>h.2.1 c a b,fun z=>h.2.2 (by rcases z with z | z | z <;> simp [z])⟩
 by_cases hu:0 < u <;> by_cases hv:0 < v <;> by_cases hw:0 < w
 ·rw [cr_pp hw hu,cr_pp hu hv,cr_pp hv hw]
  refine ⟨by grind,fun a b c=>?_,fun _=>by grind⟩
  have:=Rat.mul_pos a hu; have:=Rat.mul_pos b hv; have:=Rat.mul_pos c hw
  grind
 ·have:=w_two (α:=γ) (β:=α) (γ:=β) (u:=w) (v:=u) (w:=v) (by grind) (by grind) (by grind) hu hv
  exact rot this (by grind)
 ·have:=w_two (α:=β) (β:=γ) (γ:=α) (u:=v) (v:=w) (w:=u) (by grind) (by grind) (by grind) hw hu
  exact rot (rot this rfl) (by grind)
 ·exact w_one S E hu (by grind) (by grind)
 ·exact w_two S E (by grind) hv hw
 ·have:=w_one (α:=β) (β:=γ) (γ:=α) (u:=v) (v:=w) (w:=u) (by grind) (by grind) hv (by grind) (by grind)
  exact rot (rot this rfl) (by grind)
 ·have:=w_one (α:=γ) (β:=α) (γ:=β) (u:=w) (v:=u) (w:=v) (by grind) (by grind) hw (by grind) (by grind)
  exact rot this (by grind)
 ·rw [cr_nn (by grind) (by grind),cr_nn (by grind) (by grind),cr_nn (by grind) (by grind)]
  refine ⟨by grind,fun a b c=>?_,fun _=>by grind⟩
  have z1:=rpn (a:=α) (b:=u) (by grind) (by grind)
  have z2:=rpn (a:=β) (b:=v) (by grind) (by grind)
  have z3:=rpn (a:=γ) (b:=w) (by grind) (by grind)
  have y1:u=0:=by
   have:¬ u < 0:=fun z=>by have:=rpn' a z; grind
   grind
  have y2:v=0:=by
   have:¬ v < 0:=fun z=>by have:=rpn' b z; grind
   grind
  have y3:w=0:=by
   have:¬ w < 0:=fun z=>by have:=rpn' c z; grind
   grind
  exact absurd ⟨by grind,by grind⟩ nd
def pW (z:P3):List (List Int)→Rat
 | [l,x]=>if (toP l).1 * ln (toP l) z < 0 then -hW (rY (toP x) - rY z) else 0
 | _=>0
theorem pW_kE (z p q x:P3):pW z (kE p q x)=if (lnK p q).1 * ln (lnK p q) z < 0 then -hW (rY x - rY z) else 0:=rfl
theorem pW_side {z p q:P3} (hz:PtP z) (hp:PtP p) (hq:PtP q):vG (pW z) p q=crW (rY p - rY z) (rY q - rY z) (trR p q z):=by
 unfold vG
 rw [pW_kE,pW_kE]
 by_cases h:p=q
 ·rw [h]; unfold crW; split <;> split <;> grind
 have e:=crs_oft (p:=p) (q:=q)
 have o:=oft_ne (crs_ne hp hq h)
 have sq:(0:Int) < oftL (crs p q) * oftL (crs p q):=by
  rcases Int.lt_or_gt_of_ne o with w | w
  ·exact Int.mul_pos_of_neg_of_neg w w
  ·exact Int.mul_pos w w
 have e1:(crs p q).1 * det3 p q z=(oftL (crs p q) * oftL (crs p q)) * ((lnK p q).1 * ln (lnK p q) z):=by
  have d:det3 p q z=ln (crs p q) z:=rfl
  rw [d]
  conv=>lhs; rw [e]
  unfold ln sc
  dsimp only
  grind
 obtain ⟨k,k0,ek⟩:=det_R (p:=p) (q:=q) (r:=z) ⟨hp,rfl,rfl⟩ ⟨hq,rfl,rfl⟩ ⟨hz,rfl,rfl⟩
 have t:(rX q - rX p) * (rY z - rY p) - (rY q - rY p) * (rX z - rX p)=trR p q z:=rfl
 rw [t] at ek
 have zp:=pos_ne hp.1
 have zq:=pos_ne hq.1
 have ey:(((crs p q).1:Int):Rat)=((p.2.2:Rat) * q.2.2) * (rY p - rY q):=by
  have:(crs p q).1=p.2.1 * q.2.2 - p.2.2 * q.2.1:=rfl
  rw [this,Rat.intCast_sub,Rat.intCast_mul,Rat.intCast_mul]
  unfold rY
  grind
 have n0:(0:Rat) < (p.2.2:Rat) * q.2.2:=Rat.mul_pos (rpos.mpr hp.1) (rpos.mpr hq.1)
 have sgn:(lnK p q).1 * ln (lnK p q) z < 0↔((rY p - rY z) - (rY q - rY z)) * trR p q z < 0:=by
  have c0:(0:Rat) < (((p.2.2:Rat) * q.2.2) * k):=Rat.mul_pos n0 k0
  have c1:(0:Rat) < ((oftL (crs p q) * oftL (crs p q):Int):Rat):=rpos.mpr sq
  have er:((p.2.2:Rat) * q.2.2 * k) * (((rY p - rY z) - (rY q - rY z)) * trR p q z)=((oftL (crs p q) * oftL (crs p q):Int):Rat) * (((lnK p q).1 * ln (lnK p q) z:Int):Rat):=by
   have e2:((oftL (crs p q) * oftL (crs p q):Int):Rat) * (((lnK p q).1 * ln (lnK p q) z:Int):Rat)=(((crs p q).1:Int):Rat) * ((det3 p q z:Int):Rat):=by rw [← Rat.intCast_mul,← e1,Rat.intCast_mul]
   rw [e2,ey,ek]
   grind
  have cast:(lnK p q).1 * ln (lnK p q) z < 0↔(((lnK p q).1 * ln (lnK p q) z:Int):Rat) < 0:=by exact_mod_cast Iff.rfl
  rw [cast]
  generalize (((lnK p q).1 * ln (lnK p q) z:Int):Rat)=X at er ⊢
  generalize ((rY p - rY z) - (rY q - rY z)) * trR p q z=Y at er ⊢
  constructor
  ·intro w
   have:=rpn' c1 w
   by_cases y:Y < 0
   ·exact y
   ·have:=Rat.mul_nonneg (a:=(p.2.2:Rat) * q.2.2 * k) (b:=Y) (by grind) (by grind)
    grind
  ·intro w
   have:=rpn' c0 w
   by_cases y:X < 0
   ·exact y
   ·have:=Rat.mul_nonneg (a:=((oftL (crs p q) * oftL (crs p q):Int):Rat)) (b:=X) (by grind) (by grind)
    grind
 unfold crW
 by_cases y:(lnK p q).1 * ln (lnK p q) z < 0
 ·rw [if_pos y,if_pos y,if_pos (sgn.mp y)]; grind
 ·rw [if_neg y,if_neg y,if_neg (fun w=>y (sgn.mpr w))]; grind
theorem w_ring {z a b c:P3} (hz:PtP z) (ha:PtP a) (hb:PtP b) (hc:PtP c) (h:0 < det3 a b c):WOk (trR b c z) (trR c a z) (trR a b z) (vR (pW z) [a,b,c]):=by
 have e:vR (pW z) [a,b,c]=crW (rY c - rY z) (rY a - rY z) (trR c a z) + crW (rY a - rY z) (rY b - rY z) (trR a b z) + crW (rY b - rY z) (rY c - rY z) (trR b c z):=by
  unfold vR
  rw [sumT3,pW_side hz hc ha,pW_side hz ha hb,pW_side hz hb hc]
 rw [e]
 have t:=(tr_sign ha hb hc).2 h
 refine w_tri ?_ ?_ (fun ⟨n1,n2⟩=>?_)
 ·unfold trR at t ⊢; grind
 ·unfold trR; grind
 ·have e1:rY a=rY b:=by grind
  have e2:rY b=rY c:=by grind
  unfold trR at t
  rw [e1,e2] at t
  grind
def InT (z:P3) (r:List P3):Prop:=∀ e∈eds r,0 < trR e.1 e.2 z
def OutT (z:P3) (r:List P3):Prop:=∃ e∈eds r,trR e.1 e.2 z < 0
theorem w_in {z:P3} {r:List P3} (hz:PtP z) (h:IsTri r) (hp:∀ p∈r,PtP p) (i:InT z r):vR (pW z) r=1:=by
 obtain ⟨a,b,c,rfl,h⟩:=h
 have e:eds [a,b,c]=[(c,a),(a,b),(b,c)]:=rfl
 unfold InT at i
 rw [e] at i
 exact (w_ring hz (hp a (by simp)) (hp b (by simp)) (hp c (by simp)) h).2.1 (i (b,c) (by simp)) (i (c,a) (by simp)) (i (a,b) (by simp))
theorem w_out {z:P3} {r:List P3} (hz:PtP z) (h:IsTri r) (hp:∀ p∈r,PtP p) (i:OutT z r):vR (pW z) r=0:=by
 obtain ⟨a,b,c,rfl,h⟩:=h
 have e:eds [a,b,c]=[(c,a),(a,b),(b,c)]:=rfl
 obtain ⟨x,hx,n⟩:=i
 rw [e] at hx
 refine (w_ring hz (hp a (by simp)) (hp b (by simp)) (hp c (by simp)) h).2.2 ?_
 simp only [List.mem_cons,List.not_mem_nil,or_false] at hx
 rcases hx with rfl | rfl | rfl
 ·exact .inr (.inl n)
 ·exact .inr (.inr n)
 ·exact .inl n
end Cut
namespace Cut
open PySem L2 L3
open PySem.Builtin.Int (intBits)
theorem det_tr {o p q:P3} (ho:PtP o) (hp:PtP p) (hq:PtP q):0 < det3 o p q↔0 < trR o p q:=by
 obtain ⟨k,k0,e⟩:=det_R (p:=o) (q:=p) (r:=q) ⟨ho,rfl,rfl⟩ ⟨hp,rfl,rfl⟩ ⟨hq,rfl,rfl⟩
 have t:(rX p - rX o) * (rY q - rY o) - (rY p - rY o) * (rX q - rX o)=trR o p q:=rfl
 rw [t] at e
 refine ⟨(tr_sign ho hp hq).2,fun h=>?_⟩
 have:=Rat.mul_pos k0 h
 rw [← e] at this
 exact rpos.mp this
end Cut
namespace Cut
open PySem L2 L3
open PySem.Builtin.Int (intBits)
end Cut
namespace Cut
open PySem L2 L3
open PySem.Builtin.Int (intBits)
section
variable {a b c p:P3}
end
end Cut
namespace Cut
open PySem L2 L3
open PySem.Builtin.Int (intBits)
end Cut
namespace Cut
open PySem L2 L3
open PySem.Builtin.Int (intBits)
def loE (a b:P3):P3:=if b.2.1 * a.2.2 < a.2.1 * b.2.2 then b else a
def hiE (a b:P3):P3:=if b.2.1 * a.2.2 < a.2.1 * b.2.2 then a else b
abbrev upE (z lo hi:P3):Prop:=lo.2.1 * z.2.2≤z.2.1 * lo.2.2∧z.2.1 * hi.2.2 < hi.2.1 * z.2.2
def cxE (z a b:P3):Int:=if upE z (loE a b) (hiE a b)∧0 < det3 (loE a b) (hiE a b) z then 1 else 0
def cxR (z:P3) (es:List (P3×P3)):Int:=(es.map fun e=>cxE z e.1 e.2).sum
def cxRs (z:P3) (rs:List (List P3)):Int:=(rs.map fun r=>cxR z (eds r)).sum
theorem y_lt {p q:P3} (hp:PtP p) (hq:PtP q):p.2.1 * q.2.2 < q.2.1 * p.2.2↔rY p < rY q:=by
 have zp:=pos_ne hp.1
 have zq:=pos_ne hq.1
 have n0:(0:Rat) < (p.2.2:Rat) * q.2.2:=Rat.mul_pos (rpos.mpr hp.1) (rpos.mpr hq.1)
 have e:((q.2.1 * p.2.2 - p.2.1 * q.2.2:Int):Rat)=((p.2.2:Rat) * q.2.2) * (rY q - rY p):=by
  rw [Rat.intCast_sub,Rat.intCast_mul,Rat.intCast_mul]
  unfold rY
  grind
 have a:0 < q.2.1 * p.2.2 - p.2.1 * q.2.2↔0 < rY q - rY p:=by
  rw [← rpos,e]
  constructor
  ·intro w
   have:¬ rY q - rY p≤0:=fun x=>by have:=rpn (Rat.le_of_lt n0) x; grind
   grind
  ·intro w; exact Rat.mul_pos n0 w
 constructor
 ·intro w; have:=a.mp (by omega); grind
 ·intro w; have:=a.mpr (by grind); omega
theorem y_le {p q:P3} (hp:PtP p) (hq:PtP q):p.2.1 * q.2.2≤q.2.1 * p.2.2↔rY p≤rY q:=by
 have:=y_lt hq hp
 constructor
 ·intro w
  have:¬ rY q < rY p:=fun x=>by have:=this.mpr x; omega
  grind
 ·intro w
  have:¬ q.2.1 * p.2.2 < p.2.1 * q.2.2:=fun x=>by have:=this.mp x; grind
  omega
theorem cx_par {z a b:P3} (hz:PtP z) (ha:PtP a) (hb:PtP b):∃ m:Int,((cxE z a b:Int):Rat)=vG (pW z) a b + 2 * (m:Rat):=by
 rw [pW_side hz ha hb]
 have c0:((0:Int):Rat)=0:=rfl
 have c1:((1:Int):Rat)=1:=rfl
 unfold cxE loE hiE
 by_cases s:b.2.1 * a.2.2 < a.2.1 * b.2.2
 ·rw [if_pos s,if_pos s]
  have s':=(y_lt hb ha).mp s
  have e:trR b a z = -trR a b z:=by unfold trR; grind
  have iu:(upE z b a∧0 < det3 b a z)↔((rY b≤rY z∧rY z < rY a)∧0 < -trR a b z):=by unfold upE; rw [y_le hb hz,y_lt hz ha,det_tr hb ha hz,e]
  by_cases u:rY b≤rY z∧rY z < rY a
  ·rw [cr_dn (by grind) (by grind)]
   by_cases g:trR a b z < 0
   ·rw [if_pos (iu.mpr ⟨u,by grind⟩),if_pos g]; exact ⟨1,by rw [c1]; grind⟩
   ·rw [if_neg (fun x=>g (by have:=(iu.mp x).2; grind)),if_neg g]; exact ⟨0,by rw [c0]; grind⟩
  ·rw [if_neg (fun x=>u (iu.mp x).1)]
   refine ⟨0,?_⟩
   rw [c0]
   by_cases w:rY b≤rY z
   ·rw [cr_nn (by grind) (by grind)]; grind
   ·rw [cr_pp (by grind) (by grind)]; grind
 ·rw [if_neg s,if_neg s]
  have s':rY a≤rY b:=by
   have:¬ rY b < rY a:=fun x=>s ((y_lt hb ha).mpr x)
   grind
  have iu:(upE z a b∧0 < det3 a b z)↔((rY a≤rY z∧rY z < rY b)∧0 < trR a b z):=by unfold upE; rw [y_le ha hz,y_lt hz hb,det_tr ha hb hz]
  refine ⟨0,?_⟩
  by_cases u:rY a≤rY z∧rY z < rY b
  ·rw [cr_up (by grind) (by grind)]
   by_cases g:0 < trR a b z
   ·rw [if_pos (iu.mpr ⟨u,g⟩),if_pos g,c1,c0]; grind
   ·rw [if_neg (fun x=>g (iu.mp x).2),if_neg g,c0]; grind
  ·rw [if_neg (fun x=>u (iu.mp x).1),c0]
   by_cases w:rY a≤rY z
   ·rw [cr_nn (by grind) (by grind)]; grind
   ·rw [cr_pp (by grind) (by grind)]; grind
theorem cxR_par {z:P3} (hz:PtP z):∀ {es:List (P3×P3)},(∀ e∈es,PtP e.1∧PtP e.2)→∃ m:Int,((cxR z es:Int):Rat)=sumT (vG (pW z)) es + 2 * (m:Rat)
 | [],_=>⟨0,by show ((0:Int):Rat)=0 + 2 * ((0:Int):Rat); have c0:((0:Int):Rat)=0:=rfl; rw [c0]; grind⟩
 | e :: es,h=>by
  obtain ⟨m,hm⟩:=cxR_par hz fun x hx=>h x (List.mem_cons_of_mem e hx)
  obtain ⟨h1,h2⟩:=h e List.mem_cons_self
  obtain ⟨n,hn⟩:=cx_par hz h1 h2
  refine ⟨n + m,?_⟩
  show ((cxE z e.1 e.2 + cxR z es:Int):Rat)=_
  rw [sumT_cons,Rat.intCast_add,hm,hn,Rat.intCast_add]
  grind
theorem cxRs_par {z:P3} (hz:PtP z):∀ {rs:List (List P3)},(∀ r∈rs,∀ p∈r,PtP p)→∃ m:Int,((cxRs z rs:Int):Rat)=vRs (pW z) rs + 2 * (m:Rat)
 | [],_=>⟨0,by show ((0:Int):Rat)=0 + 2 * ((0:Int):Rat); have c0:((0:Int):Rat)=0:=rfl; rw [c0]; grind⟩
 | r :: rs,h=>by
  obtain ⟨m,hm⟩:=cxRs_par hz fun x hx=>h x (List.mem_cons_of_mem r hx)
  obtain ⟨n,hn⟩:=cxR_par hz (es:=eds r) fun e he=>by
   obtain ⟨a,b⟩:=eds_mem he
   exact ⟨h r List.mem_cons_self _ a,h r List.mem_cons_self _ b⟩
  refine ⟨n + m,?_⟩
  show ((cxR z (eds r) + cxRs z rs:Int):Rat)=_
  rw [vRs_cons,Rat.intCast_add,hm,hn,Rat.intCast_add]
  unfold vR
  grind
theorem wi_round {z:P3} {r:List P3} (hz:PtP z) (h:IsTri r) (hp:∀ p∈r,PtP p) (n:wi r z ≠ -1):((wi r z:Int):Rat)=vR (pW z) r:=by
 have c0:((0:Int):Rat)=0:=rfl
 have c1:((1:Int):Rat)=1:=rfl
 rcases wi_cases n with ⟨e,i⟩ | ⟨e,i⟩
 ·rw [e,c1]
  refine (w_in hz h hp fun x hx=>?_).symm
  obtain ⟨m1,m2⟩:=eds_mem hx
  exact (det_tr (hp _ m1) (hp _ m2) hz).mp (i x hx)
 ·rw [e,c0]
  refine (w_out hz h hp ?_).symm
  refine Classical.byContradiction fun no=>i fun x hx=>?_
  obtain ⟨m1,m2⟩:=eds_mem hx
  have g:¬ trR x.1 x.2 z < 0:=fun q=>no ⟨x,hx,q⟩
  obtain ⟨k,k0,ek⟩:=det_R (p:=x.1) (q:=x.2) (r:=z) ⟨hp _ m1,rfl,rfl⟩ ⟨hp _ m2,rfl,rfl⟩ ⟨hz,rfl,rfl⟩
  have t:(rX x.2 - rX x.1) * (rY z - rY x.1) - (rY x.2 - rY x.1) * (rX z - rX x.1)=trR x.1 x.2 z:=rfl
  rw [t] at ek
  have:=Rat.mul_nonneg (Rat.le_of_lt k0) (show 0≤trR x.1 x.2 z by grind)
  rw [← ek] at this
  exact rnn.mp this
theorem wi_round_sum {z:P3} (hz:PtP z):∀ {rs:List (List P3)},(∀ r∈rs,IsTri r∧(∀ p∈r,PtP p)∧wi r z ≠ -1)→(((rs.map fun r=>wi r z).sum:Int):Rat)=vRs (pW z) rs
 | [],_=>rfl
 | r :: rs,h=>by
  obtain ⟨h1,h2,h3⟩:=h r List.mem_cons_self
  rw [List.map_cons,List.sum_cons,vRs_cons,Rat.intCast_add,wi_round hz h1 h2 h3,wi_round_sum hz fun x hx=>h x (List.mem_cons_of_mem _ hx)]
theorem wi_once {z:P3}:∀ {rs:List (List P3)},Dj rs→(∀ r∈rs,wi r z ≠ -1)→((rs.map fun r=>wi r z).sum=0∨(rs.map fun r=>wi r z).sum=1)∧((∀ r∈rs,¬ StIn z r)→(rs.map fun r=>wi r z).sum=0)
 | [],_,_=>⟨.inl rfl,fun _=>rfl⟩
 | r :: rs,d,h=>by
  obtain ⟨d1,d2⟩:=List.pairwise_cons.mp d
  obtain ⟨i1,i2⟩:=wi_once d2 fun x hx=>h x (List.mem_cons_of_mem _ hx)
  rw [List.map_cons,List.sum_cons]
  rcases wi_cases (h r List.mem_cons_self) with ⟨e,i⟩ | ⟨e,i⟩
  ·have z0:=i2 fun x hx q=>d1 x hx z i q
   rw [e,z0]
   exact ⟨.inr rfl,fun q=>absurd i (q r List.mem_cons_self)⟩
  ·rw [e]
   refine ⟨by omega,fun q=>?_⟩
   have:=i2 fun x hx=>q x (List.mem_cons_of_mem _ hx)
   omega
theorem parts_due {z:P3} {rings cloth:List (List P3)} (hz:PtP z) (b:Bal rings cloth) (hc:∀ r∈cloth,∀ p∈r,PtP p) (h:∀ r∈rings,IsTri r∧(∀ p∈r,PtP p)∧wi r z ≠ -1) (d:Dj rings):(rings.map fun r=>wi r z).sum=cxRs z cloth % 2:=by
 obtain ⟨m,hm⟩:=cxRs_par hz hc
 have e:=wi_round_sum hz h
 rw [bal_rat (pW z) b] at e
 rw [← e] at hm
 have c2:((2:Int):Rat)=2:=rfl
 have k:cxRs z cloth=(rings.map fun r=>wi r z).sum + 2 * m:=by
  rw [← c2,← Rat.intCast_mul,← Rat.intCast_add] at hm
  exact Rat.intCast_inj.mp hm
 have o:=(wi_once d fun r hr=>(h r hr).2.2).1
 omega
end Cut
namespace Cut
open PySem L2 L3
open PySem.Builtin.Int (intBits)
theorem stp_bits {t:Int×Int} {p q:P3} {u v A B:Nat} (h1:intBits t.1≤u) (h2:intBits t.2≤v) (hp:BP A p) (hq:BP B q) (huv:v≤u):intBits (stp t p q).1≤u + A + B + 2∧intBits (stp t p q).2≤v + A + B:=by
 have a1:=intBits_mul_le (intBits_mul_le h1 hp.c) hq.c
 have a2:=intBits_mul_le hp.a hq.b
 have a3:=intBits_mul_le hp.b hq.a
 have a4:intBits (p.1 * q.2.1 - p.2.1 * q.1)≤A + B + 1:=by
  refine Nat.le_trans (intBits_sub_le a2 a3) (by omega)
 have a5:=intBits_mul_le a4 h2
 refine ⟨?_,intBits_mul_le (intBits_mul_le h2 hp.c) hq.c⟩
 show intBits (t.1 * p.2.2 * q.2.2 + (p.1 * q.2.1 - p.2.1 * q.1) * t.2)≤_
 exact Nat.le_trans (intBits_add_le a1 a5) (by omega)
theorem ta3_bp {r:List P3} (h:IsTri r) (hp:∀ p∈r,PtP p):BP (2 * bws r + 8) (taP r):=by
 obtain ⟨a,b,c,rfl,_⟩:=h
 have e:bws [a,b,c]=bw a + (bw b + (bw c + 0)):=rfl
 have s1:=stp_bits (t:=(0,1)) (u:=1) (v:=1) (show intBits 0≤1 by decide) (show intBits 1≤1 by decide) (bw_bp c) (bw_bp a) (by omega)
 have s2:=stp_bits s1.1 s1.2 (bw_bp a) (bw_bp b) (by omega)
 have s3:=stp_bits s2.1 s2.2 (bw_bp b) (bw_bp c) (by omega)
 rw [← ta3 a b c] at s3
 have n0:0 < (ta [a,b,c] 3).2:=(ta_ok (m:=bws [a,b,c]) (ps:=[a,b,c]) (fun p hq=>(bw_gp (hp p hq)).mono (bw_mem hq)) 3 (Nat.le_refl _)).1
 have k1:=s3.1
 have k2:=s3.2
 exact BP.nP (p:=((ta [a,b,c] 3).1,0,(ta [a,b,c] 3).2)) ⟨Nat.le_trans k1 (by omega),Nat.le_trans (show intBits 0≤0 by decide) (by omega),Nat.le_trans k2 (by omega)⟩ (Int.ne_of_gt n0)
def adP (p q:P3):P3:=npt (p.1 * q.2.2 + q.1 * p.2.2) 0 (p.2.2 * q.2.2)
theorem ad_v {p q:P3} (hp:PtP p) (hq:PtP q):PtP (adP p q)∧(adP p q).2.1=0∧vP (adP p q)=vP p + vP q:=by
 obtain ⟨a,b,c⟩:=npt_vP (a:=p.1 * q.2.2 + q.1 * p.2.2) (n:=p.2.2 * q.2.2) (Int.mul_pos hp.1 hq.1)
 refine ⟨a,b,?_⟩
 unfold adP
 rw [c,Rat.intCast_add,Rat.intCast_mul,Rat.intCast_mul,Rat.intCast_mul]
 have:=pos_ne hp.1
 have:=pos_ne hq.1
 unfold vP
 grind
theorem ad_bp {m n:Nat} {p q:P3} (hp:GP m p) (hq:GP n q):BP (m + n + 1) (adP p q):=by
 have n0:=Int.mul_pos hp.pt.1 hq.pt.1
 refine BP.nP (p:=(p.1 * q.2.2 + q.1 * p.2.2,0,p.2.2 * q.2.2)) ⟨?_,Nat.le_trans (show intBits 0≤0 by decide) (by omega),?_⟩ (Int.ne_of_gt n0)
 ·exact Nat.le_trans (intBits_add_le (intBits_mul_le hp.bp.a hq.bp.c) (intBits_mul_le hq.bp.a hp.bp.c)) (by omega)
 ·exact Nat.le_trans (intBits_mul_le hp.bp.c hq.bp.c) (by omega)
theorem vP_eq {p q:P3} (hp:PtP p) (hq:PtP q) (p0:p.2.1=0) (q0:q.2.1=0) (h:vP p=vP q):p=q:=by
 refine IsPt.eq (x:=rX p) (y:=rY p) ⟨hp,rfl,rfl⟩ ⟨hq,h.symm,?_⟩
 unfold rY
 rw [p0,q0]
 have c0:((0:Int):Rat)=0:=rfl
 rw [c0]
 have:=pos_ne hp.1
 have:=pos_ne hq.1
 grind
end Cut
namespace L2
open PySem PySem.Spec PyProof.Rows
theorem execs_app {env:PySem.Env}:∀ (a b:List Stmt),execs (a ++ b) env=(do match ← execs a env with | .next=>execs b env | f=>pure f)
 | [],b=>by
  rw [List.nil_append,execs_nil,pure_bind]
 | s :: a,b=>by
  rw [List.cons_append,execs_cons,execs_cons,bind_assoc]
  congr
  funext f
  cases f with
  | next=>exact execs_app a b
  | _=>rw [pure_bind]
section
variable {X:Cx}
theorem pss_app {a b:List Stmt} {t u:TS} (h1:PSs X a t) (h2:PSs X b u):PSs X (a ++ b) (tSeq t u):=by
 intro pins s σ H D I h
 rw [execs_app]
 refine wpAny_bind (thn (h1 pins s σ H { D with nx:=u D } I h) fun f s1 q=>?_)
 cases f with
 | next =>
  obtain ⟨σ',H',I',q⟩:=q
  exact h2 pins s1 σ' H' D I' q
 | ret v=>exact wpAny_pure q
 | brk=>exact wpAny_pure q
 | cont=>exact wpAny_pure q
end
end L2
namespace L3
open PySem L2
def pinT (v:V):Sl→Sl
 | .val d=>.pin v d
 | .own (.l ds)=>.pin v (.lst ds)
 | .own (.d _ _ _ _)=>.no
 | .deep _=>.no
 | .new d=>.pin v d
 | .pin _ d=>.pin v d
 | s=>s
def pinAllT (f:Nat→V):Nat→List Sl→List Sl
 | _,[]=>[]
 | i,s :: r=>pinT (f i) s :: pinAllT f (i + 1) r
theorem pinAllT_get (f:Nat→V):∀ (i n:Nat) (ρ:List Sl),(pinAllT f i ρ)[n]?=(ρ[n]?).map (pinT (f (i + n)))
 | _,_,[]=>by simp [pinAllT]
 | i,0,s :: r=>by simp [pinAllT]
 | i,n + 1,s :: r=>by
  have:=pinAllT_get f (i + 1) n r
  rw [show i + 1 + n=i + (n + 1) by omega] at this
  simpa [pinAllT] using this
section
variable {K:PySem.W.Frag} {X:Cx} {e:Expr} {es:List Expr} {u:UE} {w:UL} {pos p:Pos} {rest:List Stmt} {uz:UZ2}
theorem Ev.pinnedT {R:Hp} {W:Addr→Prop} {B H:Hp} {σ:St} {ρ:List Sl} (e:Ev K R W B H σ ρ) {f:Nat→V} (hf:∀ (i:Nat) (v:V),σ[i]?=some (some v)→f i=v) :
  ∃ Bz,Ev K H (frW W σ ρ) Bz H σ (pinAllT f 0 ρ)∧∀ a vs,Bz a=some (.lst vs)→H a=none:=by
 have e1:=e.lookF
 have eW:frW W σ (ρ.map unold)=frW W σ ρ:=by funext a; exact propext unold_frW
 rw [eW] at e1
 generalize lookB R W B H σ ρ=LB at e1
 have nb:∀ a,LB a=none→newL H LB a=none:=fun a h=>by
  cases q:newL H LB a with
  | none=>rfl
  | some o=>have:=newL_sub a o q; rw [h] at this; cases this
 have wd:Wd H (frW W σ ρ) (newL H LB) H:=⟨fun _ _ h _=>h,newL_sub.trans e1.bh,fun a h=>nb a (e1.wb a h),e1.wh,e1.wr⟩
 refine ⟨newL H LB,⟨wd,?_,fun i k h=>?_,fun i j a m1 m2=>?_⟩,fun a vs h=>(newL_out h).2⟩
 ·have:(pinAllT f 0 ρ).length=ρ.length:=by
   have:∀ (n:Nat) (l:List Sl),(pinAllT f n l).length=l.length:=fun n l=>by
    induction l generalizing n with
    | nil=>rfl
    | cons s r ih=>simp [pinAllT,ih]
   exact this 0 ρ
  rw [this]; exact e.len
 ·rw [pinAllT_get,Nat.zero_add] at h
  cases q:ρ[i]? with
  | none=>rw [q] at h; cases h
  | some k0 =>
   rw [q] at h
   have h:=Option.some.inj h
   subst h
   have ql:(ρ.map look)[i]?=some (look k0):=by rw [List.getElem?_map,q]; rfl
   have z:=e1.ok i _ ql
   have pn:∀ d,(∃ v,(σ[i]?).join=some v∧Rep K LB v d)→SlOk K H (frW W σ ρ) (newL H LB) H (σ[i]?).join (.pin (f i) d):=fun d ⟨v,h1,h2⟩=>by
    rw [hf i v (join_some h1)]
    exact ⟨h1,h2.mono (mixB_all e1.bh e1.wb)⟩
   cases k0 with
   | no=>trivial
   | deep c=>trivial
   | val d=>exact pn d z
   | own c =>
    cases c with
    | l ds=>exact pn (.lst ds) z
    | d b t ks ds=>trivial
   | new d=>exact pn d z
   | pin v d=>exact pn d z
   | bag =>
    obtain ⟨b,h1,h2,h3,h4⟩:=z
    exact ⟨b,h1,h2,nb b h3,h4⟩
 ·have back:∀ i,MutAt σ (pinAllT f 0 ρ) i a→ρ[i]?=some .bag:=fun i m=>by
   rcases m with ⟨_,h2⟩ | ⟨c,h1,_⟩
   rotate_left
   ·rw [pinAllT_get,Nat.zero_add] at h1
    cases q:ρ[i]? with
    | none=>rw [q] at h1; cases h1
    | some k0 =>
     rw [q] at h1
     cases k0 with
     | own c=>cases c <;> cases h1
     | _=>cases h1
   rw [pinAllT_get,Nat.zero_add] at h2
   cases q:ρ[i]? with
   | none=>rw [q] at h2; rcases h2 with h2 | ⟨_,h2⟩ <;> cases h2
   | some k0 =>
    rw [q] at h2
    cases k0 with
    | bag=>rfl
    | own c=>cases c <;> rcases h2 with h2 | ⟨_,h2⟩ <;> cases h2
    | _=>rcases h2 with h2 | ⟨_,h2⟩ <;> cases h2
  have nd:∀ (i:Nat) (c:Dp),(pinAllT f 0 ρ)[i]?≠some (Sl.deep c):=fun i c h1=>by
   rw [pinAllT_get,Nat.zero_add] at h1
   cases q:ρ[i]? with
   | none=>rw [q] at h1; cases h1
   | some k0 =>
    rw [q] at h1
    cases k0 with
    | own c=>cases c <;> cases h1
    | _=>cases h1
  exact e.sep i j a (.inl ⟨(mut_in m1 (nd i)).1,.inl (back i m1)⟩) (.inl ⟨(mut_in m2 (nd j)).1,.inl (back j m2)⟩)
theorem ss_scopeT {st:List Stmt} (h:PZ2 X st uz):PSs3 X st (fun U ρ=>∀ f:Nat→V,uz U ρ f (pinAllT f 0 ρ)):=by
 obtain ⟨_,h1,r1⟩:=h
 refine ⟨_,h1,fun U ρ h R W B H σ E e sm=>?_⟩
 have hf:∀ (i:Nat) (v:V),σ[i]?=some (some v)→(fun i=>match σ[i]? with | some (some v)=>v | _=>V.non) i=v:=fun i v h=>by
  dsimp only; rw [h]
 obtain ⟨Bz,ez,nl⟩:=e.pinnedT hf
 exact r1 U ρ _ _ (h _) R W B H σ E e sm hf Bz H σ ez nl
theorem z2_app5 {a b c d f:Stmt} {s:US} (ha:PSs3 X [a,b,c,d,f] s) (hr:PZ2 X rest uz):PZ2 X (a :: b :: c :: d :: f :: rest) (fun U ρ f ρz=>s { nx:=uz U ρ f,rt:=fun _=>False } ρz):=by
 obtain ⟨_,h1,r1⟩:=ha; obtain ⟨_,h2,r2⟩:=hr
 refine ⟨_,pss_app h1 h2,fun U ρ f ρz h R W B H σ E e sm hf Bz Hz σz ez nl=>?_⟩
 refine r1 _ ρz h H (frW W σ ρ) Bz Hz σz _ ez ⟨fun ρ' σ' B' H' z e' g=>?_,fun _ _ _ _ z=>z.elim,fun _ _ _ _ z=>z.elim,fun _ _ _ _ z=>z.elim⟩
 exact r2 U ρ f ρ' z R W B H σ E e sm hf B' H' σ' e' fun a vs h=>(g.n a _ h).elim (nl a vs) id
def TClr (X:Cx) (i j1 j2 j3:Nat) (t:TS):Prop:=∀ (E:Ends) (σ:St) (H:Hp) (a:Addr) (vs:List V) (J:Hp→Prop),σ[i]?=some (some (.ref a))→i≠j1→i≠j2→i≠j3→j1≠j2→j1≠j3→j1 < σ.length→J H→(∀ h,J h→h a=some (.lst vs)) →
 (∀ x∈vs,∃ q b y z,x=.ref q∧(∀ h,J h→h q=some (.tup [.ref b,y,z]))∧(∀ h,J h→∃ ws,h b=some (.lst ws))∧∀ h,J h→J (upd h b (.lst []))) →
 (∀ σ' H',J H'→(∀ n,n≠j1→n≠j2→n≠j3→σ'[n]?=σ[n]?)→σ'.length=σ.length→E.nx σ' H')→t E σ H
theorem ps_clr3 {i j1 j2 j3:Nat} {x y1 y2 y3:Str} {px p1 p2 p3 pt py apos cpos pe pf:Pos} {k0:Nat} (hN:X.N.Nodup) (hi:X.N[i]?=some x) (h1:X.N[j1]?=some y1) (h2:X.N[j2]?=some y2) (h3:X.N[j3]?=some y3) (hx:Vis X.env.scope x) (l1:Loc X.env.scope y1) (l2:Loc X.env.scope y2) (l3:Loc X.env.scope y3) (v1:Vis X.env.scope y1)
  (hp:PassesOwn (model X.prog X.w) X.A X.env X.xe) (hc:X.calm=true)
  (f1:X.fn y1=true∨X.env.scope.names.lookup y1=some .local) (f2:X.fn y2=true∨X.env.scope.names.lookup y2=some .local) (f3:X.fn y3=true∨X.env.scope.names.lookup y3=some .local)
  (hdx:(x == ("__debug__" : Str))=false) (hcx:(x == ("__classdict__" : Str))=false) (hdy:(y1 == ("__debug__" : Str))=false) (hcy:(y1 == ("__classdict__" : Str))=false)
  (hs:∀ v,foldedSetIterable (.Name x px) X.env v=pure v)
  (a1:(assignEach [.Name y1 p1,.Name y2 p2,.Name y3 p3] X.env).map (·.2)=assign (.Name y1 p1) X.env :: (assignEach [.Name y2 p2,.Name y3 p3] X.env).map (·.2))
  (a2:(assignEach [.Name y2 p2,.Name y3 p3] X.env).map (·.2)=assign (.Name y2 p2) X.env :: (assignEach [.Name y3 p3] X.env).map (·.2))
  (a3:(assignEach [.Name y3 p3] X.env).map (·.2)=assign (.Name y3 p3) X.env :: (assignEach [] X.env).map (·.2))
  (an:(assignEach [.Name y1 p1,.Name y2 p2,.Name y3 p3] X.env).length=3) (ast:(assignEach [.Name y1 p1,.Name y2 p2,.Name y3 p3] X.env).findIdx? (·.1)=none)
  (hb:attributeBase (.Name y1 py) "clear" X.env (eval (.Name y1 py) X.env)=eval (.Name y1 py) X.env) (hl:(apos.endLine == cpos.line)=true)
  (hsw:swapsWith (.Call (.Attribute (.Name y1 py) "clear" apos) [] [] cpos) none pe.line X.env=pure false) :
  ∃ t,PS X (.For (.Tuple [.Name y1 p1,.Name y2 p2,.Name y3 p3] k0 pt) (.Name x px) [.Expr (.Call (.Attribute (.Name y1 py) "clear" apos) [] [] cpos) pe] [] pf) t∧TClr X i j1 j2 j3 t:=by
 refine ⟨_,ps_for hp hc (pi_list (pe_var hi hx hdx hcx)) (pg_tup hc (pgs_cons (pg_name hN h1 l1 f1) (pgs_cons (pg_name hN h2 l2 f2) (pgs_cons (pg_name hN h3 l3 f3) pgs_nil a3) a2) a1) an ast)
  (pss_one (ps_expr (pe_bm0 PySem.F.plainAttrs_list PySem.F.slot_list_clear PySem.F.type_list_clear mt_clear (pe_var h1 v1 hdy hcy) hb hl) hsw)) hs,fun E σ H a vs J hσ n1 n2 n3 m2 m3 jl j0 ja hel fin=>?_⟩
 refine ⟨_,hσ,a,rfl,⟨vs,SqL.of (ja H j0)⟩,?_⟩
 refine ⟨fun n m σ' H'=>m=vs.length - n∧n≤vs.length∧(∀ q,q≠j1→q≠j2→q≠j3→σ'[q]?=σ[q]?)∧σ'.length=σ.length∧J H',⟨vs.length,rfl,Nat.zero_le _,fun _ _ _ _=>rfl,rfl,j0⟩,?_⟩
 rintro n m σ' H' ⟨rfl,hn,hs',hl',hJ⟩
 by_cases hlt:n < vs.length
 ·refine .inr ⟨⟨vs,vs[n],SqL.of (ja H' hJ),List.getElem?_eq_getElem hlt⟩,fun σ'' H''=>∃ m',m' < vs.length - n∧(m'=vs.length - (n + 1)∧n + 1≤vs.length∧(∀ q,q≠j1→q≠j2→q≠j3→σ''[q]?=σ[q]?)∧σ''.length=σ.length∧J H''),fun _ _ z=>z,?_⟩
  rintro x0 H1 ⟨rfl,hx0⟩
  have hx0:=hx0 vs (SqL.of (ja _ hJ))
  obtain ⟨q,b,y,z,rfl,hq,hb',hu⟩:=hel x0 (List.mem_of_getElem? hx0)
  obtain ⟨ws,hw⟩:=hb' _ hJ
  refine ⟨q,_,rfl,SqT.of (hq _ hJ),rfl,?_⟩
  refine ⟨_,_,rfl,?_⟩
  refine ⟨_,_,rfl,?_⟩
  refine ⟨_,_,rfl,?_⟩
  refine ⟨rfl,?_⟩
  refine ⟨.ref b,?_,?_⟩
  ·rw [List.getElem?_set_ne (Ne.symm m3),List.getElem?_set_ne (Ne.symm m2),List.getElem?_set_self (by omega)]
  refine ⟨.inl ⟨rfl,ws,SqL.of hw⟩,b,ws,rfl,rfl,hw,?_⟩
  refine ⟨_,by omega,rfl,hlt,fun q q1 q2 q3=>?_,by rw [List.length_set,List.length_set,List.length_set]; exact hl',hu _ hJ⟩
  rw [List.getElem?_set_ne (Ne.symm q3),List.getElem?_set_ne (Ne.symm q2),List.getElem?_set_ne (Ne.symm q1)]
  exact hs' q q1 q2 q3
 ·have en:n=vs.length:=by omega
  subst en
  exact .inl ⟨⟨vs,SqL.of (ja H' hJ),Nat.le_refl _⟩,fin σ' H' hJ hs' hl'⟩
def isPiece3 (d:D):Prop:=∃ r b c,d=.tup [.lst r,b,c]∧flats r=true
theorem piece_ne {B:Hp} {a:Addr} {vs:List V} {ds:List D} (ha:B a=some (.lst vs)) (rs:Reps K B vs ds) (hd:∀ q∈ds,isPiece3 q):∀ x∈vs,∃ q b bs y z,x=.ref q∧B q=some (.tup [.ref b,y,z])∧B b=some (.lst bs)∧a≠b:=fun x hx=>by
 obtain ⟨n,hn⟩:=List.mem_iff_getElem?.mp hx
 obtain ⟨d0,hd0,rx⟩:=rs.getV hn
 obtain ⟨r,b0,c0,rfl,hfl⟩:=hd d0 (List.mem_of_getElem? hd0)
 obtain ⟨q,qs,rfl,hq,rq⟩:=rx.tup_of
 cases rq with
 | cons rb rq =>
  cases rq with
  | cons r2 rq =>
   cases rq with
   | cons r3 rq =>
    cases rq
    obtain ⟨b,bs,rfl,hb,rb'⟩:=rb.lst_of
    refine ⟨q,b,bs,_,_,rfl,hq,hb,?_⟩
    rintro rfl
    rw [ha] at hb
    cases hb
    obtain ⟨d1,hd1,rd1⟩:=rb'.getV hn
    have fd:=flats_at hfl hd1
    cases rd1 with
    | lst _ _=>simp [flat] at fd
    | scr _=>simp [flat] at fd
    | ktup _ _=>simp [flat] at fd
    | dct _ _ _ _=>simp [flat] at fd
    | tup h2 r2 =>
     rw [hq] at h2
     cases h2
     cases r2 with
     | cons rc _ =>
      rw [flat,flats,Bool.and_eq_true] at fd
      exact flat_no_lst rc fd.1 ha
theorem newL_all {H Bz:Hp} (nl:∀ a vs,Bz a=some (.lst vs)→H a=none):newL H Bz=Bz:=by
 funext b
 cases q:Bz b with
 | none =>
  cases q2:newL H Bz b with
  | none=>rfl
  | some o=>have:=newL_sub b o q2; rw [q] at this; cases this
 | some o =>
  by_cases y:∃ vs,o=.lst vs
  ·obtain ⟨vs,rfl⟩:=y; exact newL_at q (nl b vs q)
  ·exact newL_non q fun vs z=>y ⟨vs,z⟩
def zAll (i j1 j2 j3:Nat) (ur:US):UZ2:=fun U ρ f ρz=>(∃ ds,ρz[i]?=some (.val (.lst ds))∧∀ q∈ds,isPiece3 q)∧j1 < ρz.length∧∃ q,Kept f 0 ρ (((ρz.set j1 .no).set j2 .no).set j3 .no) q∧ur U q
theorem pin3 {ρz:List Sl} {σ' σz:St} {j1 j2 j3:Nat} (hs:∀ n,n≠j1→n≠j2→n≠j3→σ'[n]?=σz[n]?) (hz:∀ (n:Nat) (v:V) (d:D),ρz[n]?=some (.pin v d)→σz[n]?=some (some v)) :
  ∀ (n:Nat) (v:V) (d:D),(((ρz.set j1 .no).set j2 .no).set j3 .no)[n]?=some (.pin v d)→σ'[n]?=some (some v):=fun n v d h=>by
 rcases getElem?_set_some h with ⟨_,z⟩ | ⟨n3,h⟩
 ·cases z
 ·rcases getElem?_set_some h with ⟨_,z⟩ | ⟨n2,h⟩
  ·cases z
  ·rcases getElem?_set_some h with ⟨_,z⟩ | ⟨n1,h⟩
   ·cases z
   ·rw [hs n n1 n2 n3]; exact hz n v d h
theorem z2_all {i j1 j2 j3:Nat} {x y1 y2 y3:Str} {px p1 p2 p3 pt py apos cpos pe pf px2 apos2 cpos2 pe2:Pos} {k0:Nat} {ur:US} (hN:X.N.Nodup) (hi:X.N[i]?=some x) (h1:X.N[j1]?=some y1) (h2:X.N[j2]?=some y2) (h3:X.N[j3]?=some y3) (hx:Vis X.env.scope x) (l1:Loc X.env.scope y1) (l2:Loc X.env.scope y2) (l3:Loc X.env.scope y3) (v1:Vis X.env.scope y1)
  (hp:PassesOwn (model X.prog X.w) X.A X.env X.xe) (hc:X.calm=true) (hr:PSs3 X rest ur) (n1:i≠j1:=by decide) (n2:i≠j2:=by decide) (n3:i≠j3:=by decide) (m2:j1≠j2:=by decide) (m3:j1≠j3:=by decide)
  (f1:X.fn y1=true∨X.env.scope.names.lookup y1=some .local:=by first | exact .inl rfl | exact .inr rfl | assumption) (f2:X.fn y2=true∨X.env.scope.names.lookup y2=some .local:=by first | exact .inl rfl | exact .inr rfl | assumption) (f3:X.fn y3=true∨X.env.scope.names.lookup y3=some .local:=by first | exact .inl rfl | exact .inr rfl | assumption)
  (hdx:(x == ("__debug__" : Str))=false:=by decide) (hcx:(x == ("__classdict__" : Str))=false:=by decide) (hdy:(y1 == ("__debug__" : Str))=false:=by decide) (hcy:(y1 == ("__classdict__" : Str))=false:=by decide)
  (hs:∀ v,foldedSetIterable (.Name x px) X.env v=pure v:=by intro _; rfl)
  (a1:(assignEach [.Name y1 p1,.Name y2 p2,.Name y3 p3] X.env).map (·.2)=assign (.Name y1 p1) X.env :: (assignEach [.Name y2 p2,.Name y3 p3] X.env).map (·.2):=by rfl)
  (a2:(assignEach [.Name y2 p2,.Name y3 p3] X.env).map (·.2)=assign (.Name y2 p2) X.env :: (assignEach [.Name y3 p3] X.env).map (·.2):=by rfl)
  (a3:(assignEach [.Name y3 p3] X.env).map (·.2)=assign (.Name y3 p3) X.env :: (assignEach [] X.env).map (·.2):=by rfl)
  (an:(assignEach [.Name y1 p1,.Name y2 p2,.Name y3 p3] X.env).length=3:=by rfl) (ast:(assignEach [.Name y1 p1,.Name y2 p2,.Name y3 p3] X.env).findIdx? (·.1)=none:=by rfl)
  (hb:attributeBase (.Name y1 py) "clear" X.env (eval (.Name y1 py) X.env)=eval (.Name y1 py) X.env:=by rfl) (hl:(apos.endLine == cpos.line)=true:=by rfl)
  (hsw:swapsWith (.Call (.Attribute (.Name y1 py) "clear" apos) [] [] cpos) none pe.line X.env=pure false:=by rfl)
  (hb2:attributeBase (.Name x px2) "clear" X.env (eval (.Name x px2) X.env)=eval (.Name x px2) X.env:=by rfl) (hl2:(apos2.endLine == cpos2.line)=true:=by rfl)
  (hsw2:swapsWith (.Call (.Attribute (.Name x px2) "clear" apos2) [] [] cpos2) none pe2.line X.env=pure false:=by rfl) :
  PZ2 X (.For (.Tuple [.Name y1 p1,.Name y2 p2,.Name y3 p3] k0 pt) (.Name x px) [.Expr (.Call (.Attribute (.Name y1 py) "clear" apos) [] [] cpos) pe] [] pf :: .Expr (.Call (.Attribute (.Name x px2) "clear" apos2) [] [] cpos2) pe2 :: rest) (zAll i j1 j2 j3 ur):=by
 obtain ⟨t,ht,hT⟩:=ps_clr3 (k0:=k0) (pt:=pt) (pf:=pf) hN hi h1 h2 h3 hx l1 l2 l3 v1 hp hc f1 f2 f3 hdx hcx hdy hcy hs a1 a2 a3 an ast hb hl hsw
 obtain ⟨_,h4,r4⟩:=hr
 refine ⟨_,pss_cons ht (pss_cons (ps_expr (pe_bm0 PySem.F.plainAttrs_list PySem.F.slot_list_clear PySem.F.type_list_clear mt_clear (pe_var hi hx hdx hcx) hb2 hl2) hsw2) h4),fun U ρ f ρz h R W B H σ E e sm hf Bz Hz σz ez nl=>?_⟩
 obtain ⟨⟨ds,hti,hps⟩,hjl,qq,kq,h⟩:=h
 have eN:newL H Bz=Bz:=newL_all nl
 obtain ⟨m0,hbn⟩:=Emp.start e ez
 rw [eN] at m0
 obtain ⟨v,hv,rv⟩:=ez.val hti
 obtain ⟨a,vs,rfl,ha,rs⟩:=rv.lst_of
 obtain ⟨lq1,lq2⟩:=kq.length
 refine hT _ σz Hz a vs (fun h'=>Emp X.K W σ ρ H Bz h'∧h' a=some (.lst vs)) hv n1 n2 n3 m2 m3 (by rw [ez.len]; exact hjl) ⟨m0,ez.bh _ _ ha⟩ (fun _ z=>z.2) (fun x hx=>?_) fun σ' H' ⟨hm,hA⟩ hσ' hl'=>?_
 ·obtain ⟨q,b,bs,y,z,rfl,hq,hb,nab⟩:=piece_ne ha rs hps x hx
  exact ⟨q,b,y,z,rfl,fun h' z=>z.1.tp q _ hq,fun h' z=>z.1.ls b _ hb,fun h' z=>⟨z.1.clear hbn hb (nl b _ hb),by rw [upd_ne nab]; exact z.2⟩⟩
 refine ⟨.ref a,by rw [hσ' i n1 n2 n3]; exact hv,.inl ⟨rfl,vs,SqL.of hA⟩,a,vs,rfl,rfl,hA,?_⟩
 have hm:=hm.clear hbn ha (nl a _ ha)
 refine r4 U _ h R W B _ σ' E ((e.unframe hm.fr hm.wh).forget ?_ (kq.same e hf (pin3 hσ' ez.pinAt))) sm
 rw [hl',ez.len,lq2,List.length_set,List.length_set,List.length_set]
def zKeep (i j1 j2 j3 n m:Nat) (s1:US) (uc:UT) (ur:US):UZ2:=fun U ρ f ρz=>(∃ ds,ρz[i]?=some (.val (.lst ds))∧∀ q∈ds,isPiece3 q)∧j1 < ρz.length∧n < ρz.length ∧
 ∃ q db,Kept f 0 ρ ((((ρz.set n .no).set j1 .no).set j2 .no).set j3 .no) q∧q[m]?=some (.val db)∧ur U q ∧
 ∀ f2:Nat→V,s1 { nx:=fun ρ'=>∃ dk,ρ'=(pinAllT f2 0 ρz).set n (.val dk)∧uc (((List.replicate ρz.length Sl.no).set m (.val db)).set n (.val dk)) (fun b=>b=false),rt:=fun _=>False } (pinAllT f2 0 ρz)
theorem z2_keep {i j1 j2 j3 n m:Nat} {a0:Stmt} {c:Expr} {body:List Stmt} {s1 ub:US} {uc:UT} {x y1 y2 y3:Str} {px p1 p2 p3 pt py apos cpos pe pf pi:Pos} {k0:Nat} {ur:US} (hN:X.N.Nodup) (hi:X.N[i]?=some x) (h1:X.N[j1]?=some y1) (h2:X.N[j2]?=some y2) (h3:X.N[j3]?=some y3) (hx:Vis X.env.scope x) (l1:Loc X.env.scope y1) (l2:Loc X.env.scope y2) (l3:Loc X.env.scope y3) (v1:Vis X.env.scope y1)
  (hp:PassesOwn (model X.prog X.w) X.A X.env X.xe) (hc:X.calm=true) (ha0:PS3 X a0 s1) (hcn:PT3 X c uc) (hbd:PSs3 X body ub) (hr:PSs3 X rest ur) (n1:i≠j1:=by decide) (n2:i≠j2:=by decide) (n3:i≠j3:=by decide) (m2:j1≠j2:=by decide) (m3:j1≠j3:=by decide)
  (o0:i≠n:=by decide) (o1:n≠j1:=by decide) (o2:n≠j2:=by decide) (o3:n≠j3:=by decide)
  (f1:X.fn y1=true∨X.env.scope.names.lookup y1=some .local:=by first | exact .inl rfl | exact .inr rfl | assumption) (f2:X.fn y2=true∨X.env.scope.names.lookup y2=some .local:=by first | exact .inl rfl | exact .inr rfl | assumption) (f3:X.fn y3=true∨X.env.scope.names.lookup y3=some .local:=by first | exact .inl rfl | exact .inr rfl | assumption)
  (hdx:(x == ("__debug__" : Str))=false:=by decide) (hcx:(x == ("__classdict__" : Str))=false:=by decide) (hdy:(y1 == ("__debug__" : Str))=false:=by decide) (hcy:(y1 == ("__classdict__" : Str))=false:=by decide)
  (hs:∀ v,foldedSetIterable (.Name x px) X.env v=pure v:=by intro _; rfl)
  (a1:(assignEach [.Name y1 p1,.Name y2 p2,.Name y3 p3] X.env).map (·.2)=assign (.Name y1 p1) X.env :: (assignEach [.Name y2 p2,.Name y3 p3] X.env).map (·.2):=by rfl)
  (a2:(assignEach [.Name y2 p2,.Name y3 p3] X.env).map (·.2)=assign (.Name y2 p2) X.env :: (assignEach [.Name y3 p3] X.env).map (·.2):=by rfl)
  (a3:(assignEach [.Name y3 p3] X.env).map (·.2)=assign (.Name y3 p3) X.env :: (assignEach [] X.env).map (·.2):=by rfl)
  (an:(assignEach [.Name y1 p1,.Name y2 p2,.Name y3 p3] X.env).length=3:=by rfl) (ast:(assignEach [.Name y1 p1,.Name y2 p2,.Name y3 p3] X.env).findIdx? (·.1)=none:=by rfl)
  (hb:attributeBase (.Name y1 py) "clear" X.env (eval (.Name y1 py) X.env)=eval (.Name y1 py) X.env:=by rfl) (hl:(apos.endLine == cpos.line)=true:=by rfl)
  (hsw:swapsWith (.Call (.Attribute (.Name y1 py) "clear" apos) [] [] cpos) none pe.line X.env=pure false:=by rfl) :
  PZ2 X (a0 :: .For (.Tuple [.Name y1 p1,.Name y2 p2,.Name y3 p3] k0 pt) (.Name x px) [.Expr (.Call (.Attribute (.Name y1 py) "clear" apos) [] [] cpos) pe] [] pf :: .If c body [] pi :: rest) (zKeep i j1 j2 j3 n m s1 uc ur):=by
 obtain ⟨t,ht,hT⟩:=ps_clr3 (k0:=k0) (pt:=pt) (pf:=pf) hN hi h1 h2 h3 hx l1 l2 l3 v1 hp hc f1 f2 f3 hdx hcx hdy hcy hs a1 a2 a3 an ast hb hl hsw
 obtain ⟨_,g1,r1⟩:=ha0
 obtain ⟨_,g2,r2⟩:=hcn
 obtain ⟨_,g3,_⟩:=hbd
 obtain ⟨_,h4,r4⟩:=hr
 refine ⟨_,pss_cons g1 (pss_cons ht (pss_cons (ps_if g2 g3 pss_nil) h4)),fun U ρ f ρz h R W B H σ E e sm hf Bz Hz σz ez nl=>?_⟩
 obtain ⟨⟨ds,hti,hps⟩,hjl,hnl,qq,db,kq,hqm,h,hs1⟩:=h
 obtain ⟨fz,hfz⟩:∃ fz:Nat→V,∀ (i:Nat) (v:V),σz[i]?=some (some v)→fz i=v:=⟨fun i=>match σz[i]? with | some (some v)=>v | _=>V.non,fun i v h=>by dsimp only; rw [h]⟩
 obtain ⟨BC,eC,nlC⟩:=ez.pinnedT hfz
 refine r1 _ _ (hs1 fz) Hz _ BC Hz σz _ eC ⟨fun ρ' σ' B' H' z e' g=>?_,fun _ _ _ _ z=>z.elim,fun _ _ _ _ z=>z.elim,fun _ _ _ _ z=>z.elim⟩
 obtain ⟨dk,rfl,hu⟩:=z
 have nl':∀ a vs,B' a=some (.lst vs)→Hz a=none:=fun a vs h=>(g.n a _ h).elim (nlC a vs) id
 have ez2:Ev X.K H (frW W σ ρ) Bz H' σz ρz:=ez.unframe e'.fr e'.wh
 have eN:newL H Bz=Bz:=newL_all nl
 obtain ⟨m0,hbn⟩:=Emp.start e ez2
 rw [eN] at m0
 obtain ⟨v,hv,rv⟩:=ez.val hti
 obtain ⟨a,vs,rfl,ha,rs⟩:=rv.lst_of
 obtain ⟨lq1,lq2⟩:=kq.length
 have pinned:∀ (p:Nat) (v:V),p≠n→σz[p]?=some (some v)→(∃ d,(ρz[p]?).map (pinT (fz p))=some (.pin (fz p) d))→σ'[p]?=some (some v):=fun p v hpn hσ ⟨d,hd⟩=>by
  have q:=e'.pinAt p (fz p) d (by rw [List.getElem?_set_ne (Ne.symm hpn),pinAllT_get,Nat.zero_add]; exact hd)
  rw [q,hfz p v hσ]
 have hv':σ'[i]?=some (some (.ref a)):=pinned i _ o0 hv ⟨.lst ds,by rw [hti]; rfl⟩
 have hpin:∀ (p:Nat) (v:V) (d:D),(ρz.set n .no)[p]?=some (.pin v d)→σ'[p]?=some (some v):=fun p v d hh=>by
  rcases getElem?_set_some hh with ⟨_,z⟩ | ⟨np,hh⟩
  ·cases z
  ·exact pinned p v np (ez.pinAt p v d hh) ⟨d,by rw [hh]; rfl⟩
 have lenP:(pinAllT fz 0 ρz).length=ρz.length:=by rw [← eC.len,ez.len]
 have lσ:σ'.length=ρz.length:=by rw [e'.len,List.length_set,lenP]
 obtain ⟨vk,hvk,rvk⟩:=e'.val (i:=n) (d:=dk) (List.getElem?_set_self (by rw [lenP]; exact hnl))
 refine hT _ σ' H' a vs (fun h'=>Emp X.K W σ ρ H Bz h'∧h' a=some (.lst vs)∧Same B' h') hv' n1 n2 n3 m2 m3 (by rw [lσ]; exact hjl) ⟨m0,ez2.bh _ _ ha,e'.bh⟩ (fun _ z=>z.2.1) (fun x hx=>?_) fun σ2 H2 ⟨hm,_,hsame⟩ hσ2 hl2=>?_
 ·obtain ⟨q,b,bs,y,z,rfl,hq,hb,nab⟩:=piece_ne ha rs hps x hx
  refine ⟨q,b,y,z,rfl,fun h' z=>z.1.tp q _ hq,fun h' z=>z.1.ls b _ hb,fun h' z=>⟨z.1.clear hbn hb (nl b _ hb),by rw [upd_ne nab]; exact z.2.1,fun a' o ho=>?_⟩⟩
  have:a'≠b:=by
   rintro rfl
   have q1:=e'.bh _ _ ho
   rw [ez2.bh _ _ hb] at q1
   cases q1
   have q2:=nl' _ _ ho
   rw [ez.bh _ _ hb] at q2
   cases q2
  rw [upd_ne this]
  exact z.2.2 a' o ho
 have hz:=pin3 hσ2 hpin
 have hsm:=kq.same e hf hz
 obtain ⟨BD,bd1,bd2⟩:∃ BD:Hp,(∀ a,frW W σ ρ a→BD a=none)∧∀ a,¬ frW W σ ρ a→BD a=H2 a:=by
  classical
  exact ⟨fun a=>if frW W σ ρ a then none else H2 a,fun a h=>if_pos h,fun a h=>if_neg h⟩
 have bdH:Same BD H2:=fun a o ho=>by
  by_cases z:frW W σ ρ a
  ·rw [bd1 a z] at ho; cases ho
  ·rw [bd2 a z] at ho; exact ho
 have sBD:∀ {B0:Hp},Same B0 H2→(∀ a,frW W σ ρ a→B0 a=none)→Same B0 BD:=fun {B0} s1 s2 a o ho=>by
  by_cases z:frW W σ ρ a
  ·rw [s2 a z] at ho; cases ho
  ·rw [bd2 a z]; exact s1 a o ho
 have e2:=e.unframe hm.fr hm.wh
 have eD:Ev X.K H2 (frW W σ ρ) BD H2 σ2 (((List.replicate ρz.length Sl.no).set m (.val db)).set n (.val dk)):=by
  have cs:∀ (p:Nat) (k:Sl),(((List.replicate ρz.length Sl.no).set m (.val db)).set n (.val dk))[p]?=some k→(p=n∧k=.val dk)∨(p=m∧k=.val db)∨k=.no:=fun p k hk=>by
   rcases getElem?_set_some hk with ⟨z1,z⟩ | ⟨_,hk⟩
   ·exact .inl ⟨z1,z⟩
   ·rcases getElem?_set_some hk with ⟨z1,z⟩ | ⟨_,hk⟩
    ·exact .inr (.inl ⟨z1,z⟩)
    ·rw [List.getElem?_replicate] at hk
     split at hk
     ·exact .inr (.inr (Option.some.inj hk).symm)
     ·cases hk
  refine ⟨⟨fun _ _ z _=>z,bdH,bd1,hm.wh,fun a z=>by obtain ⟨x',y',q',_⟩:=hm.wh a z; rw [q']; simp⟩,by rw [hl2,lσ,List.length_set,List.length_set,List.length_replicate],fun p k hk=>?_,fun p q a m1 _=>?_⟩
  ·rcases cs p k hk with ⟨rfl,rfl⟩ | ⟨rfl,rfl⟩ | rfl
   ·refine ⟨vk,?_,rvk.mono (sBD hsame fun a z=>e'.wb a (.inl z))⟩
    rw [hσ2 p o1 o2 o3,hvk]; rfl
   ·rcases hsm p _ hqm with z | ⟨z1,z2⟩
    ·cases z
    ·obtain ⟨vb,hvb,rvb⟩:=e.val z1
     refine ⟨vb,by rw [z2,hvb]; rfl,rvb.mono (sBD e2.bh fun a z=>(e.frW_B z).1)⟩
   ·trivial
  ·rcases m1 with ⟨_,z | ⟨c,z⟩⟩ | ⟨c,z,_⟩
   ·rcases cs p _ z with ⟨_,q⟩ | ⟨_,q⟩ | q <;> cases q
   ·rcases cs p _ z with ⟨_,q⟩ | ⟨_,q⟩ | q <;> cases q
   ·rcases cs p _ z with ⟨_,q⟩ | ⟨_,q⟩ | q <;> cases q
 refine r2 _ _ hu H2 _ BD H2 σ2 _ eD fun b B3 H3 z e3 g3=>?_
 subst z
 rw [if_neg Bool.false_ne_true]
 refine r4 U _ h R W B H3 σ2 E ((e.unframe (fun a o ho nw=>e3.fr a o (hm.fr a o ho nw) nw) e3.wh).forget ?_ hsm) sm
 rw [hl2,lσ,lq2,List.length_set,List.length_set,List.length_set,List.length_set]
end
end L3
namespace Cut
open PySem L2 L3
theorem back2 {s:Piece} (hs:PtP s.2.2) (hp:∀ p∈s.1,PtP p):backS (backS s)=s:=by
 have e:=led_back_ring hs hp
 obtain ⟨r,t,g⟩:=s
 show (ledR (backS (r,t,g)),t,_)=(r,t,g)
 rw [e]
 cases t with
 | true=>rfl
 | false =>
  show (r,false,trn (trn g))=_
  have:trn (trn g)=g:=by
   unfold trn
   simp
  rw [this]
theorem back2s {ms:List Piece} (h:∀ s∈ms,PtP s.2.2∧∀ p∈s.1,PtP p):(ms.map backS).map backS=ms:=by
 rw [List.map_map]
 conv=>rhs; rw [← List.map_id ms]
 exact List.map_congr_left fun s hs=>back2 (h s hs).1 (h s hs).2
theorem lin_in {a b c o:P3} {X:Int} (h:0 < det3 a b c) (st:StIn o [a,b,c]):∃ x y z:Int,0 < x∧0 < y∧0 < z∧det3 a b c * (o.1 - X * o.2.2)=x * (a.1 - X * a.2.2) + y * (b.1 - X * b.2.2) + z * (c.1 - X * c.2.2):=by
 have h1:0 < det3 c a o:=st (c,a) (by show (c,a)∈[(c,a),(a,b),(b,c)]; simp)
 have h2:0 < det3 a b o:=st (a,b) (by show (a,b)∈[(c,a),(a,b),(b,c)]; simp)
 have h3:0 < det3 b c o:=st (b,c) (by show (b,c)∈[(c,a),(a,b),(b,c)]; simp)
 refine ⟨det3 b c o,det3 c a o,det3 a b o,h3,h1,h2,?_⟩
 unfold det3 crs
 dsimp only
 grind
theorem in_left {r:List P3} {o:P3} {X:Int} (h:IsTri r) (st:StIn o r) (hp:∀ p∈r,p.1 - X * p.2.2 < 0):o.1 - X * o.2.2 < 0:=by
 obtain ⟨a,b,c,rfl,d⟩:=h
 obtain ⟨x,y,z,x0,y0,z0,e⟩:=lin_in (X:=X) d st
 have ha:=Int.mul_neg_of_pos_of_neg x0 (hp a (by simp))
 have hb:=Int.mul_neg_of_pos_of_neg y0 (hp b (by simp))
 have hc:=Int.mul_neg_of_pos_of_neg z0 (hp c (by simp))
 rcases Int.lt_or_le (o.1 - X * o.2.2) 0 with q | q
 ·exact q
 ·have:=Int.mul_nonneg (Int.le_of_lt d) q
  omega
theorem in_right {r:List P3} {o:P3} {X:Int} (h:IsTri r) (st:StIn o r) (hp:∀ p∈r,0 < p.1 - X * p.2.2):0 < o.1 - X * o.2.2:=by
 obtain ⟨a,b,c,rfl,d⟩:=h
 obtain ⟨x,y,z,x0,y0,z0,e⟩:=lin_in (X:=X) d st
 have ha:=Int.mul_pos x0 (hp a (by simp))
 have hb:=Int.mul_pos y0 (hp b (by simp))
 have hc:=Int.mul_pos z0 (hp c (by simp))
 rcases Int.lt_or_le 0 (o.1 - X * o.2.2) with q | q
 ·exact q
 ·have:=Int.mul_nonneg (Int.le_of_lt d) (show 0 ≤ -(o.1 - X * o.2.2) by omega)
  rw [Int.mul_neg] at this
  omega
theorem rx_lt {p:P3} {X:Int} (h:PtP p):p.1 - X * p.2.2 < 0↔rX p < (X:Rat):=by
 have z:=rpos.mpr h.1
 have e:rX p * (p.2.2:Rat)=(p.1:Rat):=by unfold rX; grind
 constructor
 ·intro q
  have q':(p.1:Rat) < (X:Rat) * (p.2.2:Rat):=by
   rw [← Rat.intCast_mul]
   exact Rat.intCast_lt_intCast.mpr (by omega)
  rw [← e] at q'
  exact Rat.lt_of_mul_lt_mul_right q' (Rat.le_of_lt z)
 ·intro q
  have q':=Rat.mul_lt_mul_of_pos_right q z
  rw [e,← Rat.intCast_mul] at q'
  have:=Rat.intCast_lt_intCast.mp q'
  omega
theorem rx_gt {p:P3} {X:Int} (h:PtP p):0 < p.1 - X * p.2.2↔(X:Rat) < rX p:=by
 have z:=rpos.mpr h.1
 have e:rX p * (p.2.2:Rat)=(p.1:Rat):=by unfold rX; grind
 constructor
 ·intro q
  have q':(X:Rat) * (p.2.2:Rat) < (p.1:Rat):=by
   rw [← Rat.intCast_mul]
   exact Rat.intCast_lt_intCast.mpr (by omega)
  rw [← e] at q'
  exact Rat.lt_of_mul_lt_mul_right q' (Rat.le_of_lt z)
 ·intro q
  have q':=Rat.mul_lt_mul_of_pos_right q z
  rw [e,← Rat.intCast_mul] at q'
  have:=Rat.intCast_lt_intCast.mp q'
  omega
theorem led_range {t:Bool} {p:P3} {k d e:Int} (hp:PtP p) (bx:BxP p) (d0:0≤d) (d1:d≤8):(60 * k - 5:Int)≤rX (ledP t (60 * k + d,e,1) p)∧rX (ledP t (60 * k + d,e,1) p)≤((60 * k + 13:Int):Rat):=by
 have hg:PtP ((60 * k + d,e,1):P3):=⟨(show (0:Int) < 1 by decide),by show Nat.gcd _ 1=1; exact Nat.gcd_one_right _⟩
 have q:=(led_rX (t:=t) hg hp).1
 have g:rX ((60 * k + d,e,1):P3)=((60 * k + d:Int):Rat):=by
  show ((60 * k + d:Int):Rat) / ((1:Int):Rat)=_
  grind
 rw [q,g]
 have dl:(0:Rat)≤(d:Rat):=by exact_mod_cast d0
 have dh:(d:Rat)≤8:=by exact_mod_cast d1
 obtain ⟨b1,b2,_,_⟩:=bx
 have c1:((60 * k + d:Int):Rat)=60 * (k:Rat) + (d:Rat):=by push_cast; rfl
 have c2:((60 * k - 5:Int):Rat)=60 * (k:Rat) - 5:=by push_cast; rfl
 have c3:((60 * k + 13:Int):Rat)=60 * (k:Rat) + 13:=by push_cast; rfl
 rw [c1,c2,c3]
 cases t with
 | true=>simp only [if_true]; constructor <;> grind
 | false=>simp only [Bool.false_eq_true,if_false]; constructor <;> grind
theorem dj_led {ms:List Piece} (st:StepsOk ms) (h:∀ s∈ms,IsTri s.1∧∀ p∈s.1,PtP p∧BxP p):Dj (ms.map ledR):=by
 unfold Dj
 rw [List.pairwise_map,List.pairwise_iff_getElem]
 intro i j hi hj hij o o1 o2
 obtain ⟨d,e,q,d0,d1,_,_⟩:=st i ms[i] (List.getElem?_eq_getElem hi)
 obtain ⟨d',e',q',d0',d1',_,_⟩:=st j ms[j] (List.getElem?_eq_getElem hj)
 obtain ⟨t1,p1⟩:=h ms[i] (List.getElem_mem hi)
 obtain ⟨t2,p2⟩:=h ms[j] (List.getElem_mem hj)
 generalize ms[i]=s at o1 q t1 p1
 generalize ms[j]=s' at o2 q' t2 p2
 have gp:∀ {k d e:Int},PtP ((60 * k + d,e,1):P3):=fun {k d e}=>⟨(show (0:Int) < 1 by decide),by show Nat.gcd _ 1=1; exact Nat.gcd_one_right _⟩
 have r1:=led_tri t1 (fun p hp=>(p1 p hp).1) (by rw [q]; exact gp)
 have r2:=led_tri t2 (fun p hp=>(p2 p hp).1) (by rw [q']; exact gp)
 have a1:=in_left (X:=60 * i + 14) r1 o1 fun p hp=>by
  unfold ledR at hp
  obtain ⟨x,hx,rfl⟩:=List.mem_map.mp hp
  rw [q]
  refine (rx_lt (led_pt gp (p1 x hx).1)).mpr ?_
  have:=(led_range (t:=s.2.1) (e:=e) (k:=(i:Int)) (p1 x hx).1 (p1 x hx).2 d0 d1).2
  have q1:((60 * (i:Int) + 13:Int):Rat) < ((60 * (i:Int) + 14:Int):Rat):=Rat.intCast_lt_intCast.mpr (by omega)
  grind
 have a2:=in_right (X:=60 * i + 14) r2 o2 fun p hp=>by
  unfold ledR at hp
  obtain ⟨x,hx,rfl⟩:=List.mem_map.mp hp
  rw [q']
  refine (rx_gt (led_pt gp (p2 x hx).1)).mpr ?_
  have:=(led_range (t:=s'.2.1) (e:=e') (k:=(j:Int)) (p2 x hx).1 (p2 x hx).2 d0' d1').1
  have q1:((60 * (i:Int) + 14:Int):Rat) < ((60 * (j:Int) - 5:Int):Rat):=Rat.intCast_lt_intCast.mpr (by omega)
  grind
 omega
theorem led_w {t:Bool} {g p:P3} (hg:GP 20 g) (hp:PtP p):GP (bw p + 21) (ledP t g p):=by
 unfold ledP
 have h:=bw_gp hp
 cases t with
 | true=>rw [if_pos rfl]; exact (hg.sl h.trn).mono (by omega)
 | false=>rw [if_neg Bool.false_ne_true]; exact (hg.sl h).mono (by omega)
theorem led_sz {s:Piece} (h:TrW 441 236 s.1) (hg:GP 20 s.2.2):IsTri (ledR s)∧(∀ p∈ledR s,GP 350 p)∧bws (ledR s)≤520:=by
 refine ⟨led_tri h.1 (fun p hp=>(h.2.1 p hp).1) hg.pt,fun p hp=>?_,?_⟩
 ·unfold ledR at hp
  obtain ⟨x,hx,rfl⟩:=List.mem_map.mp hp
  refine (led_w hg (h.2.1 x hx).1).mono ?_
  have:=(h.2.1 x hx).2.2
  omega
 ·obtain ⟨⟨a,b,c,e,_⟩,hp,hb⟩:=h
  unfold ledR
  rw [e] at hp hb ⊢
  have ha:=bw_le (led_w (t:=s.2.1) hg (hp a (by simp)).1).bp
  have hb':=bw_le (led_w (t:=s.2.1) hg (hp b (by simp)).1).bp
  have hc:=bw_le (led_w (t:=s.2.1) hg (hp c (by simp)).1).bp
  unfold bws at hb ⊢
  simp only [List.map_cons,List.map_nil,List.sum_cons,List.sum_nil] at hb ⊢
  omega
end Cut
namespace Cut
open PySem L2 L3
open PySem.Builtin.Int (intBits)
structure Blts (mg:Str→Option Value):Prop where
 len_:mg "len" = none
 abs_:mg "abs" = none
 int_:mg "int" = none
 bool_:mg "bool" = none
 tuple_:mg "tuple" = none
 isinstance_:mg "isinstance" = none
 range_:mg "range" = none
 all_:mg "all" = none
 sum_:mg "sum" = none
 list_:mg "list" = none
 ValueError_:mg "ValueError" = none
 zip_:mg "zip" = none
 str_:mg "str" = none
 enumerate_:mg "enumerate" = none
 set_:mg "set" = none
 max_:mg "max" = none
 min_:mg "min" = none
 sorted_:mg "sorted" = none
local macro_rules | `(tactic| walk_at "bu") => `(tactic| first | assumption | exact intBits_sub_le (by walk_at "bu") (by walk_at "bu") | exact intBits_add_le (by walk_at "bu") (by walk_at "bu") | exact intBits_mul_le (by walk_at "bu") (by walk_at "bu") | exact intBits_neg_le (by walk_at "bu") | exact intBits_fdiv_le (by walk_at "bu") | exact bits_om (by omega) (by omega) | fail)
local macro_rules | `(tactic| walk_at "bits") => `(tactic| ((with_reducible show intBits _ ≤ _); first | assumption | exact Nat.le_trans (bits_om (by omega) (by omega)) (by decide) | decide +kernel | exact Nat.le_trans (by walk_at "bu") (by first | omega | decide) | fail))
local macro_rules | `(tactic| walk_at "sd") => `(tactic| first | ((with_reducible show intBits _ ≤ _); walk_at "bits") | ((with_reducible show CMulB _ _); exact ⟨by walk_at "bits", by walk_at "bits"⟩) | ((with_reducible show CDivB _ _); exact ⟨by omega, by walk_at "bits"⟩) | ((with_reducible show (_ : Int) < _); first | omega | decide +kernel) | ((with_reducible show (_ : Int) ≤ _); first | omega | decide +kernel) | ((with_reducible show CPow _ _); exact ⟨by decide, by decide, by decide⟩) | ((with_reducible show List.length _ ≤ sizeLine); first | (show 2 ≤ sizeLine; decide) | (show 3 ≤ sizeLine; decide) | (show 1 ≤ sizeLine; decide) | (show 0 ≤ sizeLine; decide) | (show 4 ≤ sizeLine; decide)) | fail)
local macro_rules | `(tactic| walk_at "w1") => `(tactic| first | refine ⟨_, rfl, ?_⟩ | refine ⟨_, _, rfl, rfl, ?_⟩ | refine ⟨_, _, rfl, rfl, by walk_at "sd", ?_⟩ | refine ⟨_, _, _, .inl rfl, rfl, rfl, ?_⟩ | refine ⟨_, _, _, .inr rfl, rfl, rfl, ?_⟩ | refine ⟨_, _, rfl, fun _ => rfl, ?_⟩ | refine ⟨by walk_at "sd", ?_⟩ | refine ⟨rfl, ?_⟩)
local macro_rules | `(tactic| walk_at "w") => `(tactic| repeat walk_at "w1")
local macro_rules | `(tactic| walk_at "wd") => `(tactic| (walk_at "w"; try dsimp only [fzR]))
local macro_rules | `(tactic| walk_at "it") => `(tactic| first | exact .inl (by assumption) | exact .inr (by assumption))
local macro_rules | `(tactic| walk_at "r0") => `(tactic| repeat (first | refine ⟨_, rfl, ?_⟩ | refine ⟨_, _, rfl, rfl, ?_⟩ | refine ⟨_, _, _, _, rfl, rfl, by walk_at "it", rfl, ?_⟩ | refine ⟨by walk_at "sd", ?_⟩))
local macro_rules | `(tactic| walk_at "rd") => `(tactic| (walk_at "r0"; try dsimp only))
local macro_rules | `(tactic| walk_at "fall") => `(tactic| first | exact List.forall_mem_cons.mpr ⟨rfl, by walk_at "fall"⟩ | exact List.forall_mem_nil _)
local macro_rules | `(tactic| walk_at "fal2") => `(tactic| first | exact List.forall_mem_nil _ | exact List.forall_mem_cons.mpr ⟨fun h => absurd h (by decide), by walk_at "fal2"⟩ | exact List.forall_mem_cons.mpr ⟨fun _ => ⟨_, rfl⟩, by walk_at "fal2"⟩)
local macro_rules | `(tactic| walk_at "fsub") => `(tactic| exact fsub_of (by walk_at "fall"))
local macro_rules | `(tactic| walk_at "fhas") => `(tactic| exact fhas_of (by walk_at "fal2"))
local macro_rules | `(tactic| walk_at "ffr") => `(tactic| (intro i y e; rcases i with _ | _ | _ | _ | _ | i <;> first | (cases e; done) | (cases e; exact ⟨_, rfl, rfl, rfl, Or.inl rfl, _, rfl⟩)))
theorem sc_law_cell:FnScope ["_law_script", "_law_k"] ["_law_script", "_law_k"] (defScope s_law_cell):=⟨rfl,rfl,rfl,by decide +kernel,rfl,by decide +kernel,by decide +kernel⟩
theorem ok_law_cell (B:Blts mg) (F:Fnd K mg "_law_cell" s_law_cell ["_law_script", "_law_k"]) :
  Cal P w K mg base "_law_cell" ["_law_script", "_law_k"] 1 (Con K 2 F_cell):=by
 refine Cal.imp (sp:=spCell K) ?_ (fun vs H Q E h=>cell_con h)
 refine F.ok (k:=0) sc_law_cell (fun vs H Q E h=>?_) (fun f cdv A outer s H vs Q E hr h=>?_)
 ·obtain ⟨a,k,ns,rfl,hS,h0,q⟩:=h
  rfl
 obtain ⟨a,k,ns,rfl,hS,h0,q⟩:=h
 refine ⟨_,(pss_cons (ps_if (pt_cmpR op_lt (pv 1) (pe_callB call_len_seq (by rfl) B.len_ (by decide +kernel) (pa_cons (pv 0) pa_nil)) (nomark _)) (pss_one (ps_ret (pe_ix ix_list (pv 0) (pv 1) (fun _ _=>rfl)))) pss_nil) (pss_one (ps_ret pe_int))),?_⟩
 refine ⟨_,rfl,_,rfl,a,_,rfl,.inl hS,_,_,rfl,rfl,_,rfl,?_⟩
 refine iteD (fun c=>?_) (fun c=>?_)
 ·rw [List.length_map] at c
  have hk:k.toNat < ns.length:=by omega
  have ek:k=((k.toNat:Nat):Int):=by omega
  have z:atI (ns.map V.int) ((k.toNat:Nat):Int)=some (.int ns[k.toNat]):=atI_nat (by rw [List.getElem?_map,List.getElem?_eq_getElem hk] <;> rfl)
  rw [← ek] at z
  exact ⟨_,rfl,_,rfl,a,_,_,_,rfl,rfl,hS,z,q _⟩
 ·exact q _
theorem sc_law_bag:FnScope ["_law_cell_here"] ["_law_cell_here"] (defScope s_law_bag):=⟨rfl,rfl,rfl,by decide +kernel,rfl,by decide +kernel,by decide +kernel⟩
theorem ok_bagC (B:Blts mg) (F:Fnd K mg "_law_bag" s_law_bag ["_law_cell_here"]) :
  Cal P w K mg base "_law_bag" ["_law_cell_here"] 1 (Con K 1 F_bag):=by
 refine Cal.imp (sp:=spBag) ?_ (fun vs H Q E h=>bag_con h)
 refine F.ok (k:=0) sc_law_bag (fun vs H Q E h=>?_) (fun f cdv A outer s H vs Q E hr h=>?_)
 ·obtain ⟨c,rfl,q⟩:=h
  rfl
 obtain ⟨c,rfl,q⟩:=h
 refine ⟨_,(pss_one (ps_ret (pe_lst (pa_cons (pe_op op_mul (pv 0) (pe_callTy call_int1 (by rfl) B.int_ (by decide +kernel) (pa_cons (pe_cmpR op_ge (pv 0) (pe_op op_pow pe_int pe_int) (nomark _)) pa_nil))) (pa_cons (pe_op op_mod (pv 0) pe_int) pa_nil))))),?_⟩
 have e18:(10:Int) ^ ((18:Int).toNat)=1000000000000000000:=rfl
 walk_at "rd"
 have m0:=Int.emod_nonneg c (show (2147483647:Int)≠0 by decide)
 have m1:=Int.emod_lt_of_pos c (show (0:Int) < 2147483647 by decide)
 rw [e18]
 refine .inr ⟨_,rfl,_,_,rfl,rfl,.inr ?_,?_⟩
 ·split <;> constructor <;> decide
 walk_at "rd"
 refine fun p hp=>q p _ _ hp ?_ m0 m1
 split
 ·rename_i h
  have h:1000000000000000000≤c:=by simpa using h
  omega
 ·omega
theorem sc_law_digit:FnScope ["_law_bag_here", "_law_many", "_law_found"] ["_law_bag_here", "_law_many"] (defScope s_law_digit):=⟨rfl,rfl,rfl,by decide +kernel,rfl,by decide +kernel,by decide +kernel⟩
theorem ok_digitC (B:Blts mg) (F:Fnd K mg "_law_digit" s_law_digit ["_law_bag_here", "_law_many"]) :
  Cal P w K mg base "_law_digit" ["_law_bag_here", "_law_many"] 1 (Con K 2 (F_draw 400)):=by
 refine Cal.imp (sp:=spDraw 400) ?_ (fun vs H Q E h=>draw_con h)
 refine F.ok (k:=0) sc_law_digit (fun vs H Q E h=>?_) (fun f cdv A outer s H vs Q E hr h=>?_)
 ·obtain ⟨b,m,rfl,⟨x,y,hb,x0,y0,y1⟩,m0,m1,q⟩:=h
  rfl
 obtain ⟨b,m,rfl,⟨x,y,hb,x0,y0,y1⟩,m0,m1,q⟩:=h
 refine ⟨_,(pss_cons (ps_if (pt_cmpR op_gt (pe_ix ix_any (pv 0) pe_int (fun _ _=>rfl)) pe_int (nomark _)) (pss_cons (ps_set (i:=2) sc_law_digit.nd rfl (Or.inl rfl) (pe_op op_mod (pe_ix ix_any (pv 0) pe_int (fun _ _=>rfl)) (pv 1))) (pss_cons (ps_asg (pe_op op_fdivB (pe_ix ix_any (pv 0) pe_int (fun _ _=>rfl)) (pv 1)) (pg_sub (pv 0) pe_int set_list)) (pss_one (ps_ret (pv 2))))) pss_nil) (pss_cons (ps_asg (pe_op op_mod (pe_op op_add (pe_op op_mulB (pe_ix ix_any (pv 0) pe_int (fun _ _=>rfl)) pe_int) pe_int) pe_int) (pg_sub (pv 0) pe_int set_list)) (pss_one (ps_ret (pe_op op_mod (pe_op op_fdivB (pe_op op_mod (pe_op op_mulB (pe_ix ix_any (pv 0) pe_int (fun _ _=>rfl)) pe_int) pe_int) pe_int) (pv 1)))))),?_⟩
 walk_at "rd"
 refine iteD (fun g=>?_) (fun g=>?_)
 ·walk_at "rd"
  refine ⟨b,_,_,_,rfl,rfl,hb,rfl,?_⟩
  refine ⟨_,rfl,?_⟩
  refine q _ _ (Ext.upd b H _) ⟨_,_,upd_same,?_,y0,y1⟩ (Int.emod_nonneg _ (by omega)) (Int.emod_lt_of_pos _ m0)
  exact Int.fdiv_nonneg x0 (Int.le_of_lt m0)
 ·have m2:=Int.emod_nonneg (y * 48271 + 11) (show (2147483647:Int)≠0 by decide)
  have m3:=Int.emod_lt_of_pos (y * 48271 + 11) (show (0:Int) < 2147483647 by decide)
  walk_at "rd"
  refine ⟨b,_,_,_,rfl,rfl,hb,rfl,?_⟩
  generalize (y * 48271 + 11) % 2147483647=z at m2 m3 ⊢
  have hb2:(upd H b (.lst ([V.int x,V.int y].set 1 (V.int z)))) b=some (.lst [.int x,.int z]):=upd_same
  walk_at "rd"
  refine q _ _ (Ext.upd b H _) ⟨_,_,hb2,x0,m2,m3⟩ (Int.emod_nonneg _ (by omega)) (Int.emod_lt_of_pos _ m0)
theorem sc_law_point:FnScope ["_law_a", "_law_b", "_law_n", "_law_one", "_law_other", "_law_rest"] ["_law_a", "_law_b", "_law_n"] (defScope s_law_point):=⟨rfl,rfl,rfl,by decide +kernel,rfl,by decide +kernel,by decide +kernel⟩
def F_ptC:FS:=fun as k=>∃ (a b n:Int),as=[.val (.int a),.val (.int b),.val (.int n)]∧(0 < n)∧(intBits n≤9000)∧k (.val (dP (npt a b n)))
theorem ok_ptC (B:Blts mg)   (F:Fnd K mg "_law_point" s_law_point ["_law_a", "_law_b", "_law_n"])  :
  Cal P w K mg base "_law_point" ["_law_a", "_law_b", "_law_n"] 2 (Con K 3 F_ptC):=by
 refine def3 (lv:=1) F sc_law_point rfl (fun f cdv A outer s H E hr=>⟨_,(s_cons (s_set (i:=3) sc_law_point.nd rfl (Or.inl rfl) (e_abs (v3 0) (by rfl) B.abs_)) (s_cons (s_for PassesOwn.never rfl (i_list (o_e (o_lst (l_cons (e_abs (v3 1) (by rfl) B.abs_) (l_cons (v3 2) l_nil))))) (g_name (i:=4) sc_law_point.nd rfl (Or.inl rfl)) (s_one (s_while PassesOwn.never (t_cmp (f:=fun i j=>decide (j < i)) op_gt (v3 4) e_int (nomark _)) (s_cons (s_set (i:=5) sc_law_point.nd rfl (Or.inl rfl) (e_mod (v3 3) (v3 4))) (s_cons (s_set (i:=3) sc_law_point.nd rfl (Or.inl rfl) (v3 4)) (s_one (s_set (i:=4) sc_law_point.nd rfl (Or.inl rfl) (v3 5)))))))) (s_one (s_ret (e_tup (l_cons (e_fdiv (v3 0) (v3 3)) (l_cons (e_fdiv (v3 1) (v3 3)) (l_cons (e_fdiv (v3 2) (v3 3)) l_nil)))))))),?_⟩)
 rintro as k hl ⟨a,b,n,rfl,hn,bn,hk⟩
 refine at3 (r:=[.val (.int a),.val (.int b),.val (.int n),.no,.no,.no]) rfl ?_
 have gp:=g3_pos (a:=a) (b:=b) (Int.ne_of_gt hn)
 have gb:=g3_bits (a:=a) (b:=b) (Int.ne_of_gt hn) bn
 have e:gsp a b n=g3 a b n:=by unfold gsp; rw [if_neg (by omega)]
 have eg:((Int.gcd ((Int.gcd a b:Nat):Int) n:Nat):Int)=g3 a b n:=g3_xy a b n
 have hk:k (.val (.tup [.int (a.fdiv (g3 a b n)),.int (b.fdiv (g3 a b n)),.int (n.fdiv (g3 a b n))])):=by
  have h:=hk
  unfold dP npt at h
  rw [e] at h
  exact h
 walk_at "w"
 dsimp only [forR,ugName]
 have fin:∀ v4 v5:Sl,uRet (uTup (uCons (uI CDivB (fun i j=>D.int (i.fdiv j)) (uVar 0) (uVar 3)) (uCons (uI CDivB (fun i j=>D.int (i.fdiv j)) (uVar 1) (uVar 3)) (uCons (uI CDivB (fun i j=>D.int (i.fdiv j)) (uVar 2) (uVar 3)) uNil)))) { nx:=fun x=>k (Sl.val D.non),rt:=k } [.val (.int a),.val (.int b),.val (.int n),.val (.int (g3 a b n)),v4,v5]:=fun v4 v5=>by
  generalize g3 a b n=g at *
  walk_at "w"
  exact hk
 refine ⟨fun m ρ=>∃ (x y:Int) (v:Sl),ρ=[.val (.int a),.val (.int b),.val (.int n),.val (.int x),.val (.int y),v]∧0≤x∧0≤y∧Int.gcd x y=Int.gcd a b∧m=y.toNat,⟨_,_,_,_,rfl,?_,?_,gcd_abs a b,rfl⟩,?_⟩
 ·split <;> omega
 ·split <;> omega
 rintro m ρ ⟨x,y,v,rfl,x0,y0,hg,rfl⟩
 walk_at "wd"
 refine iteD (fun g=>?_) (fun g=>?_)
 ·walk_at "wd"
  have m0:=Int.emod_nonneg x (show y≠0 by omega)
  have m1:=Int.emod_lt_of_pos x g
  exact ⟨_,by omega,_,_,_,rfl,y0,m0,by rw [gcd_step x0 g]; exact hg,rfl⟩
 ·have e:y=0:=by omega
  subst e
  have ex:=gcd_zero_left x0
  rw [hg] at ex
  subst ex
  try dsimp only [forR,ugName]
  refine ⟨fun m ρ=>∃ (x y:Int) (v:Sl),ρ=[.val (.int a),.val (.int b),.val (.int n),.val (.int x),.val (.int y),v]∧0≤x∧0≤y∧Int.gcd x y=Int.gcd ((Int.gcd a b:Nat):Int) n∧m=y.toNat,⟨_,_,_,_,rfl,?_,?_,rfl,rfl⟩,?_⟩
  ·exact Int.natCast_nonneg _
  ·omega
  rintro m ρ ⟨x,y,v,rfl,x0,y0,hg,rfl⟩
  walk_at "wd"
  refine iteD (fun g=>?_) (fun g=>?_)
  ·walk_at "wd"
   have m0:=Int.emod_nonneg x (show y≠0 by omega)
   have m1:=Int.emod_lt_of_pos x g
   exact ⟨_,by omega,_,_,_,rfl,y0,m0,by rw [gcd_step x0 g]; exact hg,rfl⟩
  ·have e:y=0:=by omega
   subst e
   have ex:=gcd_zero_left x0
   rw [hg] at ex
   subst ex
   rw [eg]
   exact fin _ _
theorem sc_law_slid:FnScope ["_law_p", "_law_v"] ["_law_p", "_law_v"] (defScope s_law_slid):=⟨rfl,rfl,rfl,by decide +kernel,rfl,by decide +kernel,by decide +kernel⟩
def F_slidW:FS:=fun as k=>∃ (p g:P3),as=[.val (dP p),.val (dP g)]∧(GP 4000 p)∧(PW 4000 g)∧k (.val (dP (nP (sld g p))))
theorem ok_slidW (B:Blts mg)   (F:Fnd K mg "_law_slid" s_law_slid ["_law_p", "_law_v"]) (c_law_point:Cal P w K mg base "_law_point" ["_law_a", "_law_b", "_law_n"] 2 (Con K 3 F_ptC)) :
  Cal P w K mg base "_law_slid" ["_law_p", "_law_v"] 3 (Con K 2 F_slidW):=by
 refine def3 (lv:=2) F sc_law_slid rfl (fun f cdv A outer s H E hr=>⟨_,(s_one (s_ret (e_call c_law_point hr (by rfl) (a_val (e_add (e_mul (e_ix (v3 0) e_int (fun _ _=>rfl)) (e_ix (v3 1) e_int (fun _ _=>rfl))) (e_mul (e_ix (v3 1) e_int (fun _ _=>rfl)) (e_ix (v3 0) e_int (fun _ _=>rfl)))) (a_val (e_add (e_mul (e_ix (v3 0) e_int (fun _ _=>rfl)) (e_ix (v3 1) e_int (fun _ _=>rfl))) (e_mul (e_ix (v3 1) e_int (fun _ _=>rfl)) (e_ix (v3 0) e_int (fun _ _=>rfl)))) (a_val (e_mul (e_ix (v3 0) e_int (fun _ _=>rfl)) (e_ix (v3 1) e_int (fun _ _=>rfl))) a_nil)))))),?_⟩)
 rintro as k hl ⟨p,g,rfl,hp,hg,hk⟩
 refine at3 (r:=[.val (dP p),.val (dP g)]) rfl ?_
 have h1:=hp.bp.a
 have h2:=hp.bp.b
 have h3:=hp.bp.c
 have h4:=hg.bp.a
 have h5:=hg.bp.b
 have h6:=hg.bp.c
 walk_at "w"
 exact ⟨_,_,_,rfl,Int.mul_pos hp.pt.1 hg.ps,by walk_at "bits", hk⟩
theorem sc_law_turned:FnScope ["_law_p"] ["_law_p"] (defScope s_law_turned):=⟨rfl,rfl,rfl,by decide +kernel,rfl,by decide +kernel,by decide +kernel⟩
def F_turnC:FS:=fun as k=>∃ (p:P3),as=[.val (dP p)]∧k (.val (dP (trn p)))
theorem ok_turnC (B:Blts mg)   (F:Fnd K mg "_law_turned" s_law_turned ["_law_p"])  :
  Cal P w K mg base "_law_turned" ["_law_p"] 2 (Con K 1 F_turnC):=by
 refine def3 (lv:=1) F sc_law_turned rfl (fun f cdv A outer s H E hr=>⟨_,(s_one (s_ret (e_tup (l_cons (e_neg (e_ix (v3 0) e_int (fun _ _=>rfl))) (l_cons (e_neg (e_ix (v3 0) e_int (fun _ _=>rfl))) (l_cons (e_ix (v3 0) e_int (fun _ _=>rfl)) l_nil)))))),?_⟩)
 rintro as k hl ⟨p,rfl,hk⟩
 refine at3 (r:=[.val (dP p)]) rfl ?_
 walk_at "w"
 exact hk
theorem sc_law_side:FnScope ["_law_p", "_law_q", "_law_r", "_law_found"] ["_law_p", "_law_q", "_law_r"] (defScope s_law_side):=⟨rfl,rfl,rfl,by decide +kernel,rfl,by decide +kernel,by decide +kernel⟩
def F_sideM:FS:=fun as k=>∃ (p q r:P3),as=[.val (dP p),.val (dP q),.val (dP r)]∧(BP 4000 p)∧(BP 4000 q)∧(BP 4000 r)∧k (.val (.int (sg (det3 p q r))))
theorem ok_sideM (B:Blts mg)   (F:Fnd K mg "_law_side" s_law_side ["_law_p", "_law_q", "_law_r"])  :
  Cal P w K mg base "_law_side" ["_law_p", "_law_q", "_law_r"] 2 (Con K 3 F_sideM):=by
 refine def3 (lv:=1) F sc_law_side rfl (fun f cdv A outer s H E hr=>⟨_,(s_cons (s_set (i:=3) sc_law_side.nd rfl (Or.inl rfl) (e_mul (e_ix (v3 0) e_int (fun _ _=>rfl)) (e_sub (e_mul (e_ix (v3 1) e_int (fun _ _=>rfl)) (e_ix (v3 2) e_int (fun _ _=>rfl))) (e_mul (e_ix (v3 1) e_int (fun _ _=>rfl)) (e_ix (v3 2) e_int (fun _ _=>rfl)))))) (s_cons (s_set (i:=3) sc_law_side.nd rfl (Or.inl rfl) (e_sub (v3 3) (e_mul (e_ix (v3 0) e_int (fun _ _=>rfl)) (e_sub (e_mul (e_ix (v3 1) e_int (fun _ _=>rfl)) (e_ix (v3 2) e_int (fun _ _=>rfl))) (e_mul (e_ix (v3 1) e_int (fun _ _=>rfl)) (e_ix (v3 2) e_int (fun _ _=>rfl))))))) (s_cons (s_set (i:=3) sc_law_side.nd rfl (Or.inl rfl) (e_add (v3 3) (e_mul (e_ix (v3 0) e_int (fun _ _=>rfl)) (e_sub (e_mul (e_ix (v3 1) e_int (fun _ _=>rfl)) (e_ix (v3 2) e_int (fun _ _=>rfl))) (e_mul (e_ix (v3 1) e_int (fun _ _=>rfl)) (e_ix (v3 2) e_int (fun _ _=>rfl))))))) (s_one (s_ret (e_sub (e_toInt (e_cmp (f:=fun i j=>decide (j < i)) op_gt (v3 3) e_int (nomark _)) (by rfl) B.int_) (e_toInt (e_cmp (f:=fun i j=>decide (i < j)) op_lt (v3 3) e_int (nomark _)) (by rfl) B.int_))))))),?_⟩)
 rintro as k hl ⟨p,q,r,rfl,bp,bq,br,hk⟩
 refine at3 (r:=[.val (dP p),.val (dP q),.val (dP r),.no]) rfl ?_
 have h1:=bp.a
 have h2:=bp.b
 have h3:=bp.c
 have h4:=bq.a
 have h5:=bq.b
 have h6:=bq.c
 have h7:=br.a
 have h8:=br.b
 have h9:=br.c
 rw [← side_det,← sg_int] at hk
 walk_at "w"
 refine .inr ⟨_,rfl,?_⟩
 walk_at "w"
 refine .inr ⟨_,rfl,?_⟩
 walk_at "w"
 simp only [decide_eq_true_eq]
 exact hk
theorem sc_law_is_point:FnScope ["_law_p", "_law_number"] ["_law_p"] (defScope s_law_is_point):=⟨rfl,rfl,rfl,by decide +kernel,rfl,by decide +kernel,by decide +kernel⟩
def F_isptC:FS:=fun as k=>∃ (p:P3),as=[.val (dP p)]∧(PtP p)∧(BP 1000 p)∧k (.val (.bl true))
theorem ok_isptC (B:Blts mg)   (F:Fnd K mg "_law_is_point" s_law_is_point ["_law_p"]) (c_law_point:Cal P w K mg base "_law_point" ["_law_a", "_law_b", "_law_n"] 2 (Con K 3 F_ptC)) :
  Cal P w K mg base "_law_is_point" ["_law_p"] 3 (Con K 1 F_isptC):=by
 refine def3 (lv:=2) F sc_law_is_point rfl (fun f cdv A outer s H E hr=>⟨_,(s_cons (s_if (w_t (w_or (t_not (t_val (e_isi (T := "tuple") (v3 0) (by rfl) B.isinstance_ (pe_bltn (v:=.ty "tuple") (u:=.type "tuple") (by rfl) B.tuple_ (by decide +kernel) rfl) rfl rfl rfl))) (w_or1 (t_cmp (f:=fun i j => !decide (i=j)) op_neI (e_len (v3 0) (by rfl) B.len_) e_int (nomark _))))) (s_one (s_ret e_bl)) s_nil) (s_cons (s_for PassesOwn.never rfl (i_tup (v3 0)) (g_name (i:=1) sc_law_is_point.nd rfl (Or.inl rfl)) (s_one (s_if (w_t (w_or (t_not (t_val (e_isi (T := "int") (v3 1) (by rfl) B.isinstance_ (pe_bltn (v:=.ty "int") (u:=.type "int") (by rfl) B.int_ (by decide +kernel) rfl) rfl rfl rfl))) (w_or1 (t_val (e_isi (T := "bool") (v3 1) (by rfl) B.isinstance_ (pe_bltn (v:=.ty "bool") (u:=.type "bool") (by rfl) B.bool_ (by decide +kernel) rfl) rfl rfl rfl))))) (s_one (s_ret e_bl)) s_nil))) (s_one (s_ret (e_and (e_cmp (f:=fun i j=>decide (j < i)) op_gt (e_ix (v3 0) e_int (fun _ _=>rfl)) e_int (nomark _)) (e_one (e_eq (hr.units) (e_call c_law_point hr (by rfl) (a_val (e_ix (v3 0) e_int (fun _ _=>rfl)) (a_val (e_ix (v3 0) e_int (fun _ _=>rfl)) (a_val (e_ix (v3 0) e_int (fun _ _=>rfl)) a_nil)))) (v3 0) (nomark _)))))))),?_⟩)
 rintro as k hl ⟨p,rfl,hp,bp,hk⟩
 refine at3 (r:=[.val (dP p),.no]) rfl ?_
 have b3:=bp.c
 refine pass4 (fun N kk=>?_) ?_
 ·refine ⟨_,rfl,_,_,rfl,fun _=>rfl,_,rfl,iteF ?_⟩
  exact ⟨_,rfl,_,rfl,_,_,rfl,rfl,_,rfl,iteF kk⟩
 refine mid4 (fun ρ=>∃ v1,ρ=[.val (dP p),v1]) ?_ (fun N kk=>?_)
 rotate_left
 ·refine ⟨_,rfl,_,rfl,?_⟩
  refine forR_map (f:=D.int) (rs:=[p.1,p.2.1,p.2.2]) (done:=[]) (fun _ ρ=>∃ v1,ρ=[.val (dP p),v1]) ⟨_,rfl⟩ ?_ ?_
  ·rintro pre r rest ρ _ ⟨v1,rfl⟩ N kk
   refine ⟨_,rfl,_,_,rfl,fun _=>rfl,_,rfl,iteF ?_⟩
   exact ⟨_,rfl,_,_,rfl,fun _=>rfl,_,rfl,iteF (kk _ ⟨_,rfl⟩)⟩
  ·rintro ρ ⟨v1,rfl⟩
   exact kk _ ⟨_,rfl⟩
 rintro ρ ⟨v1,rfl⟩
 refine ⟨_,rfl,_,_,_,.inl rfl,rfl,rfl,_,_,rfl,rfl,_,rfl,?_⟩
 rw [decide_eq_true (show (0:Int) < p.2.2 from hp.1)]
 refine iteT ?_
 refine ⟨_,rfl,_,_,_,.inl rfl,rfl,rfl,_,rfl,_,_,_,.inl rfl,rfl,rfl,_,rfl,_,_,_,.inl rfl,rfl,rfl,rfl,p.1,p.2.1,p.2.2,rfl,hp.1,Nat.le_trans b3 (by decide),?_⟩
 dsimp only [fzR]
 have e:npt p.1 p.2.1 p.2.2=p:=nP_self hp
 rw [e]
 refine ⟨_,rfl,.T [.I,.I,.I],rfl,rfl,by decide,?_⟩
 rw [eqD_self]
 exact hk
theorem sc_law_is_convex:FnScope ["_law_ring", "_law_k", "_law_j"] ["_law_ring"] (defScope s_law_is_convex):=⟨rfl,rfl,rfl,by decide +kernel,rfl,by decide +kernel,by decide +kernel⟩
def F_cvxM:FS:=fun as k=>∃ (ps:List P3),as=[.val (.lst (ps.map dP))]∧(ps.length≤1000)∧(∀ p∈ps,GP 700 p)∧∀ b:Bool,(b=true↔Cvx ps)→k (.val (.bl b))
theorem ok_cvxM (B:Blts mg)   (F:Fnd K mg "_law_is_convex" s_law_is_convex ["_law_ring"]) (c_law_is_point:Cal P w K mg base "_law_is_point" ["_law_p"] 3 (Con K 1 F_isptC)) (c_law_side:Cal P w K mg base "_law_side" ["_law_p", "_law_q", "_law_r"] 2 (Con K 3 F_sideM)) :
  Cal P w K mg base "_law_is_convex" ["_law_ring"] 4 (Con K 1 F_cvxM):=by
 refine def3 (lv:=3) F sc_law_is_convex rfl (fun f cdv A outer s H E hr=>⟨_,(s_cons (s_if (w_t (w_or (t_not (t_val (e_isi (T := "list") (v3 0) (by rfl) B.isinstance_ (pe_bltn (v:=.ty "list") (u:=.type "list") (by rfl) B.list_ (by decide +kernel) rfl) rfl rfl rfl))) (w_or1 (t_cmp (f:=fun i j=>decide (i < j)) op_lt (e_len (v3 0) (by rfl) B.len_) e_int (nomark _))))) (s_one (s_ret e_bl)) s_nil) (s_cons (s_if (t_cmp (f:=fun i j=>decide (j < i)) op_gt (e_len (o_e (o_compG (ts:=["_law_p"]) (fr:=[]) (js:=[]) (i_list (v3 0)) (fun _ _ _ _=>(g_name (i:=0) (show List.Nodup (["_law_p"]:List Str) by decide +kernel) rfl (Or.inl rfl))) (fun _ _ _ _=>(ifs_one (t_not (t_val (e_call c_law_is_point hr (by rfl) (a_val (v3 0) a_nil)))))) (fun _ _ _ _=>(v3 0)) ⟨rfl,by decide +kernel,rfl,by decide +kernel,fsub_of (List.forall_mem_nil _),fhas_b rfl,by walk_at "ffr", rfl⟩)) (by rfl) B.len_) e_int (nomark _)) (s_one (s_ret e_bl)) s_nil) (s_cons (s_for PassesOwn.never rfl (i_rng (e_len (v3 0) (by rfl) B.len_) (by rfl) B.range_) (g_name (i:=1) sc_law_is_convex.nd rfl (Or.inl rfl)) (s_one (s_for PassesOwn.never rfl (i_rng (e_len (v3 0) (by rfl) B.len_) (by rfl) B.range_) (g_name (i:=2) sc_law_is_convex.nd rfl (Or.inl rfl)) (s_one (s_if (w_t (w_and (t_cmp (f:=fun i j => !decide (i=j)) op_neI (v3 2) (v3 1) (nomark _)) (w_and1 (t_cmp (f:=fun i j => !decide (i=j)) op_neI (v3 2) (e_mod (e_add (v3 1) e_int) (e_len (v3 0) (by rfl) B.len_)) (nomark _))))) (s_one (s_if (t_cmp (f:=fun i j => !decide (i=j)) op_neI (e_call c_law_side hr (by rfl) (a_val (e_ix (v3 0) (v3 1) (fun _ _=>rfl)) (a_val (e_ix (v3 0) (e_mod (e_add (v3 1) e_int) (e_len (v3 0) (by rfl) B.len_)) (fun _ _=>rfl)) (a_val (e_ix (v3 0) (v3 2) (fun _ _=>rfl)) a_nil)))) e_int (nomark _)) (s_one (s_ret e_bl)) s_nil)) s_nil))))) (s_one (s_ret e_bl))))),?_⟩)
 rintro as k hl ⟨ps,rfl,hl,hp,hk⟩
 refine at3 (r:=[.val (.lst (ps.map dP)),.no,.no]) rfl ?_
 have fls:¬ Cvx ps→k (.val (.bl false)):=fun h=>hk false ⟨fun z=>(by cases z),fun z=>absurd z h⟩
 have tru:Cvx ps→k (.val (.bl true)):=fun h=>hk true ⟨fun _=>h,fun _=>rfl⟩
 have big:1000 < sizeLine:=by decide
 have cmp:∀ {k:List D→Prop} {v0:Sl} {ut:UT} {u:UE},(∀ p∈ps,∀ k:Bool→Prop,k false→ut [.val (dP p)] k)→k []→compG (ugName 0) ut u (ps.map dP) [v0] k:=fun h1 h2=>compG_none h1 h2
 have hat:∀ n,n < ps.length→atI (ps.map dP) (n:Int)=some (dP (nth ps n)):=fun n h=>atI_nth h
 have hLl:(ps.map dP).length=ps.length:=List.length_map ..
 generalize ps.map dP=L at *
 by_cases l3:ps.length < 3
 ·refine ⟨_,rfl,_,_,rfl,fun _=>rfl,_,rfl,iteF ?_⟩
  walk_at "wd"
  exact iteD (fun _=>fls fun z=>by have:=z.1; omega) (fun g=>absurd g (by omega))
 refine pass4 (fun N kk=>?_) ?_
 ·refine ⟨_,rfl,_,_,rfl,fun _=>rfl,_,rfl,iteF ?_⟩
  walk_at "wd"
  exact iteD (fun g=>absurd g (by omega)) (fun _=>kk)
 refine pass4 (fun N kk=>?_) ?_
 ·refine ⟨_,rfl,_,rfl,by omega,?_⟩
  refine cmp (fun p hpm k2 hk2=>?_) ?_
  ·refine ⟨_,rfl,rfl,p,rfl,(hp p hpm).pt,(hp p hpm).bp.mono (by decide),_,rfl,?_⟩
   exact hk2
  ·walk_at "wd"
   exact iteD (fun g=>absurd g (by decide)) (fun _=>kk)
 have n0:0 < ps.length:=by omega
 refine mid4 (fun ρ=>(∃ v1 v2,ρ=[.val (.lst L),v1,v2])∧Cvx ps) ?_ (fun N kk=>?_)
 ·rintro ρ ⟨⟨v1,v2,rfl⟩,hc⟩
  exact tru hc
 refine ⟨_,rfl,_,rfl,_,rfl,by omega,by omega,?_⟩
 rw [show ((L.length:Nat):Int).toNat=ps.length by omega]
 refine forR_rng (fun i ρ=>(∃ v1 v2,ρ=[.val (.lst L),v1,v2])∧∀ k j,k < i→j < ps.length→j≠k→j≠(k + 1) % ps.length→sg (det3 (nth ps k) (nth ps ((k + 1) % ps.length)) (nth ps j))=1) ⟨⟨_,_,rfl⟩,fun k j h=>absurd h (by omega)⟩ ?_ ?_
 ·rintro i ρ hi ⟨⟨v1,v2,rfl⟩,hI⟩ N kk
  have hi2:(i + 1) % ps.length < ps.length:=Nat.mod_lt _ n0
  refine ⟨_,rfl,_,rfl,_,rfl,by omega,by omega,?_⟩
  rw [show ((L.length:Nat):Int).toNat=ps.length by omega]
  refine forR_rng (fun j' ρ=>(∃ v2,ρ=[.val (.lst L),.val (.int i),v2])∧∀ j,j < j'→j≠i→j≠(i + 1) % ps.length→sg (det3 (nth ps i) (nth ps ((i + 1) % ps.length)) (nth ps j))=1) ⟨⟨_,rfl⟩,fun j h=>absurd h (by omega)⟩ ?_ ?_
  ·rintro j ρ hj ⟨⟨v2,rfl⟩,hJ⟩ N kk
   have go:∀ N:List Sl→Prop,(∀ r,(∃ v2,r=[.val (.lst L),.val (.int i),v2])∧(∀ j',j' < j + 1→j'≠i→j'≠(i + 1) % ps.length→sg (det3 (nth ps i) (nth ps ((i + 1) % ps.length)) (nth ps j'))=1)→N r)→(j≠i→j≠(i + 1) % ps.length→sg (det3 (nth ps i) (nth ps ((i + 1) % ps.length)) (nth ps j))=1)→N [.val (.lst L),.val (.int i),.val (.int j)]:=fun N kk h=>kk _ ⟨⟨_,rfl⟩,fun j' h1 h2 h3=>by
    by_cases e:j'=j
    ·subst e; exact h h2 h3
    ·exact hJ j' (by omega) h2 h3⟩
   walk_at "wd"
   refine iteDn (fun g1=>?_) (fun g1=>?_)
   ·refine ⟨_,rfl,_,rfl,_,_,rfl,rfl,?_⟩
    refine ⟨_,rfl,_,rfl,_,_,rfl,rfl,by show (0:Int) < (L.length:Nat); omega,_,_,rfl,rfl,_,rfl,?_⟩
    dsimp only
    rw [hLl,emod_cast]
    refine iteDn (fun g2=>?_) (fun g2=>?_)
    ·refine ⟨_,rfl,_,rfl,_,_,_,.inr rfl,rfl,hat i hi,?_⟩
     refine ⟨_,rfl,_,rfl,_,_,rfl,rfl,_,rfl,_,rfl,_,_,rfl,rfl,by show (0:Int) < (L.length:Nat); omega,_,_,_,.inr rfl,rfl,(by rw [hLl,emod_cast]; exact hat _ hi2),?_⟩
     refine ⟨_,rfl,_,rfl,_,_,_,.inr rfl,rfl,hat j hj,?_⟩
     refine ⟨rfl,nth ps i,nth ps ((i + 1) % ps.length),nth ps j,rfl,(hp _ (nth_mem hi)).bp.mono (by decide),(hp _ (nth_mem hi2)).bp.mono (by decide),(hp _ (nth_mem hj)).bp.mono (by decide),?_⟩
     walk_at "wd"
     refine iteDn (fun g3=>?_) (fun g3=>?_)
     ·exact fls fun z=>g3 (z.2 i j hi hj (by omega) (by omega))
     ·exact go _ kk fun _ _=>g3
    ·exact go _ kk fun _ h=>absurd (by omega) h
   ·refine iteF3 rfl ?_
    exact go _ kk fun h=>absurd (by omega) h
  ·rintro ρ ⟨⟨v2,rfl⟩,hJ⟩
   exact kk _ ⟨⟨_,_,rfl⟩,fun k j h1 h2 h3 h4=>by
    by_cases e:k=i
    ·subst e; exact hJ j h2 h3 h4
    ·exact hI k j (by omega) h2 h3 h4⟩
 ·rintro ρ ⟨⟨v1,v2,rfl⟩,hI⟩
  exact kk _ ⟨⟨_,_,rfl⟩,by omega,fun k j h1 h2 h3 h4=>hI k j h1 h2 h3 h4⟩
theorem sc_law_within:FnScope ["_law_ring", "_law_p", "_law_found", "_law_k", "_law_hand"] ["_law_ring", "_law_p"] (defScope s_law_within):=⟨rfl,rfl,rfl,by decide +kernel,rfl,by decide +kernel,by decide +kernel⟩
def F_wiM:FS:=fun as k=>∃ (ps:List P3) (s:P3),as=[.val (.lst (ps.map dP)),.val (dP s)]∧(ps.length≤1000)∧(∀ p∈ps,GP 700 p)∧(BP 4000 s)∧k (.val (.int (wi ps s)))
theorem ok_wiM (B:Blts mg)   (F:Fnd K mg "_law_within" s_law_within ["_law_ring", "_law_p"]) (c_law_side:Cal P w K mg base "_law_side" ["_law_p", "_law_q", "_law_r"] 2 (Con K 3 F_sideM)) :
  Cal P w K mg base "_law_within" ["_law_ring", "_law_p"] 3 (Con K 2 F_wiM):=by
 refine def3 (lv:=2) F sc_law_within rfl (fun f cdv A outer s H E hr=>⟨_,(s_cons (s_set (i:=2) sc_law_within.nd rfl (Or.inl rfl) e_int) (s_cons (s_for PassesOwn.never rfl (i_rng (e_len (v3 0) (by rfl) B.len_) (by rfl) B.range_) (g_name (i:=3) sc_law_within.nd rfl (Or.inl rfl)) (s_cons (s_set (i:=4) sc_law_within.nd rfl (Or.inl rfl) (e_call c_law_side hr (by rfl) (a_val (e_ix (v3 0) (e_sub (v3 3) e_int) (fun _ _=>rfl)) (a_val (e_ix (v3 0) (v3 3) (fun _ _=>rfl)) (a_val (v3 1) a_nil))))) (s_cons (s_if (t_cmp (f:=fun i j=>decide (i < j)) op_lt (v3 4) e_int (nomark _)) (s_one (s_ret e_int)) s_nil) (s_one (s_if (t_cmp (f:=fun i j=>decide (i=j)) op_eqI (v3 4) e_int (nomark _)) (s_one (s_set (i:=2) sc_law_within.nd rfl (Or.inl rfl) (e_neg e_int))) s_nil))))) (s_one (s_ret (v3 2))))),?_⟩)
 rintro as k hl ⟨ps,s,rfl,hl,hps,bs,hk⟩
 refine at3 (r:=[.val (.lst (ps.map dP)),.val (dP s),.no,.no,.no]) rfl ?_
 refine mid4 (fun ρ=>ρ=[.val (.lst (ps.map dP)),.val (dP s),.val (.int 1),.no,.no]) ?_ (fun N kk=>kk _ rfl)
 rintro ρ rfl
 refine mid4 (fun ρ=>∃ v3 v4:Sl,ρ=[.val (.lst (ps.map dP)),.val (dP s),.val (.int (wi ps s)),v3,v4]) ?_ (fun N kk=>?_)
 ·rintro ρ ⟨v3,v4,rfl⟩
  exact ⟨_,rfl,hk⟩
 refine ⟨_,rfl,_,rfl,_,rfl,by omega,by rw [List.length_map]; omega,?_⟩
 rw [List.length_map,show ((ps.length:Nat):Int).toNat=ps.length by omega]
 refine forR_rng (fun i ρ=>∃ (v3 v4:Sl) (x:Int),ρ=[.val (.lst (ps.map dP)),.val (dP s),.val (.int x),v3,v4]∧((x=1∧∀ e∈(eds ps).take i,0 < det3 e.1 e.2 s)∨(x = -1∧(∀ e∈(eds ps).take i,0≤det3 e.1 e.2 s)∧∃ e∈(eds ps).take i,det3 e.1 e.2 s=0))) ⟨_,_,1,rfl,.inl ⟨rfl,by simp⟩⟩ ?_ ?_
 rotate_left
 ·rintro ρ ⟨v3,v4,x,rfl,h⟩
  rw [eds_all] at h
  rcases h with ⟨rfl,h⟩ | ⟨rfl,h,z⟩
  ·exact kk _ ⟨_,_,by rw [wi_one h]⟩
  ·exact kk _ ⟨_,_,by rw [wi_minus h z]⟩
 rintro i ρ hi ⟨v3,v4,x,rfl,hI⟩ N kk
 have et:=eds_take hi
 have hp:=(hps _ (nth_mem (ps:=ps) (Nat.mod_lt (i + ps.length - 1) (show 0 < ps.length by omega)))).bp.mono (show 700≤4000 by decide)
 have hq:=(hps _ (nth_mem hi)).bp.mono (show 700≤4000 by decide)
 refine ⟨_,rfl,_,rfl,_,_,rfl,rfl,_,_,_,.inr rfl,rfl,atI_back1 hi,?_⟩
 refine ⟨_,rfl,_,rfl,_,_,_,.inr rfl,rfl,atI_nth hi,?_⟩
 have mem:(nth ps ((i + ps.length - 1) % ps.length),nth ps i)∈eds ps:=List.mem_of_mem_take (i:=i + 1) (by rw [et]; simp)
 generalize nth ps ((i + ps.length - 1) % ps.length)=p at *
 generalize nth ps i=q at *
 refine ⟨_,rfl,rfl,p,q,s,rfl,hp,hq,bs,?_⟩
 dsimp only [fzR]
 by_cases neg:det3 p q s < 0
 ·have lt:sg (det3 p q s) < 0:=by unfold sg; rw [if_neg (by omega),if_pos neg]; decide
  refine ⟨_,rfl,_,_,rfl,rfl,_,rfl,iteD (fun _=>?_) (fun g=>absurd lt g)⟩
  rw [wi_zero fun z=>by have this:0≤det3 p q s:=z _ mem; omega] at hk
  exact hk
 refine pass4 (fun N kk=>?_) ?_
 ·have ge:=sg_ge.mpr (show 0≤det3 p q s by omega)
  exact ⟨_,rfl,_,_,rfl,rfl,_,rfl,iteD (fun g=>absurd g (by omega)) (fun _=>kk)⟩
 refine ⟨_,rfl,_,_,rfl,rfl,_,rfl,iteD (fun g=>?_) (fun g=>?_)⟩
 ·have d0:=(sg_eq0 _).mp g
  refine ⟨_,rfl,kk _ ⟨.val (.int i),.val (.int (sg (det3 p q s))),-1,rfl,.inr ⟨rfl,fun e he=>?_,(p,q),by rw [et]; simp,d0⟩⟩⟩
  rw [et] at he
  rcases List.mem_append.mp he with he | he
  ·rcases hI with ⟨_,h⟩ | ⟨_,h,_⟩
   ·exact Int.le_of_lt (h e he)
   ·exact h e he
  ·rw [List.mem_singleton.mp he]; show 0≤det3 p q s; omega
 ·have dp:0 < det3 p q s:=by
   have:det3 p q s≠0:=fun z=>g ((sg_eq0 _).mpr z)
   omega
  refine kk _ ⟨.val (.int i),.val (.int (sg (det3 p q s))),x,rfl,?_⟩
  rcases hI with ⟨rfl,h⟩ | ⟨rfl,h,z⟩
  ·refine .inl ⟨rfl,fun e he=>?_⟩
   rw [et] at he
   rcases List.mem_append.mp he with he | he
   ·exact h e he
   ·rw [List.mem_singleton.mp he]; exact dp
  ·refine .inr ⟨rfl,fun e he=>?_,?_⟩
   ·rw [et] at he
    rcases List.mem_append.mp he with he | he
    ·exact h e he
    ·rw [List.mem_singleton.mp he]; exact Int.le_of_lt dp
   ·obtain ⟨e,he,q0⟩:=z
    exact ⟨e,by rw [et]; exact List.mem_append_left _ he,q0⟩
theorem sc_law_place:FnScope ["_law_bag_here", "_law_most", "_law_n"] ["_law_bag_here", "_law_most"] (defScope s_law_place):=⟨rfl,rfl,rfl,by decide +kernel,rfl,by decide +kernel,by decide +kernel⟩
def F_placeB:FS:=fun as k =>  as=[.bag,.val (.int 5)]∧∀ p:P3,GB p→k (.val (dP p))
theorem ok_placeB (B:Blts mg)   (F:Fnd K mg "_law_place" s_law_place ["_law_bag_here", "_law_most"]) (c_law_digit:Cal P w K mg base "_law_digit" ["_law_bag_here", "_law_many"] 1 (Con K 2 (F_draw 400))) (c_law_point:Cal P w K mg base "_law_point" ["_law_a", "_law_b", "_law_n"] 2 (Con K 3 F_ptC)) :
  Cal P w K mg base "_law_place" ["_law_bag_here", "_law_most"] 3 (Con K 2 F_placeB):=by
 refine def3 (lv:=2) F sc_law_place rfl (fun f cdv A outer s H E hr=>⟨_,(s_cons (s_set (i:=2) sc_law_place.nd rfl (Or.inl rfl) (e_ix (o_e (o_lst (l_cons e_int (l_cons e_int (l_cons e_int (l_cons e_int (l_cons e_int l_nil))))))) (e_call c_law_digit hr (by rfl) (a_bag 0 (a_val e_int a_nil))) (fun _ _=>rfl))) (s_one (s_ret (e_call c_law_point hr (by rfl) (a_val (e_call c_law_digit hr (by rfl) (a_bag 0 (a_val (e_add (e_mul (v3 1) (v3 2)) e_int) a_nil))) (a_val (e_call c_law_digit hr (by rfl) (a_bag 0 (a_val (e_add (e_mul (v3 1) (v3 2)) e_int) a_nil))) (a_val (v3 2) a_nil))))))),?_⟩)
 rintro as k hl ⟨rfl,hk⟩
 refine at3 (r:=[.bag,.val (.int 5),.no]) rfl ?_
 refine ⟨by show 5≤sizeLine; decide,?_⟩
 walk_at "w"
 intro r r0 r1
 obtain ⟨n,en,n0,n1⟩:∃ n:Int,atI [D.int 1,D.int 1,D.int 1,D.int 2,D.int 3] r=some (.int n)∧1≤n∧n≤3:=by
  obtain rfl | rfl | rfl | rfl | rfl:r=0∨r=1∨r=2∨r=3∨r=4:=by omega
  ·exact ⟨1,rfl,by decide,by decide⟩
  ·exact ⟨1,rfl,by decide,by decide⟩
  ·exact ⟨1,rfl,by decide,by decide⟩
  ·exact ⟨2,rfl,by decide,by decide⟩
  ·exact ⟨3,rfl,by decide,by decide⟩
 refine ⟨_,_,_,.inr rfl,rfl,en,?_⟩
 clear en r0 r1 r
 walk_at "w"
 intro x x0 x1
 walk_at "w"
 intro y y0 y1
 walk_at "w"
 refine ⟨_,_,_,rfl,by omega,by walk_at "bits", ?_⟩
 exact hk (nP (x,y,n)) ⟨⟨nP_pt (p:=(x,y,n)) (by show n≠0; omega),BP.nP (p:=(x,y,n)) ⟨bits06 (x:=x) (by omega) (by omega),bits06 (x:=y) (by omega) (by omega),bits06 (x:=n) (by omega) (by omega)⟩ (by show n≠0; omega)⟩,box_nP (by omega) x0 (by omega) y0 (by omega)⟩
theorem sc_law_three:FnScope ["_law_bag_here", "_law_most", "_law_ring", "_law_hand"] ["_law_bag_here", "_law_most"] (defScope s_law_three):=⟨rfl,rfl,rfl,by decide +kernel,rfl,by decide +kernel,by decide +kernel⟩
def F_threeB:FS:=fun as k =>  as=[.bag,.val (.int 5)]∧∀ ps:List P3,ps.length=3→Cvx ps→(∀ p∈ps,GB p)→k (.own (ps.map dP))
theorem ok_threeB (B:Blts mg)   (F:Fnd K mg "_law_three" s_law_three ["_law_bag_here", "_law_most"]) (c_law_place:Cal P w K mg base "_law_place" ["_law_bag_here", "_law_most"] 3 (Con K 2 F_placeB)) (c_law_side:Cal P w K mg base "_law_side" ["_law_p", "_law_q", "_law_r"] 2 (Con K 3 F_sideM)) :
  Cal P w K mg base "_law_three" ["_law_bag_here", "_law_most"] 4 (Con K 2 F_threeB):=by
 refine def3 (lv:=3) F sc_law_three rfl (fun f cdv A outer s H E hr=>⟨_,(s_cons (s_thenFz 2 (s_compA (i:=2) sc_law_three.nd rfl rfl (ts:=["_law_k"]) (fr:=["_law_bag_here", "_law_most"]) (js:=[0,1]) (i_rng e_int (by rfl) B.range_) (fun _ _ _ _=>(g_name (i:=0) (show List.Nodup (["_law_k", "_law_bag_here", "_law_most"]:List Str) by decide +kernel) rfl (Or.inl rfl))) (fun _ _ _ _=>ifs_nil) (fun _ _ _ _=>(e_call c_law_place hr (by rfl) (a_bag 1 (a_val (v3 2) a_nil)))) ⟨rfl,by decide +kernel,rfl,by decide +kernel,fsub_of (List.forall_mem_cons.mpr ⟨rfl,(List.forall_mem_cons.mpr ⟨rfl,(List.forall_mem_nil _)⟩)⟩),fhas_b rfl,by walk_at "ffr", rfl⟩)) (s_cons (s_set (i:=3) sc_law_three.nd rfl (Or.inl rfl) (e_call c_law_side hr (by rfl) (a_val (e_ix (v3 2) e_int (fun _ _=>rfl)) (a_val (e_ix (v3 2) e_int (fun _ _=>rfl)) (a_val (e_ix (v3 2) e_int (fun _ _=>rfl)) a_nil))))) (s_cons (s_if (t_cmp (f:=fun i j=>decide (i=j)) op_eqI (v3 3) e_int (nomark _)) (s_one (s_retO (o_lst (l_cons (e_tup (l_cons e_int (l_cons e_int (l_cons e_int l_nil)))) (l_cons (e_tup (l_cons (v3 1) (l_cons e_int (l_cons e_int l_nil)))) (l_cons (e_tup (l_cons e_int (l_cons (v3 1) (l_cons e_int l_nil)))) l_nil)))))) s_nil) (s_one (s_retO (o_hand (v3 2) (v3 3))))))),?_⟩)
 rintro as k hl ⟨rfl,hk⟩
 refine at3 (r:=[.bag,.val (.int 5),.no,.no]) rfl ?_
 refine ⟨_,rfl,by decide,by decide,by show 3≤sizeLine; decide,?_⟩
 refine compG_gen (Pp:=GB) (fs:=[.bag,.val (.int 5)]) (fun d hd k2 hk2=>?_) (fun ps hl3 hps=>?_)
 ·exact ⟨rfl,_,rfl,rfl,rfl,hk2⟩
 obtain ⟨p,q,r,rfl⟩:∃ p q r,ps=[p,q,r]:=by
  match ps,hl3 with
  | [p,q,r],_=>exact ⟨p,q,r,rfl⟩
 have M:∀ x∈[p,q,r],BP 4000 x:=fun x hx=>(hps x hx).1.bp.mono (by decide)
 refine ⟨_,rfl,?_⟩
 refine ⟨_,rfl,_,_,_,.inr rfl,rfl,rfl,?_⟩
 refine ⟨_,rfl,_,_,_,.inr rfl,rfl,rfl,?_⟩
 refine ⟨_,rfl,_,_,_,.inr rfl,rfl,rfl,?_⟩
 refine ⟨rfl,p,q,r,rfl,M p (by simp),M q (by simp),M r (by simp),?_⟩
 dsimp only [fzR]
 walk_at "wd"
 refine iteD (fun g=>?_) (fun g=>?_)
 ·refine ⟨by show 3≤sizeLine; decide,?_⟩
  refine ⟨_,rfl,by show 3≤sizeLine; decide,?_⟩
  refine ⟨_,rfl,by show 3≤sizeLine; decide,by show 3≤sizeLine; decide,?_⟩
  refine hk [(0,0,1),(5,1,1),(1,5,1)] rfl (cvx3 (by decide)) fun x hx=>?_
  have s:∀ a b n:Int,0 < n→Int.gcd (Int.gcd a b:Nat) n=1→intBits a≤6→intBits b≤6→intBits n≤6→BxP (a,b,n)→GB (a,b,n):=fun a b n h1 h2 h3 h4 h5 h6=>⟨⟨⟨h1,h2⟩,h3,h4,h5⟩,h6⟩
  rcases List.mem_cons.mp hx with rfl | hx
  ·exact s _ _ _ (by decide) (by decide) (by decide) (by decide) (by decide) (box_of (by decide) (by decide) (by decide) (by decide) (by decide))
  rcases List.mem_cons.mp hx with rfl | hx
  ·exact s _ _ _ (by decide) (by decide) (by decide) (by decide) (by decide) (box_of (by decide) (by decide) (by decide) (by decide) (by decide))
  rcases List.mem_cons.mp hx with rfl | hx
  ·exact s _ _ _ (by decide) (by decide) (by decide) (by decide) (by decide) (box_of (by decide) (by decide) (by decide) (by decide) (by decide))
  ·simp at hx
 ·refine ⟨_,rfl,_,rfl,_,rfl,?_,_,rfl,?_⟩
  ·rcases sg_cases (det3 p q r) with z | z | z
   ·exact .inl z
   ·exact .inr z
   ·exact absurd z g
  rcases sg_cases (det3 p q r) with z | z | z
  ·rw [z]
   exact hk [p,q,r] rfl (cvx3 z) hps
  ·rw [z]
   refine hk [r,q,p] rfl (cvx3 (by rw [det3_rev,sg_neg,z]; rfl)) fun x hx=>hps x ?_
   simp at hx ⊢
   rcases hx with rfl | rfl | rfl <;> simp
  ·exact absurd z g
theorem sc_law_bulging:FnScope ["_law_bag_here", "_law_most", "_law_ring", "_law_k", "_law_p", "_law_at_end", "_law_more"] ["_law_bag_here", "_law_most"] (defScope s_law_bulging):=⟨rfl,rfl,rfl,by decide +kernel,rfl,by decide +kernel,by decide +kernel⟩
def F_bulgB:FS:=fun as k =>  as=[.bag,.val (.int 5)]∧∀ ps:List P3,ps.length≤5→Cvx ps→(∀ p∈ps,GB p)→k (.val (.lst (ps.map dP)))
theorem ok_bulgB (B:Blts mg)   (F:Fnd K mg "_law_bulging" s_law_bulging ["_law_bag_here", "_law_most"]) (c_law_three:Cal P w K mg base "_law_three" ["_law_bag_here", "_law_most"] 4 (Con K 2 F_threeB)) (c_law_digit:Cal P w K mg base "_law_digit" ["_law_bag_here", "_law_many"] 1 (Con K 2 (F_draw 400))) (c_law_place:Cal P w K mg base "_law_place" ["_law_bag_here", "_law_most"] 3 (Con K 2 F_placeB)) (c_law_is_convex:Cal P w K mg base "_law_is_convex" ["_law_ring"] 4 (Con K 1 F_cvxM)) :
  Cal P w K mg base "_law_bulging" ["_law_bag_here", "_law_most"] 5 (Con K 2 F_bulgB):=by
 refine def3 (lv:=4) F sc_law_bulging rfl (fun f cdv A outer s H E hr=>⟨_,(s_cons (s_set (i:=2) sc_law_bulging.nd rfl (Or.inl rfl) (e_call c_law_three hr (by rfl) (a_bag 0 (a_val (v3 1) a_nil)))) (s_cons (s_for PassesOwn.never rfl (i_rng (e_call c_law_digit hr (by rfl) (a_bag 0 (a_val e_int a_nil))) (by rfl) B.range_) (g_name (i:=3) sc_law_bulging.nd rfl (Or.inl rfl)) (s_cons (s_set (i:=4) sc_law_bulging.nd rfl (Or.inl rfl) (e_call c_law_place hr (by rfl) (a_bag 0 (a_val (v3 1) a_nil)))) (s_one (s_for PassesOwn.never rfl (i_rng (e_len (v3 2) (by rfl) B.len_) (by rfl) B.range_) (g_name (i:=5) sc_law_bulging.nd rfl (Or.inl rfl)) (s_cons (s_set (i:=6) sc_law_bulging.nd rfl (Or.inl rfl) (o_e (o_cat (o_e (o_cat (o_e (o_slice (v3 2) p_none (p_some (v3 5)))) (o_e (o_lst (l_cons (v3 4) l_nil))))) (o_e (o_slice (v3 2) (p_some (v3 5)) p_none))))) (s_one (s_if (t_val (e_call c_law_is_convex hr (by rfl) (a_val (v3 6) a_nil))) (s_cons (s_set (i:=2) sc_law_bulging.nd rfl (Or.inl rfl) (v3 6)) (s_one s_break)) s_nil))))))) (s_one (s_ret (v3 2))))),?_⟩)
 rintro as k hl ⟨rfl,hk⟩
 refine at3 (r:=[.bag,.val (.int 5),.no,.no,.no,.no,.no]) rfl ?_
 refine ⟨rfl,_,rfl,rfl,rfl,fun ps hl hc hps=>?_⟩
 dsimp only [fzR]
 refine mid4 (fun ρ=>∃ (ps:List P3) (v3 v4 v5 v6:Sl),ρ=[.bag,.val (.int 5),.val (.lst (ps.map dP)),v3,v4,v5,v6]∧ps.length≤5∧Cvx ps∧∀ p∈ps,GB p) ?_ (fun N kk=>?_)
 ·rintro ρ ⟨ps,v3,v4,v5,v6,rfl,hl,hc,hps⟩
  exact ⟨_,rfl,hk ps hl hc hps⟩
 refine ⟨rfl,rfl,3,rfl,by decide,by decide +kernel,fun r r0 r1=>?_⟩
 refine ⟨_,rfl,by omega,by omega,?_⟩
 refine forR_rng (fun i ρ=>∃ (ps:List P3) (v3 v4 v5 v6:Sl),ρ=[.bag,.val (.int 5),.val (.lst (ps.map dP)),v3,v4,v5,v6]∧ps.length≤3 + i∧Cvx ps∧∀ p∈ps,GB p) ⟨ps,_,_,_,_,rfl,by omega,hc,hps⟩ ?_ ?_
 ·clear hl hc hps ps
  rintro i ρ hi ⟨ps,v3,v4,v5,v6,rfl,hl,hc,hps⟩ N kk
  refine ⟨rfl,_,rfl,rfl,rfl,fun p hp=>?_⟩
  dsimp only [fzR]
  refine ⟨_,rfl,_,rfl,_,rfl,by omega,by rw [List.length_map]; omega,?_⟩
  rw [List.length_map,show ((ps.length:Nat):Int).toNat=ps.length by omega]
  refine forR_rng (fun j ρ=>∃ v5 v6,ρ=[.bag,.val (.int 5),.val (.lst (ps.map dP)),.val (.int i),.val (dP p),v5,v6]) ⟨_,_,rfl⟩ ?_ ?_
  ·rintro j ρ hj ⟨v5,v6,rfl⟩ N2 kk2
   have big:1000≤sizeLine:=by decide
   have e1:cutL (ps.map dP) none (some (j:Int))=(ps.take j).map dP:=by rw [cutL_take (by omega) (by rw [List.length_map]; omega),← List.map_take]; rfl
   have e2:cutL (ps.map dP) (some (j:Int)) none=(ps.drop j).map dP:=by rw [cutL_drop (by omega) (by rw [List.length_map]; omega),← List.map_drop]; rfl
   have em:(ps.take j).map dP ++ [dP p] ++ (ps.drop j).map dP=(ps.take j ++ p :: ps.drop j).map dP:=by simp
   walk_at "w"
   rw [e1]
   refine ⟨by simp only [List.length_map,List.length_take,List.length_cons,List.length_nil]; omega,?_⟩
   refine ⟨_,rfl,_,rfl,_,rfl,_,rfl,_,_,rfl,rfl,by rw [e2]; simp only [List.length_append,List.length_map,List.length_take,List.length_drop,List.length_cons,List.length_nil]; omega,?_⟩
   dsimp only
   rw [e2,em]
   have inm:∀ x∈ps.take j ++ p :: ps.drop j,GB x:=fun x hx=>by
    rcases List.mem_append.mp hx with h | h
    ·exact hps x (List.mem_of_mem_take h)
    ·rcases List.mem_cons.mp h with rfl | h
     ·exact hp
     ·exact hps x (List.mem_of_mem_drop h)
   have lm:(ps.take j ++ p :: ps.drop j).length=ps.length + 1:=by simp only [List.length_append,List.length_take,List.length_drop,List.length_cons]; omega
   generalize ps.take j ++ p :: ps.drop j=qs at *
   refine ⟨_,rfl,rfl,qs,rfl,by omega,fun x hx=>(inm x hx).1.mono (by decide),fun b hb=>⟨_,rfl,?_⟩⟩
   cases b with
   | true=>exact ⟨_,rfl,kk _ ⟨qs,_,_,_,_,rfl,by omega,hb.mp rfl,inm⟩⟩
   | false=>exact kk2 _ ⟨_,_,rfl⟩
  ·rintro ρ ⟨v5,v6,rfl⟩
   exact kk _ ⟨ps,_,_,_,_,rfl,by omega,hc,hps⟩
 ·rintro ρ ⟨ps,v3,v4,v5,v6,rfl,hl,hc,hps⟩
  exact kk _ ⟨ps,_,_,_,_,rfl,by omega,hc,hps⟩
theorem sc_law_amid:FnScope ["_law_p", "_law_q", "_law_r", "_law_k", "_law_near", "_law_far"] ["_law_p", "_law_q", "_law_r"] (defScope s_law_amid):=⟨rfl,rfl,rfl,by decide +kernel,rfl,by decide +kernel,by decide +kernel⟩
def F_amidB:FS:=fun as k=>∃ (p q r:P3),as=[.val (dP p),.val (dP q),.val (dP r)]∧(BP 900 p)∧(BP 900 q)∧(BP 900 r)∧∀ b:Bool,k (.val (.bl b))
theorem ok_amidB (B:Blts mg)   (F:Fnd K mg "_law_amid" s_law_amid ["_law_p", "_law_q", "_law_r"])  :
  Cal P w K mg base "_law_amid" ["_law_p", "_law_q", "_law_r"] 2 (Con K 3 F_amidB):=by
 refine def3 (lv:=1) F sc_law_amid rfl (fun f cdv A outer s H E hr=>⟨_,(s_cons (s_for PassesOwn.never rfl (i_rng e_int (by rfl) B.range_) (g_name (i:=3) sc_law_amid.nd rfl (Or.inl rfl)) (s_cons (s_set (i:=4) sc_law_amid.nd rfl (Or.inl rfl) (e_sub (e_mul (e_ix (v3 0) (v3 3) (fun _ _=>rfl)) (e_ix (v3 2) e_int (fun _ _=>rfl))) (e_mul (e_ix (v3 2) (v3 3) (fun _ _=>rfl)) (e_ix (v3 0) e_int (fun _ _=>rfl))))) (s_cons (s_set (i:=5) sc_law_amid.nd rfl (Or.inl rfl) (e_sub (e_mul (e_ix (v3 1) (v3 3) (fun _ _=>rfl)) (e_ix (v3 2) e_int (fun _ _=>rfl))) (e_mul (e_ix (v3 2) (v3 3) (fun _ _=>rfl)) (e_ix (v3 1) e_int (fun _ _=>rfl))))) (s_one (s_if (t_cmp (f:=fun i j=>decide (j < i)) op_gt (e_mul (v3 4) (v3 5)) e_int (nomark _)) (s_one (s_ret e_bl)) s_nil))))) (s_one (s_ret e_bl))),?_⟩)
 rintro as k hl ⟨p,q,r,rfl,bp,bq,br,hk⟩
 refine at3 (r:=[.val (dP p),.val (dP q),.val (dP r),.no,.no,.no]) rfl ?_
 have h1:=bp.a
 have h2:=bp.b
 have h3:=bp.c
 have h4:=bq.a
 have h5:=bq.b
 have h6:=bq.c
 have h7:=br.a
 have h8:=br.b
 have h9:=br.c
 refine ⟨_,rfl,by decide,by decide,?_⟩
 refine forR_rng (fun n ρ=>∃ v3 v4 v5:Sl,ρ=[.val (dP p),.val (dP q),.val (dP r),v3,v4,v5]) ⟨_,_,_,rfl⟩ ?_ (fun ρ h=>?_)
 ·rintro n ρ hn ⟨v3,v4,v5,rfl⟩ N kk
  have hn:n < 2:=hn
  obtain rfl | rfl:n=0∨n=1:=by omega
  ·refine ⟨_,rfl,_,rfl,[.int p.1,.int p.2.1,.int p.2.2],0,.int p.1,.inl rfl,rfl,rfl,_,rfl,[.int r.1,.int r.2.1,.int r.2.2],2,.int r.2.2,.inl rfl,rfl,rfl,_,_,rfl,rfl,⟨by omega,by omega⟩,?_⟩
   refine ⟨_,rfl,_,rfl,[.int r.1,.int r.2.1,.int r.2.2],0,.int r.1,.inl rfl,rfl,rfl,_,rfl,[.int p.1,.int p.2.1,.int p.2.2],2,.int p.2.2,.inl rfl,rfl,rfl,_,_,rfl,rfl,⟨by omega,by omega⟩,_,_,rfl,rfl,?_⟩
   refine ⟨_,rfl,_,rfl,[.int q.1,.int q.2.1,.int q.2.2],0,.int q.1,.inl rfl,rfl,rfl,_,rfl,[.int r.1,.int r.2.1,.int r.2.2],2,.int r.2.2,.inl rfl,rfl,rfl,_,_,rfl,rfl,⟨by omega,by omega⟩,?_⟩
   refine ⟨_,rfl,_,rfl,[.int r.1,.int r.2.1,.int r.2.2],0,.int r.1,.inl rfl,rfl,rfl,_,rfl,[.int q.1,.int q.2.1,.int q.2.2],2,.int q.2.2,.inl rfl,rfl,rfl,_,_,rfl,rfl,⟨by omega,by omega⟩,_,_,rfl,rfl,?_⟩
   refine ⟨_,rfl,_,rfl,_,_,rfl,rfl,⟨by walk_at "bits", by walk_at "bits"⟩,_,_,rfl,rfl,_,rfl,iteD (fun _=>hk false) (fun _=>kk _ ⟨_,_,_,rfl⟩)⟩
  ·refine ⟨_,rfl,_,rfl,[.int p.1,.int p.2.1,.int p.2.2],1,.int p.2.1,.inl rfl,rfl,rfl,_,rfl,[.int r.1,.int r.2.1,.int r.2.2],2,.int r.2.2,.inl rfl,rfl,rfl,_,_,rfl,rfl,⟨by omega,by omega⟩,?_⟩
   refine ⟨_,rfl,_,rfl,[.int r.1,.int r.2.1,.int r.2.2],1,.int r.2.1,.inl rfl,rfl,rfl,_,rfl,[.int p.1,.int p.2.1,.int p.2.2],2,.int p.2.2,.inl rfl,rfl,rfl,_,_,rfl,rfl,⟨by omega,by omega⟩,_,_,rfl,rfl,?_⟩
   refine ⟨_,rfl,_,rfl,[.int q.1,.int q.2.1,.int q.2.2],1,.int q.2.1,.inl rfl,rfl,rfl,_,rfl,[.int r.1,.int r.2.1,.int r.2.2],2,.int r.2.2,.inl rfl,rfl,rfl,_,_,rfl,rfl,⟨by omega,by omega⟩,?_⟩
   refine ⟨_,rfl,_,rfl,[.int r.1,.int r.2.1,.int r.2.2],1,.int r.2.1,.inl rfl,rfl,rfl,_,rfl,[.int q.1,.int q.2.1,.int q.2.2],2,.int q.2.2,.inl rfl,rfl,rfl,_,_,rfl,rfl,⟨by omega,by omega⟩,_,_,rfl,rfl,?_⟩
   refine ⟨_,rfl,_,rfl,_,_,rfl,rfl,⟨by walk_at "bits", by walk_at "bits"⟩,_,_,rfl,rfl,_,rfl,iteD (fun _=>hk false) (fun _=>kk _ ⟨_,_,_,rfl⟩)⟩
 obtain ⟨v3,v4,v5,rfl⟩:=h
 exact hk true
theorem sc_law_stands:FnScope ["_law_cloth", "_law_p", "_law_many", "_law_ring", "_law_k", "_law_low", "_law_high", "_law_up"] ["_law_cloth", "_law_p"] (defScope s_law_stands):=⟨rfl,rfl,rfl,by decide +kernel,rfl,by decide +kernel,by decide +kernel⟩
def F_standB:FS:=fun as k=>∃ (rs:RP) (s:P3),as=[.val (.lst (rs.map dH)),.val (dP s)]∧(rs.length≤20)∧(∀ r∈rs,r.length≤20∧∀ p∈r,GP 700 p)∧(GP 700 s)∧k (.val (.int (-1)))∧k (.val (.int (cxRs s rs % 2)))
theorem ok_standB (B:Blts mg)   (F:Fnd K mg "_law_stands" s_law_stands ["_law_cloth", "_law_p"]) (c_law_side:Cal P w K mg base "_law_side" ["_law_p", "_law_q", "_law_r"] 2 (Con K 3 F_sideM)) (c_law_amid:Cal P w K mg base "_law_amid" ["_law_p", "_law_q", "_law_r"] 2 (Con K 3 F_amidB)) :
  Cal P w K mg base "_law_stands" ["_law_cloth", "_law_p"] 3 (Con K 2 F_standB):=by
 refine def3 (lv:=2) F sc_law_stands rfl (fun f cdv A outer s H E hr=>⟨_,(s_cons (s_set (i:=2) sc_law_stands.nd rfl (Or.inl rfl) e_int) (s_cons (s_for PassesOwn.never rfl (i_list (v3 0)) (g_name (i:=3) sc_law_stands.nd rfl (Or.inl rfl)) (s_one (s_for PassesOwn.never rfl (i_rng (e_len (v3 3) (by rfl) B.len_) (by rfl) B.range_) (g_name (i:=4) sc_law_stands.nd rfl (Or.inl rfl)) (s_cons (s_set (i:=5) sc_law_stands.nd rfl (Or.inl rfl) (e_ix (v3 3) (e_sub (v3 4) e_int) (fun _ _=>rfl))) (s_cons (s_set (i:=6) sc_law_stands.nd rfl (Or.inl rfl) (e_ix (v3 3) (v3 4) (fun _ _=>rfl))) (s_cons (s_if (w_t (w_and (t_cmp (f:=fun i j=>decide (i=j)) op_eqI (e_call c_law_side hr (by rfl) (a_val (v3 5) (a_val (v3 6) (a_val (v3 1) a_nil)))) e_int (nomark _)) (w_and1 (t_val (e_call c_law_amid hr (by rfl) (a_val (v3 5) (a_val (v3 6) (a_val (v3 1) a_nil)))))))) (s_one (s_ret (e_neg e_int))) s_nil) (s_cons (s_if (t_cmp (f:=fun i j=>decide (j < i)) op_gt (e_mul (e_ix (v3 5) e_int (fun _ _=>rfl)) (e_ix (v3 6) e_int (fun _ _=>rfl))) (e_mul (e_ix (v3 6) e_int (fun _ _=>rfl)) (e_ix (v3 5) e_int (fun _ _=>rfl))) (nomark _)) (s_one (s_par (i:=5) (j:=6) rfl sc_law_stands.nd rfl rfl (by decide) rfl rfl (l_cons (v3 6) (l_cons (v3 5) l_nil)) rfl)) s_nil) (s_cons (s_set (i:=7) sc_law_stands.nd rfl (Or.inl rfl) (e_and (e_cmp (f:=fun i j=>decide (i≤j)) op_le (e_mul (e_ix (v3 5) e_int (fun _ _=>rfl)) (e_ix (v3 1) e_int (fun _ _=>rfl))) (e_mul (e_ix (v3 1) e_int (fun _ _=>rfl)) (e_ix (v3 5) e_int (fun _ _=>rfl))) (nomark _)) (e_one (e_cmp (f:=fun i j=>decide (i < j)) op_lt (e_mul (e_ix (v3 1) e_int (fun _ _=>rfl)) (e_ix (v3 6) e_int (fun _ _=>rfl))) (e_mul (e_ix (v3 6) e_int (fun _ _=>rfl)) (e_ix (v3 1) e_int (fun _ _=>rfl))) (nomark _))))) (s_one (s_aug (i:=2) sc_law_stands.nd rfl (Or.inl rfl) (e_toInt (e_and (v3 7) (e_one (e_cmp (f:=fun i j=>decide (j < i)) op_gt (e_call c_law_side hr (by rfl) (a_val (v3 5) (a_val (v3 6) (a_val (v3 1) a_nil)))) e_int (nomark _)))) (by rfl) B.int_))))))))))) (s_one (s_ret (e_mod (v3 2) e_int))))),?_⟩)
 rintro as k hl ⟨rs,s,rfl,hl,hr,hs,hk⟩
 refine at3 (r:=[.val (.lst (rs.map dH)),.val (dP s),.no,.no,.no,.no,.no,.no]) rfl ?_
 have big:20000≤sizeLine:=by decide
 have b7:=hs.bp.a
 have b8:=hs.bp.b
 have b9:=hs.bp.c
 have sBP:BP 4000 s:=hs.bp.mono (by decide)
 have s9:BP 900 s:=hs.bp.mono (by decide)
 refine mid4 (fun ρ=>ρ=[.val (.lst (rs.map dH)),.val (dP s),.val (.int 0),.no,.no,.no,.no,.no]) ?_ (fun N kk=>kk _ rfl)
 rintro ρ rfl
 refine mid4 (fun ρ=>∃ v3 v4 v5 v6 v7:Sl,ρ=[.val (.lst (rs.map dH)),.val (dP s),.val (.int (cxRs s rs)),v3,v4,v5,v6,v7]) ?_ (fun N kk=>?_)
 ·rintro ρ ⟨v3,v4,v5,v6,v7,rfl⟩
  exact ⟨_,rfl,_,_,rfl,rfl,(show (0:Int) < 2 by decide),hk.2⟩
 refine ⟨_,rfl,_,rfl,?_⟩
 refine forR_map (f:=dH) (rs:=rs) (done:=[]) (fun pre ρ=>∃ v3 v4 v5 v6 v7:Sl,ρ=[.val (.lst (rs.map dH)),.val (dP s),.val (.int (cxRs s pre)),v3,v4,v5,v6,v7]) ⟨_,_,_,_,_,rfl⟩ ?_ (fun ρ h=>kk ρ h)
 clear kk
 rintro pre r rest ρ he ⟨v3,v4,v5,v6,v7,rfl⟩ N kk
 rw [List.nil_append] at he
 obtain ⟨rl,rg⟩:=hr r (by rw [he]; simp)
 have lenP:(r.map dP).length=r.length:=List.length_map ..
 refine ⟨_,rfl,_,rfl,_,rfl,by omega,by rw [lenP]; omega,?_⟩
 rw [lenP,show ((r.length:Nat):Int).toNat=r.length by omega]
 refine forR_rng (fun i ρ=>∃ v4 v5 v6 v7:Sl,ρ=[.val (.lst (rs.map dH)),.val (dP s),.val (.int (cxRs s pre + cxR s ((eds r).take i))),.val (dH r),v4,v5,v6,v7]) ⟨v4,v5,v6,v7,?_⟩ ?_ (fun ρ h=>?_)
 ·have:cxR s ((eds r).take 0)=0:=rfl
  rw [this,Int.add_zero]
  rfl
 rotate_left
 ·obtain ⟨w4,w5,w6,w7,rfl⟩:=h
  rw [eds_all]
  refine kk _ ⟨.val (dH r),w4,w5,w6,w7,?_⟩
  have:cxRs s (pre ++ [r])=cxRs s pre + cxR s (eds r):=by unfold cxRs; rw [List.map_append,List.sum_append]; simp
  rw [this]
 clear kk
 rintro i ρ hi ⟨w4,w5,w6,w7,rfl⟩ N kk
 obtain ⟨a,b,ma,mb,ga,gb,me,et⟩:=back_P hi
 have pa:=rg a ma
 have pb:=rg b mb
 have b1:=pa.bp.a
 have b2:=pa.bp.b
 have b3:=pa.bp.c
 have b4:=pb.bp.a
 have b5:=pb.bp.b
 have b6:=pb.bp.c
 rw [et] at kk
 have ec:cxR s ((eds r).take i ++ [(a,b)])=cxR s ((eds r).take i) + cxE s a b:=by unfold cxR; rw [List.map_append,List.sum_append]; simp
 rw [ec,← Int.add_assoc] at kk
 generalize cxRs s pre + cxR s ((eds r).take i)=M at *
 refine ⟨_,rfl,_,rfl,_,_,rfl,rfl,_,_,_,.inr rfl,rfl,ga,?_⟩
 refine ⟨_,rfl,_,rfl,_,_,_,.inr rfl,rfl,gb,?_⟩
 dsimp only
 refine at3 (r:=[.val (.lst (rs.map dH)),.val (dP s),.val (.int M),.val (dH r),.val (.int i),.val (dP a),.val (dP b),w7]) rfl ?_
 refine pass4 (fun N kk2=>?_) ?_
 ·refine ⟨_,rfl,_,rfl,_,rfl,rfl,a,b,s,rfl,pa.bp.mono (by decide),pb.bp.mono (by decide),sBP,?_⟩
  dsimp only [fzR]
  refine ⟨_,_,rfl,rfl,_,rfl,iteD (fun _=>?_) (fun _=>iteF kk2)⟩
  refine ⟨_,rfl,_,rfl,_,rfl,rfl,a,b,s,rfl,pa.bp.mono (by decide),pb.bp.mono (by decide),s9,fun t=>?_⟩
  dsimp only [fzR]
  refine ⟨_,rfl,?_⟩
  cases t with
  | true=>rw [if_pos rfl]; exact ⟨1,rfl,hk.1⟩
  | false=>exact iteF kk2
 refine mid4 (fun ρ=>ρ=[.val (.lst (rs.map dH)),.val (dP s),.val (.int M),.val (dH r),.val (.int i),.val (dP (loE a b)),.val (dP (hiE a b)),w7]) ?_ (fun N2 kk2=>?_)
 rotate_left
 ·refine ⟨_,rfl,[.int a.1,.int a.2.1,.int a.2.2],1,.int a.2.1,.inl rfl,rfl,rfl,_,rfl,[.int b.1,.int b.2.1,.int b.2.2],2,.int b.2.2,.inl rfl,rfl,rfl,_,_,rfl,rfl,⟨by omega,by omega⟩,?_⟩
  refine ⟨_,rfl,[.int b.1,.int b.2.1,.int b.2.2],1,.int b.2.1,.inl rfl,rfl,rfl,_,rfl,[.int a.1,.int a.2.1,.int a.2.2],2,.int a.2.2,.inl rfl,rfl,rfl,_,_,rfl,rfl,⟨by omega,by omega⟩,_,_,rfl,rfl,_,rfl,iteD (fun z=>?_) (fun z=>?_)⟩
  ·have e1:loE a b=b:=by unfold loE; rw [if_pos z]
   have e2:hiE a b=a:=by unfold hiE; rw [if_pos z]
   rw [e1,e2] at kk2
   exact ⟨_,rfl,_,rfl,_,_,rfl,kk2 _ rfl⟩
  ·have e1:loE a b=a:=by unfold loE; rw [if_neg z]
   have e2:hiE a b=b:=by unfold hiE; rw [if_neg z]
   rw [e1,e2] at kk2
   exact kk2 _ rfl
 rintro ρ rfl
 have gl:GP 700 (loE a b):=by unfold loE; split <;> assumption
 have gh:GP 700 (hiE a b):=by unfold hiE; split <;> assumption
 have ecx:cxE s a b=if upE s (loE a b) (hiE a b)∧0 < det3 (loE a b) (hiE a b) s then 1 else 0:=rfl
 generalize loE a b=lo at gl ecx
 generalize hiE a b=hi at gh ecx
 generalize cxE s a b=X at ecx kk
 have l1:=gl.bp.a
 have l2:=gl.bp.b
 have l3:=gl.bp.c
 have l4:=gh.bp.a
 have l5:=gh.bp.b
 have l6:=gh.bp.c
 refine mid4 (fun ρ=>ρ=[.val (.lst (rs.map dH)),.val (dP s),.val (.int M),.val (dH r),.val (.int i),.val (dP lo),.val (dP hi),.val (.bl (decide (upE s lo hi)))]) ?_ (fun N2 kk2=>?_)
 rotate_left
 ·walk_at "w"
  refine iteD (fun z=>?_) (fun z=>?_)
  ·walk_at "w"
   have e:decide (upE s lo hi)=decide (s.2.1 * hi.2.2 < hi.2.1 * s.2.2):=decide_eq_decide.mpr ⟨fun q=>q.2,fun q=>⟨z,q⟩⟩
   rw [e] at kk2
   exact kk2 _ rfl
  ·have e:decide (upE s lo hi)=false:=decide_eq_false fun q=>z q.1
   rw [e] at kk2
   exact kk2 _ rfl
 rintro ρ rfl
 have sp:0 < sg (det3 lo hi s)↔0 < det3 lo hi s:=by unfold sg; split <;> (try split) <;> omega
 refine ⟨M,rfl,_,rfl,_,rfl,iteD (fun z=>?_) (fun z=>?_)⟩
 ·refine ⟨_,rfl,_,rfl,_,rfl,rfl,lo,hi,s,rfl,gl.bp.mono (by decide),gh.bp.mono (by decide),sBP,?_⟩
  dsimp only [fzR]
  refine ⟨_,_,rfl,rfl,.inr ⟨_,rfl,_,rfl,kk _ ⟨.val (.int i),.val (dP lo),.val (dP hi),.val (.bl (decide (upE s lo hi))),?_⟩⟩⟩
  have e:(if decide (0 < sg (det3 lo hi s))=true then (1:Int) else 0)=X:=by
   rw [ecx]
   by_cases q:0 < det3 lo hi s
   ·rw [decide_eq_true (sp.mpr q),if_pos rfl,if_pos ⟨z,q⟩]
   ·rw [decide_eq_false fun w=>q (sp.mp w),if_neg Bool.false_ne_true,if_neg fun w=>q w.2]
  rw [e]
  rfl
 ·have e:X=0:=by rw [ecx,if_neg fun w=>z w.1]
  rw [e] at kk
  exact .inr ⟨_,rfl,_,rfl,kk _ ⟨_,_,_,_,rfl⟩⟩
theorem sc_law_twice_area:FnScope ["_law_ring", "_law_top", "_law_bottom", "_law_k", "_law_p", "_law_q"] ["_law_ring"] (defScope s_law_twice_area):=⟨rfl,rfl,rfl,by decide +kernel,rfl,by decide +kernel,by decide +kernel⟩
def F_areaW:FS:=fun as k=>∃ (ps:List P3) (m:Nat),as=[.val (.lst (ps.map dP))]∧(1≤ps.length)∧(ps.length≤20)∧((2 * m + 2) * ps.length + 1≤2900)∧(∀ p∈ps,GP m p)∧k (.val (dP (taP ps)))
theorem ok_areaW (B:Blts mg)   (F:Fnd K mg "_law_twice_area" s_law_twice_area ["_law_ring"]) (c_law_point:Cal P w K mg base "_law_point" ["_law_a", "_law_b", "_law_n"] 2 (Con K 3 F_ptC)) :
  Cal P w K mg base "_law_twice_area" ["_law_ring"] 3 (Con K 1 F_areaW):=by
 refine def3 (lv:=2) F sc_law_twice_area rfl (fun f cdv A outer s H E hr=>⟨_,(s_cons (s_set (i:=1) sc_law_twice_area.nd rfl (Or.inl rfl) e_int) (s_cons (s_set (i:=2) sc_law_twice_area.nd rfl (Or.inl rfl) e_int) (s_cons (s_for PassesOwn.never rfl (i_rng (e_len (v3 0) (by rfl) B.len_) (by rfl) B.range_) (g_name (i:=3) sc_law_twice_area.nd rfl (Or.inl rfl)) (s_cons (s_set (i:=4) sc_law_twice_area.nd rfl (Or.inl rfl) (e_ix (v3 0) (e_sub (v3 3) e_int) (fun _ _=>rfl))) (s_cons (s_set (i:=5) sc_law_twice_area.nd rfl (Or.inl rfl) (e_ix (v3 0) (v3 3) (fun _ _=>rfl))) (s_cons (s_set (i:=1) sc_law_twice_area.nd rfl (Or.inl rfl) (e_add (e_mul (e_mul (v3 1) (e_ix (v3 4) e_int (fun _ _=>rfl))) (e_ix (v3 5) e_int (fun _ _=>rfl))) (e_mul (e_sub (e_mul (e_ix (v3 4) e_int (fun _ _=>rfl)) (e_ix (v3 5) e_int (fun _ _=>rfl))) (e_mul (e_ix (v3 4) e_int (fun _ _=>rfl)) (e_ix (v3 5) e_int (fun _ _=>rfl)))) (v3 2)))) (s_one (s_set (i:=2) sc_law_twice_area.nd rfl (Or.inl rfl) (e_mul (e_mul (v3 2) (e_ix (v3 4) e_int (fun _ _=>rfl))) (e_ix (v3 5) e_int (fun _ _=>rfl))))))))) (s_one (s_ret (e_call c_law_point hr (by rfl) (a_val (v3 1) (a_val e_int (a_val (v3 2) a_nil))))))))),?_⟩)
 rintro as k hl ⟨ps,m,rfl,l1,l20,hb,hps,hk⟩
 refine at3 (r:=[.val (.lst (ps.map dP)),.no,.no,.no,.no,.no]) rfl ?_
 have tok:∀ j,j≤ps.length→0 < (ta ps j).2∧intBits (ta ps j).1≤2900∧intBits (ta ps j).2≤2900:=fun j hj=>by
  obtain ⟨q0,q1,q2⟩:=ta_ok hps j hj
  have:(2 * m + 2) * j + 1≤2900:=Nat.le_trans (Nat.add_le_add_right (Nat.mul_le_mul_left _ hj) 1) hb
  exact ⟨q0,Nat.le_trans q1 this,Nat.le_trans q2 this⟩
 refine mid4 (fun ρ=>ρ=[.val (.lst (ps.map dP)),.val (.int 0),.no,.no,.no,.no]) ?_ (fun N kk=>kk _ rfl)
 rintro ρ rfl
 refine mid4 (fun ρ=>ρ=[.val (.lst (ps.map dP)),.val (.int 0),.val (.int 1),.no,.no,.no]) ?_ (fun N kk=>kk _ rfl)
 rintro ρ rfl
 refine mid4 (fun ρ=>∃ v3 v4 v5:Sl,ρ=[.val (.lst (ps.map dP)),.val (.int (ta ps ps.length).1),.val (.int (ta ps ps.length).2),v3,v4,v5]) ?_ (fun N kk=>?_)
 ·rintro ρ ⟨v3,v4,v5,rfl⟩
  obtain ⟨q0,q1,q2⟩:=tok ps.length (Nat.le_refl _)
  exact ⟨_,rfl,_,rfl,rfl,_,0,_,rfl,q0,Nat.le_trans q2 (by decide),hk⟩
 refine ⟨_,rfl,_,rfl,_,rfl,by omega,by rw [List.length_map]; omega,?_⟩
 rw [List.length_map,show ((ps.length:Nat):Int).toNat=ps.length by omega]
 refine forR_rng (fun i ρ=>∃ v3 v4 v5:Sl,ρ=[.val (.lst (ps.map dP)),.val (.int (ta ps i).1),.val (.int (ta ps i).2),v3,v4,v5]) ⟨_,_,_,rfl⟩ ?_ (fun ρ ⟨v3,v4,v5,e⟩=>kk _ ⟨_,_,_,e⟩)
 rintro i ρ hi ⟨v3,v4,v5,rfl⟩ N kk
 obtain ⟨q0,q1,q2⟩:=tok i (by omega)
 have m14:m≤1450:=by have:=Nat.mul_le_mul_left (2 * m + 2) l1; omega
 have hp:=hps _ (nth_mem (ps:=ps) (Nat.mod_lt (i + ps.length - 1) (show 0 < ps.length by omega)))
 have hq:=hps _ (nth_mem hi)
 have es:=ta_succ ps i
 refine ⟨_,rfl,_,rfl,_,_,rfl,rfl,_,_,_,.inr rfl,rfl,atI_back1 hi,?_⟩
 refine ⟨_,rfl,_,rfl,_,_,_,.inr rfl,rfl,atI_nth hi,?_⟩
 generalize nth ps ((i + ps.length - 1) % ps.length)=p at *
 generalize nth ps i=q at *
 have hp:=hp.mono m14
 have hq:=hq.mono m14
 have h1:=hp.bp.a
 have h2:=hp.bp.b
 have h3:=hp.bp.c
 have h4:=hq.bp.a
 have h5:=hq.bp.b
 have h6:=hq.bp.c
 walk_at "w"
 exact kk _ ⟨.val (.int i),.val (dP p),.val (dP q),by rw [es]; rfl⟩
theorem sc_law_added:FnScope ["_law_one", "_law_other"] ["_law_one", "_law_other"] (defScope s_law_added):=⟨rfl,rfl,rfl,by decide +kernel,rfl,by decide +kernel,by decide +kernel⟩
def F_addW:FS:=fun as k=>∃ (p q:P3),as=[.val (dP p),.val (dP q)]∧(GP 8000 p)∧(GP 1060 q)∧(intBits (p.2.2 * q.2.2)≤9000)∧k (.val (dP (adP p q)))
theorem ok_addW (B:Blts mg)   (F:Fnd K mg "_law_added" s_law_added ["_law_one", "_law_other"]) (c_law_point:Cal P w K mg base "_law_point" ["_law_a", "_law_b", "_law_n"] 2 (Con K 3 F_ptC)) :
  Cal P w K mg base "_law_added" ["_law_one", "_law_other"] 3 (Con K 2 F_addW):=by
 refine def3 (lv:=2) F sc_law_added rfl (fun f cdv A outer s H E hr=>⟨_,(s_one (s_ret (e_call c_law_point hr (by rfl) (a_val (e_add (e_mul (e_ix (v3 0) e_int (fun _ _=>rfl)) (e_ix (v3 1) e_int (fun _ _=>rfl))) (e_mul (e_ix (v3 1) e_int (fun _ _=>rfl)) (e_ix (v3 0) e_int (fun _ _=>rfl)))) (a_val e_int (a_val (e_mul (e_ix (v3 0) e_int (fun _ _=>rfl)) (e_ix (v3 1) e_int (fun _ _=>rfl))) a_nil)))))),?_⟩)
 rintro as k hl ⟨p,q,rfl,hp,hq,hn,hk⟩
 refine at3 (r:=[.val (dP p),.val (dP q)]) rfl ?_
 have h1:=hp.bp.a
 have h3:=hp.bp.c
 have h4:=hq.bp.a
 have h6:=hq.bp.c
 walk_at "w"
 exact ⟨_,_,_,rfl,Int.mul_pos hp.pt.1 hq.pt.1,hn,hk⟩
theorem sc_law_area_of:FnScope ["_law_rings", "_law_found", "_law_ring"] ["_law_rings"] (defScope s_law_area_of):=⟨rfl,rfl,rfl,by decide +kernel,rfl,by decide +kernel,by decide +kernel⟩
def F_areaO:FS:=fun as k=>∃ (rs:RP),as=[.val (.lst (rs.map dH))]∧(rs.length≤8)∧(∀ r∈rs,1≤r.length∧r.length≤20∧(∃ m,(∀ p∈r,GP m p)∧(2 * m + 2) * r.length + 1≤2900)∧BP 1060 (taP r))∧∀ x:P3,PtP x→x.2.1=0→vP x=areaRs rs→k (.val (dP x))
theorem ok_areaO (B:Blts mg)   (F:Fnd K mg "_law_area_of" s_law_area_of ["_law_rings"]) (c_law_added:Cal P w K mg base "_law_added" ["_law_one", "_law_other"] 3 (Con K 2 F_addW)) (c_law_twice_area:Cal P w K mg base "_law_twice_area" ["_law_ring"] 3 (Con K 1 F_areaW)) :
  Cal P w K mg base "_law_area_of" ["_law_rings"] 4 (Con K 1 F_areaO):=by
 refine def3 (lv:=3) F sc_law_area_of rfl (fun f cdv A outer s H E hr=>⟨_,(s_cons (s_set (i:=1) sc_law_area_of.nd rfl (Or.inl rfl) (e_tup (l_cons e_int (l_cons e_int (l_cons e_int l_nil))))) (s_cons (s_for PassesOwn.never rfl (i_list (v3 0)) (g_name (i:=2) sc_law_area_of.nd rfl (Or.inl rfl)) (s_one (s_set (i:=1) sc_law_area_of.nd rfl (Or.inl rfl) (e_call c_law_added hr (by rfl) (a_val (v3 1) (a_val (e_call c_law_twice_area hr (by rfl) (a_val (v3 2) a_nil)) a_nil)))))) (s_one (s_ret (v3 1))))),?_⟩)
 rintro as k hl ⟨rs,rfl,hl,hr,hk⟩
 refine at3 (r:=[.val (.lst (rs.map dH)),.no,.no]) rfl ?_
 have big:20000≤sizeLine:=by decide
 refine ⟨by show 3≤sizeLine; decide,?_⟩
 refine ⟨_,rfl,_,rfl,?_⟩
 refine forR_map (f:=dH) (rs:=rs) (done:=[]) (fun pre ρ=>∃ (x:P3) (v2:Sl),ρ=[.val (.lst (rs.map dH)),.val (dP x),v2]∧GP (1061 * pre.length + 1) x∧x.2.1=0∧vP x=areaRs pre) ⟨(0,0,1),_,rfl,⟨⟨by decide,by decide⟩,⟨by decide,by decide,by decide⟩⟩,rfl,by decide +kernel⟩ ?_ (fun ρ h=>?_)
 ·rintro pre r rest ρ he ⟨x,v2,rfl,gx,x0,vx⟩ N kk
  rw [List.nil_append] at he
  have ll:pre.length + 1≤rs.length:=by rw [he]; simp
  obtain ⟨r1,r20,⟨m,rg,rb⟩,tb⟩:=hr r (by rw [he]; simp)
  obtain ⟨t1,t2,t3⟩:=taP_v (ps:=r) fun p hp=>(rg p hp).pt.1
  refine ⟨_,rfl,_,rfl,rfl,r,m,rfl,r1,r20,rb,rg,?_⟩
  dsimp only [fzR]
  have gt:GP 1060 (taP r):=⟨t1,tb⟩
  generalize taP r=t at gt t1 t2 t3 tb
  have nb:intBits (x.2.2 * t.2.2)≤9000:=Nat.le_trans (intBits_mul_le gx.bp.c gt.bp.c) (by omega)
  refine ⟨rfl,x,t,rfl,gx.mono (by omega),gt,nb,?_⟩
  dsimp only [fzR]
  obtain ⟨a1,a2,a3⟩:=ad_v gx.pt gt.pt
  refine kk _ ⟨adP x t,_,rfl,⟨a1,(ad_bp gx gt).mono (by rw [List.length_append,List.length_singleton]; omega)⟩,a2,?_⟩
  rw [a3,vx,t3]
  unfold areaRs
  rw [List.map_append,List.sum_append]
  simp only [List.map_cons,List.map_nil,List.sum_cons,List.sum_nil]
  grind
 obtain ⟨x,v2,rfl,gx,x0,vx⟩:=h
 exact ⟨_,rfl,hk x gx.pt x0 vx⟩
theorem sc_law_spots:FnScope ["_law_rings", "_law_bag_here", "_law_many", "_law_made", "_law_k", "_law_ring", "_law_p", "_law_n", "_law_along", "_law_up"] ["_law_rings", "_law_bag_here", "_law_many"] (defScope s_law_spots):=⟨rfl,rfl,rfl,by decide +kernel,rfl,by decide +kernel,by decide +kernel⟩
def F_spotsB:FS:=fun as k=>∃ (rs:RP) (n:Int),as=[.val (.lst (rs.map dH)),.bag,.val (.int n)]∧(1≤rs.length)∧(rs.length≤10)∧(∀ r∈rs,1≤r.length∧r.length≤20∧∀ p∈r,GP 350 p)∧(0≤n)∧(n≤5)∧∀ ss:List P3,ss.length≤5→(∀ s∈ss,GP 400 s)→k (.own (ss.map dP))
theorem ok_spotsB (B:Blts mg)   (F:Fnd K mg "_law_spots" s_law_spots ["_law_rings", "_law_bag_here", "_law_many"]) (c_law_place:Cal P w K mg base "_law_place" ["_law_bag_here", "_law_most"] 3 (Con K 2 F_placeB)) (c_law_digit:Cal P w K mg base "_law_digit" ["_law_bag_here", "_law_many"] 1 (Con K 2 (F_draw 400))) (c_law_slid:Cal P w K mg base "_law_slid" ["_law_p", "_law_v"] 3 (Con K 2 F_slidW)) (c_law_point:Cal P w K mg base "_law_point" ["_law_a", "_law_b", "_law_n"] 2 (Con K 3 F_ptC)) :
  Cal P w K mg base "_law_spots" ["_law_rings", "_law_bag_here", "_law_many"] 4 (Con K 3 F_spotsB):=by
 refine def3 (lv:=3) F sc_law_spots rfl (fun f cdv A outer s H E hr=>⟨_,(s_cons (s_setO (i:=3) sc_law_spots.nd rfl (Or.inl rfl) (o_lst l_nil)) (s_cons (s_for PassesOwn.never rfl (i_rng (v3 2) (by rfl) B.range_) (g_name (i:=4) sc_law_spots.nd rfl (Or.inl rfl)) (s_one (s_if (t_cmp (f:=fun i j=>decide (i=j)) op_eqI (e_len (v3 0) (by rfl) B.len_) e_int (nomark _)) (s_one (s_app 3 (e_call c_law_place hr (by rfl) (a_bag 1 (a_val e_int a_nil))))) (s_cons (s_set (i:=5) sc_law_spots.nd rfl (Or.inl rfl) (e_ix (v3 0) (e_call c_law_digit hr (by rfl) (a_bag 1 (a_val (e_len (v3 0) (by rfl) B.len_) a_nil))) (fun _ _=>rfl))) (s_cons (s_set (i:=6) sc_law_spots.nd rfl (Or.inl rfl) (e_ix (v3 5) (e_call c_law_digit hr (by rfl) (a_bag 1 (a_val (e_len (v3 5) (by rfl) B.len_) a_nil))) (fun _ _=>rfl))) (s_cons (s_set (i:=7) sc_law_spots.nd rfl (Or.inl rfl) (e_add e_int (e_call c_law_digit hr (by rfl) (a_bag 1 (a_val e_int a_nil))))) (s_cons (s_set (i:=8) sc_law_spots.nd rfl (Or.inl rfl) (e_sub (e_call c_law_digit hr (by rfl) (a_bag 1 (a_val (e_add (e_mul e_int (v3 7)) e_int) a_nil))) (e_mul e_int (v3 7)))) (s_cons (s_set (i:=9) sc_law_spots.nd rfl (Or.inl rfl) (e_sub (e_call c_law_digit hr (by rfl) (a_bag 1 (a_val (e_add (e_mul e_int (v3 7)) e_int) a_nil))) (e_mul e_int (v3 7)))) (s_one (s_app 3 (e_call c_law_slid hr (by rfl) (a_val (v3 6) (a_val (e_call c_law_point hr (by rfl) (a_val (v3 8) (a_val (v3 9) (a_val (v3 7) a_nil)))) a_nil))))))))))))) (s_one (s_retV 3)))),?_⟩)
 rintro as k hl ⟨rs,n,rfl,l1,hl,hr,n0,n1,hk⟩
 refine at3 (r:=[.val (.lst (rs.map dH)),.bag,.val (.int n),.no,.no,.no,.no,.no,.no,.no]) rfl ?_
 have big:20000≤sizeLine:=by decide
 refine ⟨by show 0≤sizeLine; decide,?_⟩
 refine ⟨_,rfl,n,rfl,by omega,by omega,?_⟩
 have lenH:∀ rs:RP,(rs.map dH).length=rs.length:=fun rs=>List.length_map ..
 have lenP:∀ r:List P3,(r.map dP).length=r.length:=fun r=>List.length_map ..
 have b4:∀ x:Int,0≤x→x≤800→intBits x≤400:=fun x x0 x1=>Nat.le_trans (intBits_le_iff (m:=10).mpr (by show x.natAbs < 1024; omega)) (by decide)
 refine forR_rng (fun i ρ=>∃ (ss:List P3) (v4 v5 v6 v7 v8 v9:Sl),ρ=[.val (.lst (rs.map dH)),.bag,.val (.int n),.own (ss.map dP),v4,v5,v6,v7,v8,v9]∧ss.length=i∧∀ s∈ss,GP 400 s) ⟨[],_,_,_,_,_,_,rfl,rfl,fun s h=>absurd h List.not_mem_nil⟩ ?_ (fun ρ h=>?_)
 ·rintro i ρ hi ⟨ss,v4,v5,v6,v7,v8,v9,rfl,sl,sg⟩ N kk
  refine ⟨_,rfl,_,rfl,_,_,rfl,rfl,_,rfl,iteD (fun z=>by rw [lenH] at z; omega) (fun z=>?_)⟩
  refine ⟨_,rfl,rfl,_,rfl,_,rfl,rfl,_,rfl,by rw [lenH]; omega,b4 _ (by omega) (by rw [lenH]; omega),fun d d0 d1=>?_⟩
  dsimp only [fzR]
  rw [lenH] at d1
  obtain ⟨dn,rfl⟩:∃ dn:Nat,d=dn:=⟨d.toNat,by omega⟩
  have dl:dn < rs.length:=by omega
  have ga:atI (rs.map dH) (dn:Int)=some (dH rs[dn]):=atI_nat (by rw [List.getElem?_map,List.getElem?_eq_getElem dl]; rfl)
  refine ⟨_,_,_,.inr rfl,rfl,ga,?_⟩
  obtain ⟨r1,r20,rg⟩:=hr rs[dn] (List.getElem_mem dl)
  generalize rs[dn]=r at r1 r20 rg
  refine ⟨_,rfl,rfl,_,rfl,_,rfl,rfl,_,rfl,by rw [lenP]; omega,b4 _ (by omega) (by rw [lenP]; omega),fun e e0 e1=>?_⟩
  dsimp only [fzR]
  rw [lenP] at e1
  obtain ⟨en,rfl⟩:∃ en:Nat,e=en:=⟨e.toNat,by omega⟩
  have el:en < r.length:=by omega
  have gb:atI (r.map dP) (en:Int)=some (dP r[en]):=atI_nat (by rw [List.getElem?_map,List.getElem?_eq_getElem el]; rfl)
  refine ⟨_,_,_,.inr rfl,rfl,gb,?_⟩
  have gp:=rg r[en] (List.getElem_mem el)
  generalize r[en]=p at gp
  refine ⟨rfl,rfl,97,rfl,by decide,by decide +kernel,fun w w0 w1=>?_⟩
  dsimp only [fzR]
  refine ⟨_,_,rfl,rfl,?_⟩
  obtain ⟨m,hm,m1,m97⟩:∃ m,1 + w=m∧1≤m∧m≤97:=⟨_,rfl,by omega,by omega⟩
  rw [hm]
  have bm:=b4 m (by omega) (by omega)
  have b8:intBits (8 * m + 1)≤400:=b4 _ (by omega) (by omega)
  refine ⟨rfl,_,rfl,_,_,rfl,rfl,⟨by decide,by omega⟩,_,_,rfl,rfl,rfl,_,rfl,by omega,b8,fun x x0 x1=>?_⟩
  dsimp only [fzR]
  refine ⟨_,rfl,_,_,rfl,rfl,⟨by decide,by omega⟩,_,_,rfl,rfl,?_⟩
  refine ⟨rfl,_,rfl,_,_,rfl,rfl,⟨by decide,by omega⟩,_,_,rfl,rfl,rfl,_,rfl,by omega,b8,fun y y0 y1=>?_⟩
  dsimp only [fzR]
  refine ⟨_,rfl,_,_,rfl,rfl,⟨by decide,by omega⟩,_,_,rfl,rfl,?_⟩
  have gg:GP 10 (npt (x - 4 * m) (y - 4 * m) m):=⟨(isPt_npt (by omega)).1,BP.nP (p:=(x - 4 * m,y - 4 * m,m)) ⟨intBits_le_iff.mpr (by show (x - 4 * m).natAbs < 1024; omega),intBits_le_iff.mpr (by show (y - 4 * m).natAbs < 1024; omega),intBits_le_iff.mpr (by show m.natAbs < 1024; omega)⟩ (by show m≠0; omega)⟩
  refine ⟨_,rfl,_,rfl,_,rfl,_,rfl,_,rfl,rfl,x - 4 * m,y - 4 * m,m,rfl,by omega,by omega,?_⟩
  dsimp only [fzR]
  refine ⟨rfl,p,npt (x - 4 * m) (y - 4 * m) m,rfl,gp.mono (by decide),gg.pw (by decide),?_⟩
  dsimp only [fzR]
  refine ⟨by rw [lenP]; omega,kk _ ⟨ss ++ [nP (sld (npt (x - 4 * m) (y - 4 * m) m) p)],.val (.int i),.val (dH r),.val (dP p),.val (.int m),.val (.int (x - 4 * m)),.val (.int (y - 4 * m)),?_,by rw [List.length_append]; simp; omega,fun s hs=>?_⟩⟩
  ·rw [List.map_append]; rfl
  ·rcases List.mem_append.mp hs with h | h
   ·exact sg s h
   ·rw [List.mem_singleton.mp h]; exact (gg.sl gp).mono (by decide)
 obtain ⟨ss,v4,v5,v6,v7,v8,v9,rfl,sl,sg⟩:=h
 exact ⟨_,rfl,hk ss (by omega) sg⟩
theorem sc_law_parts:FnScope ["_law_rings", "_law_cloth", "_law_spots_here", "_law_spot", "_law_counts", "_law_due"] ["_law_rings", "_law_cloth", "_law_spots_here"] (defScope s_law_parts):=⟨rfl,rfl,rfl,by decide +kernel,rfl,by decide +kernel,by decide +kernel⟩
def F_partsB:FS:=fun as k=>∃ (rs cl:RP) (ss:List P3),as=[.val (.lst (rs.map dH)),.val (.lst (cl.map dH)),.val (.lst (ss.map dP))]∧(rs.length≤8)∧(cl.length≤8)∧(∀ r∈rs,1≤r.length∧r.length≤20∧(∃ m,(∀ p∈r,GP m p)∧(2 * m + 2) * r.length + 1≤2900)∧BP 1060 (taP r))∧(∀ r∈rs,IsTri r∧∀ p∈r,GP 700 p)∧(∀ r∈cl,1≤r.length∧r.length≤20∧(∃ m,(∀ p∈r,GP m p)∧(2 * m + 2) * r.length + 1≤2900)∧BP 1060 (taP r))∧(∀ r∈cl,∀ p∈r,GP 700 p)∧(ss.length≤20)∧(∀ s∈ss,GP 400 s)∧(Bal rs cl)∧(Dj rs)∧k (.val (.bl true))
theorem ok_partsB (B:Blts mg)   (F:Fnd K mg "_law_parts" s_law_parts ["_law_rings", "_law_cloth", "_law_spots_here"]) (c_law_area_of:Cal P w K mg base "_law_area_of" ["_law_rings"] 4 (Con K 1 F_areaO)) (c_law_within:Cal P w K mg base "_law_within" ["_law_ring", "_law_p"] 3 (Con K 2 F_wiM)) (c_law_stands:Cal P w K mg base "_law_stands" ["_law_cloth", "_law_p"] 3 (Con K 2 F_standB)) :
  Cal P w K mg base "_law_parts" ["_law_rings", "_law_cloth", "_law_spots_here"] 5 (Con K 3 F_partsB):=by
 refine def3 (lv:=4) F sc_law_parts rfl (fun f cdv A outer s H E hr=>⟨_,(s_cons (s_if (t_ne (hr.units) (e_call c_law_area_of hr (by rfl) (a_val (v3 0) a_nil)) (e_call c_law_area_of hr (by rfl) (a_val (v3 1) a_nil)) (nomark _)) (s_one (s_ret e_bl)) s_nil) (s_cons (s_for PassesOwn.never rfl (i_list (v3 2)) (g_name (i:=3) sc_law_parts.nd rfl (Or.inr rfl)) (s_cons (s_thenFz 4 (s_compA (i:=4) sc_law_parts.nd rfl rfl (ts:=["_law_ring"]) (fr:=["_law_spot"]) (js:=[3]) (i_list (v3 0)) (fun _ _ _ _=>(g_name (i:=0) (show List.Nodup (["_law_ring", "_law_spot"]:List Str) by decide +kernel) rfl (Or.inl rfl))) (fun _ _ _ _=>ifs_nil) (fun _ _ _ _=>(e_call c_law_within hr (by rfl) (a_val (v3 0) (a_val (v3 1) a_nil)))) ⟨rfl,by decide +kernel,rfl,by decide +kernel,fsub_of (List.forall_mem_cons.mpr ⟨rfl,(List.forall_mem_nil _)⟩),fhas_b rfl,by walk_at "ffr", rfl⟩)) (s_cons (s_set (i:=5) sc_law_parts.nd rfl (Or.inl rfl) (e_call c_law_stands hr (by rfl) (a_val (v3 1) (a_val (v3 3) a_nil)))) (s_one (s_if (w_t (w_and (t_cmp (f:=fun i j=>decide (j≤i)) op_ge (v3 5) e_int (nomark _)) (w_and (t_notIn (hr.units) (e_neg e_int) (v3 4) (by rfl)) (w_and1 (t_cmp (f:=fun i j => !decide (i=j)) op_neI (e_sum (v3 4) rfl (by rfl) B.sum_) (v3 5) (nomark _)))))) (s_one (s_ret e_bl)) s_nil))))) (s_one (s_ret e_bl)))),?_⟩)
 rintro as k hl ⟨rs,cl,ss,rfl,l8,c8,hr,tr,hc,hc7,sl,hs,bal,dj,hk⟩
 refine at3 (r:=[.val (.lst (rs.map dH)),.val (.lst (cl.map dH)),.val (.lst (ss.map dP)),.no,.no,.no]) rfl ?_
 have big:20000≤sizeLine:=by decide
 have lenH:∀ rs:RP,(rs.map dH).length=rs.length:=fun rs=>List.length_map ..
 refine pass4 (fun N kk=>?_) ?_
 ·refine ⟨_,rfl,rfl,rs,rfl,l8,hr,fun x px x0 vx=>?_⟩
  dsimp only [fzR]
  refine ⟨_,rfl,rfl,cl,rfl,c8,hc,fun y py y0 vy=>?_⟩
  dsimp only [fzR]
  have e:x=y:=vP_eq px py x0 y0 (by rw [vx,vy]; exact bal_area bal (fun r hr p hp=>((tr r hr).2 p hp).pt) fun r hr p hp=>(hc7 r hr p hp).pt)
  subst e
  refine ⟨.T [.I,.I,.I],rfl,rfl,by decide,_,rfl,?_⟩
  rw [if_pos rfl,eqD_self]
  exact iteF kk
 refine mid4 (fun ρ=>∃ v3 v4 v5:Sl,ρ=[.val (.lst (rs.map dH)),.val (.lst (cl.map dH)),.val (.lst (ss.map dP)),v3,v4,v5]) ?_ (fun N kk=>?_)
 ·rintro ρ ⟨v3,v4,v5,rfl⟩
  exact hk
 refine ⟨_,rfl,_,rfl,?_⟩
 refine forR_map (f:=dP) (rs:=ss) (done:=[]) (fun pre ρ=>∃ v3 v4 v5:Sl,ρ=[.val (.lst (rs.map dH)),.val (.lst (cl.map dH)),.val (.lst (ss.map dP)),v3,v4,v5]) ⟨_,_,_,rfl⟩ ?_ (fun ρ h=>kk ρ h)
 clear kk
 rintro pre z rest ρ he ⟨v3,v4,v5,rfl⟩ N kk
 rw [List.nil_append] at he
 have gz:=hs z (by rw [he]; simp)
 refine ⟨_,rfl,_,rfl,by rw [lenH]; omega,?_⟩
 refine compG_map (f:=dH) (h:=fun r=>D.int (wi r z)) (fun r hr k hk=>?_) ?_
 ·exact ⟨_,rfl,_,rfl,rfl,r,z,rfl,by have:=(tr r hr).1; obtain ⟨_,_,_,e,_⟩:=this; rw [e]; show 3≤1000; decide,(tr r hr).2,gz.bp.mono (by decide),hk⟩
 refine ⟨_,rfl,?_⟩
 refine ⟨_,rfl,_,rfl,rfl,cl,z,rfl,by omega,fun r hr=>⟨(hc r hr).2.1,hc7 r hr⟩,gz.mono (by decide),?_,?_⟩
 ·dsimp only [fzR]
  refine ⟨_,rfl,_,_,rfl,rfl,_,rfl,iteD (fun q=>by omega) (fun q=>iteF (kk _ ⟨_,_,_,rfl⟩))⟩
 dsimp only [fzR]
 refine ⟨_,rfl,_,_,rfl,rfl,_,rfl,iteD (fun q=>?_) (fun q=>iteF (kk _ ⟨_,_,_,rfl⟩))⟩
 refine ⟨1,rfl,_,rfl,.I,_,.inl rfl,rfl,fun e he=>by obtain ⟨_,_,rfl⟩:=List.mem_map.mp he; rfl,by decide,fun b hb=>?_⟩
 refine ⟨_,rfl,?_⟩
 cases b with
 | true=>exact iteF (iteF (kk _ ⟨_,_,_,rfl⟩))
 | false =>
  rw [if_pos (by rfl)]
  have nm:∀ r∈rs,wi r z ≠ -1:=fun r hr w=>by
   have:false=true:=hb.mpr (List.mem_map.mpr ⟨r,hr,by rw [w]⟩)
   cases this
  have due:=parts_due gz.pt bal (fun r hr p hp=>(hc7 r hr p hp).pt) (fun r hr=>⟨(tr r hr).1,fun p hp=>((tr r hr).2 p hp).pt,nm r hr⟩) dj
  refine ⟨_,rfl,rs.map fun r=>wi r z,by rw [List.map_map]; rfl,_,rfl,_,_,rfl,rfl,_,rfl,?_⟩
  rw [due]
  rw [decide_eq_true rfl]
  exact iteF (kk _ ⟨_,_,_,rfl⟩)
theorem sc_law_moves_well:FnScope ["_law_moves", "_law_turning", "_law_move"] ["_law_moves", "_law_turning"] (defScope s_law_moves_well):=⟨rfl,rfl,rfl,by decide +kernel,rfl,by decide +kernel,by decide +kernel⟩
def F_mwellB:FS:=fun as k=>∃ (ms:List Piece) (t:Bool),as=[.val (.lst (ms.map dS)),.val (.bl t)]∧(ms.length≤8)∧(∀ s∈ms,IsTri s.1∧(∀ p∈s.1,GP 700 p)∧GP 700 s.2.2∧(s.2.1=true→t=true))∧k (.val (.bl true))
theorem ok_mwellB (B:Blts mg)   (F:Fnd K mg "_law_moves_well" s_law_moves_well ["_law_moves", "_law_turning"]) (c_law_is_convex:Cal P w K mg base "_law_is_convex" ["_law_ring"] 4 (Con K 1 F_cvxM)) (c_law_is_point:Cal P w K mg base "_law_is_point" ["_law_p"] 3 (Con K 1 F_isptC)) :
  Cal P w K mg base "_law_moves_well" ["_law_moves", "_law_turning"] 5 (Con K 2 F_mwellB):=by
 refine def3 (lv:=4) F sc_law_moves_well rfl (fun f cdv A outer s H E hr=>⟨_,(s_cons (s_if (t_not (t_val (e_isi (T := "list") (v3 0) (by rfl) B.isinstance_ (pe_bltn (v:=.ty "list") (u:=.type "list") (by rfl) B.list_ (by decide +kernel) rfl) rfl rfl rfl))) (s_one (s_ret e_bl)) s_nil) (s_cons (s_for PassesOwn.never rfl (i_list (v3 0)) (g_name (i:=2) sc_law_moves_well.nd rfl (Or.inl rfl)) (s_cons (s_if (w_t (w_or (t_not (t_val (e_isi (T := "tuple") (v3 2) (by rfl) B.isinstance_ (pe_bltn (v:=.ty "tuple") (u:=.type "tuple") (by rfl) B.tuple_ (by decide +kernel) rfl) rfl rfl rfl))) (w_or (t_cmp (f:=fun i j => !decide (i=j)) op_neI (e_len (v3 2) (by rfl) B.len_) e_int (nomark _)) (w_or (t_not (t_val (e_call c_law_is_convex hr (by rfl) (a_val (e_ix (v3 2) e_int (fun _ _=>rfl)) a_nil)))) (w_or1 (t_cmp (f:=fun i j => !decide (i=j)) op_neI (e_len (e_ix (v3 2) e_int (fun _ _=>rfl)) (by rfl) B.len_) e_int (nomark _))))))) (s_one (s_ret e_bl)) s_nil) (s_one (s_if (w_t (w_or (t_not (t_val (e_isi (T := "bool") (e_ix (v3 2) e_int (fun _ _=>rfl)) (by rfl) B.isinstance_ (pe_bltn (v:=.ty "bool") (u:=.type "bool") (by rfl) B.bool_ (by decide +kernel) rfl) rfl rfl rfl))) (w_or (w_t (w_and (t_val (e_ix (v3 2) e_int (fun _ _=>rfl))) (w_and1 (t_not (t_val (v3 1)))))) (w_or1 (t_not (t_val (e_call c_law_is_point hr (by rfl) (a_val (e_ix (v3 2) e_int (fun _ _=>rfl)) a_nil)))))))) (s_one (s_ret e_bl)) s_nil)))) (s_one (s_ret e_bl)))),?_⟩)
 rintro as k hl ⟨ms,t,rfl,l8,hm,hk⟩
 refine at3 (r:=[.val (.lst (ms.map dS)),.val (.bl t),.no]) rfl ?_
 have big:20000≤sizeLine:=by decide
 refine pass4 (fun N kk=>?_) ?_
 ·walk_at "w"
  exact kk
 refine ⟨_,rfl,_,rfl,?_⟩
 refine forR_map (f:=dS) (rs:=ms) (done:=[]) (fun pre ρ=>∃ v2,ρ=[.val (.lst (ms.map dS)),.val (.bl t),v2]) ⟨_,rfl⟩ ?_ (fun ρ h=>?_)
 ·rintro pre s rest ρ he ⟨v2,rfl⟩ N kk
  rw [List.nil_append] at he
  obtain ⟨h1,h2,h3,h4⟩:=hm s (by rw [he]; simp)
  have l3:s.1.length=3:=by obtain ⟨_,_,_,e,_⟩:=h1; rw [e]; rfl
  refine pass4 (fun N2 kk2=>?_) ?_
  ·walk_at "w"
   refine ⟨by omega,h2,fun b hb=>?_⟩
   dsimp only [fzR]
   have:b=true:=hb.mpr (tri_cvx h1)
   subst this
   walk_at "w"
   have e3:(((s.1.map dP).length:Nat):Int)=3:=by rw [List.length_map,l3]; rfl
   rw [decide_eq_true e3]
   exact iteF kk2
  ·walk_at "w"
   cases e:s.2.1 with
   | false =>
    show if false=true then _ else _
    rw [if_neg Bool.false_ne_true]
    walk_at "w"
    exact ⟨h3.pt,h3.bp.mono (by decide),_,rfl,iteF (kk _ ⟨_,rfl⟩)⟩
   | true =>
    have:=h4 e
    subst this
    show if true=true then _ else _
    rw [if_pos rfl]
    walk_at "w"
    exact ⟨h3.pt,h3.bp.mono (by decide),_,rfl,iteF (kk _ ⟨_,rfl⟩)⟩
 obtain ⟨v2,rfl⟩:=h
 exact hk
theorem sc_law_mixed:FnScope ["_law_ring", "_law_bag_here", "_law_found", "_law_weights", "_law_p", "_law_weight"] ["_law_ring", "_law_bag_here"] (defScope s_law_mixed):=⟨rfl,rfl,rfl,by decide +kernel,rfl,by decide +kernel,by decide +kernel⟩
def F_mixW:FS:=fun as k=>∃ (ps:List P3),as=[.val (.lst (ps.map dP)),.bag]∧(1≤ps.length)∧(ps.length≤5)∧(∀ p∈ps,GP 256 p)∧∀ p:P3,GP (bws ps + 7 * ps.length + 10) p→MixR ps p→k (.val (dP p))
theorem ok_mixW (B:Blts mg)   (F:Fnd K mg "_law_mixed" s_law_mixed ["_law_ring", "_law_bag_here"]) (c_law_digit:Cal P w K mg base "_law_digit" ["_law_bag_here", "_law_many"] 1 (Con K 2 (F_draw 400))) (c_law_slid:Cal P w K mg base "_law_slid" ["_law_p", "_law_v"] 3 (Con K 2 F_slidW)) (c_law_point:Cal P w K mg base "_law_point" ["_law_a", "_law_b", "_law_n"] 2 (Con K 3 F_ptC)) :
  Cal P w K mg base "_law_mixed" ["_law_ring", "_law_bag_here"] 4 (Con K 2 F_mixW):=by
 refine def3 (lv:=3) F sc_law_mixed rfl (fun f cdv A outer s H E hr=>⟨_,(s_cons (s_set (i:=2) sc_law_mixed.nd rfl (Or.inl rfl) (e_tup (l_cons e_int (l_cons e_int (l_cons e_int l_nil))))) (s_cons (s_set (i:=3) sc_law_mixed.nd rfl (Or.inl rfl) e_int) (s_cons (s_for PassesOwn.never rfl (i_list (v3 0)) (g_name (i:=4) sc_law_mixed.nd rfl (Or.inl rfl)) (s_cons (s_set (i:=5) sc_law_mixed.nd rfl (Or.inl rfl) (e_add e_int (e_call c_law_digit hr (by rfl) (a_bag 1 (a_val e_int a_nil))))) (s_cons (s_set (i:=2) sc_law_mixed.nd rfl (Or.inl rfl) (e_call c_law_slid hr (by rfl) (a_val (v3 2) (a_val (e_call c_law_point hr (by rfl) (a_val (e_mul (e_ix (v3 4) e_int (fun _ _=>rfl)) (v3 5)) (a_val (e_mul (e_ix (v3 4) e_int (fun _ _=>rfl)) (v3 5)) (a_val (e_ix (v3 4) e_int (fun _ _=>rfl)) a_nil)))) a_nil)))) (s_one (s_aug (i:=3) sc_law_mixed.nd rfl (Or.inl rfl) (v3 5)))))) (s_one (s_ret (e_call c_law_point hr (by rfl) (a_val (e_ix (v3 2) e_int (fun _ _=>rfl)) (a_val (e_ix (v3 2) e_int (fun _ _=>rfl)) (a_val (e_mul (e_ix (v3 2) e_int (fun _ _=>rfl)) (v3 3)) a_nil))))))))),?_⟩)
 rintro as k hl ⟨ps,rfl,l1,hl,hps,hk⟩
 refine at3 (r:=[.val (.lst (ps.map dP)),.bag,.no,.no,.no,.no]) rfl ?_
 have bwl:∀ qs:List P3,(∀ q∈qs,GP 256 q)→bws qs≤256 * qs.length:=fun qs=>by
  induction qs with
  | nil=>intro _; exact Nat.le_refl _
  | cons q qs ih =>
   intro h
   have a:=bw_le (h q List.mem_cons_self).bp
   have b:=ih fun x hx=>h x (List.mem_cons_of_mem _ hx)
   show bw q + bws qs≤256 * (qs.length + 1)
   omega
 have snoc:∀ (qs:List P3) (x:P3),bws (qs ++ [x])=bws qs + bw x:=fun qs x=>by unfold bws; rw [List.map_append,List.sum_append]; simp
 walk_at "wd"
 refine forR_map (f:=dP) (done:=[]) (fun pre ρ=>∃ (v4 v5:Sl) (P:P3) (ws:List Int),ρ=[.val (.lst (ps.map dP)),.bag,.val (dP P),.val (.int ws.sum),v4,v5]∧GP (bws pre + 7 * pre.length + 1) P∧ws.length=pre.length∧(∀ w∈ws,0 < w)∧ws.sum≤61 * pre.length∧rX P=wq ws (pre.map rX)∧rY P=wq ws (pre.map rY)) ⟨_,_,(0,0,1),[],rfl,⟨⟨(show (0:Int) < 1 by decide),by decide⟩,(show intBits 0≤1 by decide),(show intBits 0≤1 by decide),(show intBits 1≤1 by decide)⟩,rfl,by simp,by simp,isPt_0.2.1,isPt_0.2.2⟩ ?_ ?_
 ·rintro pre x rest ρ hpre ⟨v4,v5,P,ws,rfl,hP,wl,w0,w1,ex,ey⟩ N kk
  have hpre:ps=pre ++ x :: rest:=by simpa using hpre
  have hx:x∈ps:=by rw [hpre]; simp
  have hpl:pre.length < ps.length:=by have:=congrArg List.length hpre; simp at this; omega
  have gx:=bw_gp (hps x hx).pt
  have hm:bw x≤256:=bw_le (hps x hx).bp
  have lp:=bwl pre fun q hq=>hps q (by rw [hpre]; simp [hq])
  refine ⟨rfl,rfl,61,rfl,by decide,by decide +kernel,fun d d0 d1=>?_⟩
  refine ⟨_,_,rfl,rfl,?_⟩
  have h1:=gx.bp.a
  have h2:=gx.bp.b
  have h3:=gx.bp.c
  have h4:intBits (1 + d)≤6:=bits06 (by omega) (by omega)
  have h1':intBits x.1≤256:=Nat.le_trans h1 hm
  have h2':intBits x.2.1≤256:=Nat.le_trans h2 hm
  have h3':intBits x.2.2≤256:=Nat.le_trans h3 hm
  walk_at "w"
  refine ⟨_,_,_,rfl,gx.pt.1,Nat.le_trans h3' (by decide),?_⟩
  dsimp only [fzR]
  have gg:GP (bw x + 6) (npt (x.1 * (1 + d)) (x.2.1 * (1 + d)) x.2.2):=⟨nP_pt (p:=(x.1 * (1 + d),x.2.1 * (1 + d),x.2.2)) (Int.ne_of_gt gx.pt.1),BP.nP (p:=(x.1 * (1 + d),x.2.1 * (1 + d),x.2.2)) ⟨intBits_mul_le h1 h4,intBits_mul_le h2 h4,Nat.le_trans h3 (by omega)⟩ (Int.ne_of_gt gx.pt.1)⟩
  have ip:=isPt_npt (a:=x.1 * (1 + d)) (b:=x.2.1 * (1 + d)) gx.pt.1
  have is:=isPt_sl (g:=npt (x.1 * (1 + d)) (x.2.1 * (1 + d)) x.2.2) ip (p:=P) ⟨hP.pt,rfl,rfl⟩
  refine ⟨rfl,P,_,rfl,hP.mono (by omega),gg.pw (by omega),?_⟩
  dsimp only [fzR]
  refine ⟨_,rfl,_,rfl,_,rfl,kk _ ⟨.val (dP x),.val (.int (1 + d)),_,ws ++ [1 + d],?_,(gg.sl hP).mono (by rw [snoc,List.length_append,List.length_singleton]; omega),by rw [List.length_append,List.length_append,wl]; rfl,fun w hw=>?_,?_,?_,?_⟩⟩
  ·rw [List.sum_append]; simp
  ·rcases List.mem_append.mp hw with hw | hw
   ·exact w0 w hw
   ·rw [List.mem_singleton.mp hw]; omega
  ·rw [List.sum_append,List.length_append,List.length_singleton]; simp; omega
  ·rw [is.2.1,List.map_append,List.map_cons,List.map_nil,wq_snoc _ _ _ _ (by rw [List.length_map]; exact wl),ex,Rat.intCast_mul]
   unfold rX
   grind
  ·rw [is.2.2,List.map_append,List.map_cons,List.map_nil,wq_snoc _ _ _ _ (by rw [List.length_map]; exact wl),ey,Rat.intCast_mul]
   unfold rY
   grind
 rintro ρ ⟨v4,v5,P,ws,rfl,hP,wl,w0,w1,ex,ey⟩
 rw [List.nil_append] at hP wl w1 ex ey
 have wne:ws≠[]:=by rintro rfl; simp at wl; omega
 have wp:=sum_pos wne w0
 have lp:=bwl ps hps
 have h1:=hP.bp.a
 have h2:=hP.bp.b
 have h3:=hP.bp.c
 have h3':intBits P.2.2≤1400:=Nat.le_trans h3 (by omega)
 have h4:intBits ws.sum≤9:=intBits_le_iff.mpr (by show ws.sum.natAbs < 512; omega)
 have pw:=Int.mul_pos hP.pt.1 wp
 walk_at "w"
 refine ⟨_,_,_,rfl,pw,Nat.le_trans (intBits_mul_le h3' h4) (by decide),?_⟩
 have ip:=isPt_npt (a:=P.1) (b:=P.2.1) pw
 refine hk _ ⟨ip.1,BP.nP (p:=(P.1,P.2.1,P.2.2 * ws.sum)) ⟨Nat.le_trans h1 (by omega),Nat.le_trans h2 (by omega),Nat.le_trans (intBits_mul_le h3 h4) (by omega)⟩ (Int.ne_of_gt pw)⟩ ⟨ws,wl,w0,?_,?_⟩
 ·rw [ip.2.1,← ex,Rat.intCast_mul]
  unfold rX
  have:=pos_ne hP.pt.1
  have:=pos_ne wp
  grind
 ·rw [ip.2.2,← ey,Rat.intCast_mul]
  unfold rY
  have:=pos_ne hP.pt.1
  have:=pos_ne wp
  grind
theorem sc_law_fan:FnScope ["_law_ring", "_law_bag_here", "_law_p", "_law_made", "_law_k"] ["_law_ring", "_law_bag_here"] (defScope s_law_fan):=⟨rfl,rfl,rfl,by decide +kernel,rfl,by decide +kernel,by decide +kernel⟩
def F_fanW:FS:=fun as k=>∃ (ps:List P3),as=[.val (.lst (ps.map dP)),.bag]∧(Cvx ps)∧(ps.length≤5)∧(∀ p∈ps,GP 256 p∧BxP p)∧∀ p:P3,GP (bws ps + 7 * ps.length + 10) p→BxP p→(∀ e∈eds ps,0 < det3 p e.1 e.2)→k (.own ((fanT p ps).map dH))
theorem ok_fanW (B:Blts mg)   (F:Fnd K mg "_law_fan" s_law_fan ["_law_ring", "_law_bag_here"]) (c_law_mixed:Cal P w K mg base "_law_mixed" ["_law_ring", "_law_bag_here"] 4 (Con K 2 F_mixW)) :
  Cal P w K mg base "_law_fan" ["_law_ring", "_law_bag_here"] 5 (Con K 2 F_fanW):=by
 refine def3 (lv:=4) F sc_law_fan rfl (fun f cdv A outer s H E hr=>⟨_,(s_cons (s_set (i:=2) sc_law_fan.nd rfl (Or.inl rfl) (e_call c_law_mixed hr (by rfl) (a_val (v3 0) (a_bag 1 a_nil)))) (s_cons (s_setO (i:=3) sc_law_fan.nd rfl (Or.inl rfl) (o_lst l_nil)) (s_cons (s_for PassesOwn.never rfl (i_rng (e_len (v3 0) (by rfl) B.len_) (by rfl) B.range_) (g_name (i:=4) sc_law_fan.nd rfl (Or.inl rfl)) (s_one (s_app 3 (o_e (o_lst (l_cons (v3 2) (l_cons (e_ix (v3 0) (e_sub (v3 4) e_int) (fun _ _=>rfl)) (l_cons (e_ix (v3 0) (v3 4) (fun _ _=>rfl)) l_nil)))))))) (s_one (s_retV 3))))),?_⟩)
 rintro as k hl ⟨ps,rfl,cv,hl,hps,hk⟩
 refine at3 (r:=[.val (.lst (ps.map dP)),.bag,.no,.no,.no]) rfl ?_
 have big:20000≤sizeLine:=by decide
 have l3:=cv.1
 refine ⟨_,rfl,rfl,rfl,ps,rfl,by omega,hl,fun p hp=>(hps p hp).1,fun p gp mx=>?_⟩
 dsimp only [fzR]
 have hs:∀ q∈ps,0 < q.2.2:=fun q hq=>(hps q hq).1.pt.1
 have ne:ps≠[]:=by rintro rfl; simp at l3
 have bx:=mx.box gp.pt.1 hs ne fun q hq=>(hps q hq).2
 have ps0:=fan_pos cv gp.pt.1 hs mx
 have len:(ps.map dP).length=ps.length:=List.length_map ..
 refine ⟨by show 0≤sizeLine; decide,?_⟩
 refine ⟨_,rfl,_,rfl,_,rfl,by omega,by rw [len]; omega,?_⟩
 rw [len,show ((ps.length:Nat):Int).toNat=ps.length by omega]
 refine forR_rng (fun i ρ=>∃ v4:Sl,ρ=[.val (.lst (ps.map dP)),.bag,.val (dP p),.own ((((eds ps).take i).map fun e=>[p,e.1,e.2]).map dH),v4]) ⟨_,rfl⟩ ?_ (fun ρ h=>?_)
 ·rintro i ρ hi ⟨v4,rfl⟩ N kk
  obtain ⟨a,b,ma,mb,ga,gb,me,et⟩:=back_P hi
  refine ⟨_,rfl,_,rfl,_,rfl,_,rfl,_,_,rfl,rfl,_,_,_,.inr rfl,rfl,ga,_,rfl,_,rfl,_,_,_,.inr rfl,rfl,gb,by show 3≤sizeLine; decide,?_⟩
  refine ⟨by simp only [List.length_map,List.length_take]; omega,kk _ ⟨.val (.int i),?_⟩⟩
  rw [et,List.map_append,List.map_append]
  rfl
 ·obtain ⟨v4,rfl⟩:=h
  rw [eds_all]
  exact ⟨_,rfl,hk p gp bx ps0⟩
theorem sc_law_parted:FnScope ["_law_rings", "_law_bag_here", "_law_many", "_law_made", "_law_k", "_law_at_place"] ["_law_rings", "_law_bag_here", "_law_many"] (defScope s_law_parted):=⟨rfl,rfl,rfl,by decide +kernel,rfl,by decide +kernel,by decide +kernel⟩
def F_partedW:FS:=fun as k=>∃ (rs q:RP) (n:Int),as=[.val (.lst (rs.map dH)),.bag,.val (.int n)]∧(3≤rs.length)∧(rs.length≤5)∧(∀ r∈rs,TrW 87 75 r)∧(Bal rs q)∧(Dj rs)∧(0≤n)∧(n≤10)∧∀ rs':RP,3≤rs'.length→rs'.length≤8→(∀ r∈rs',TrW 441 236 r)→Bal rs' q→Dj rs'→k (.val (.lst (rs'.map dH)))
theorem ok_partedW (B:Blts mg)   (F:Fnd K mg "_law_parted" s_law_parted ["_law_rings", "_law_bag_here", "_law_many"]) (c_law_digit:Cal P w K mg base "_law_digit" ["_law_bag_here", "_law_many"] 1 (Con K 2 (F_draw 400))) (c_law_fan:Cal P w K mg base "_law_fan" ["_law_ring", "_law_bag_here"] 5 (Con K 2 F_fanW)) :
  Cal P w K mg base "_law_parted" ["_law_rings", "_law_bag_here", "_law_many"] 6 (Con K 3 F_partedW):=by
 refine def3 (lv:=5) F sc_law_parted rfl (fun f cdv A outer s H E hr=>⟨_,(s_cons (s_set (i:=3) sc_law_parted.nd rfl (Or.inl rfl) (o_e (o_copy (v3 0) (by rfl) B.list_))) (s_cons (s_for PassesOwn.never rfl (i_rng (v3 2) (by rfl) B.range_) (g_name (i:=4) sc_law_parted.nd rfl (Or.inl rfl)) (s_cons (s_set (i:=5) sc_law_parted.nd rfl (Or.inl rfl) (e_call c_law_digit hr (by rfl) (a_bag 1 (a_val (e_len (v3 3) (by rfl) B.len_) a_nil)))) (s_one (s_if (t_cmp (f:=fun i j=>decide (i < j)) op_lt (e_len (v3 3) (by rfl) B.len_) e_int (nomark _)) (s_one (s_set (i:=3) sc_law_parted.nd rfl (Or.inl rfl) (o_e (o_cat (o_e (o_cat (o_e (o_slice (v3 3) p_none (p_some (v3 5)))) (e_call c_law_fan hr (by rfl) (a_val (e_ix (v3 3) (v3 5) (fun _ _=>rfl)) (a_bag 1 a_nil))))) (o_e (o_slice (v3 3) (p_some (e_add (v3 5) e_int)) p_none)))))) s_nil)))) (s_one (s_ret (v3 3))))),?_⟩)
 rintro as k hl ⟨rs,q,n,rfl,l3,l5,hr,bal,dj,n0,n1,hk⟩
 refine at3 (r:=[.val (.lst (rs.map dH)),.bag,.val (.int n),.no,.no,.no]) rfl ?_
 have big:20000≤sizeLine:=by decide
 have len:∀ rs:RP,(rs.map dH).length=rs.length:=fun rs=>List.length_map ..
 refine ⟨_,rfl,_,.inl rfl,?_⟩
 refine ⟨_,rfl,_,rfl,by omega,by omega,?_⟩
 refine forR_rng (fun i ρ=>∃ (v4 v5:Sl) (ms:RP) (j:Nat),ρ=[.val (.lst (rs.map dH)),.bag,.val (.int n),.val (.lst (ms.map dH)),v4,v5]∧j≤2∧ms.length=rs.length + 2 * j∧(∀ r∈ms,TrW (szS j) (szM j) r)∧ms.length≤8∧Bal ms q∧Dj ms) ⟨_,_,rs,0,rfl,by decide,rfl,hr,by omega,bal,dj⟩ ?_ (fun ρ h=>?_)
 rotate_left
 ·obtain ⟨v4,v5,ms,j,rfl,j2,ml,mt,m8,mb,md⟩:=h
  exact ⟨_,rfl,hk ms (by omega) m8 (fun r h=>(mt r h).mono szS_le szM_le) mb md⟩
 rintro i ρ hi ⟨v4,v5,ms,j,rfl,j2,ml,mt,m8,mb,md⟩ N kk
 have b4:intBits (((ms.map dH).length:Nat):Int)≤400:=Nat.le_trans (bits06 (by omega) (by rw [len]; omega)) (by decide)
 refine ⟨rfl,_,rfl,_,rfl,rfl,_,rfl,by rw [len]; omega,b4,fun d d0 d1=>?_⟩
 dsimp only [fzR]
 rw [len] at d1
 refine ⟨_,rfl,_,rfl,_,_,rfl,rfl,_,rfl,?_⟩
 refine iteD (fun z=>?_) (fun z=>kk _ ⟨_,_,ms,j,rfl,j2,ml,mt,m8,mb,md⟩)
 rw [len] at z
 have z:ms.length < 7:=by omega
 have j1:j≤1:=by omega
 obtain ⟨dn,rfl⟩:∃ dn:Nat,d=dn:=⟨d.toNat,by omega⟩
 have dl:dn < ms.length:=by omega
 have sp:ms=ms.take dn ++ ms[dn] :: ms.drop (dn + 1):=by rw [← List.drop_eq_getElem_cons dl,List.take_append_drop]
 have mem:ms[dn]∈ms:=List.getElem_mem dl
 have tw:=mt _ mem
 have tr:=tw.1
 have tg:=tw.gp
 have t3:(ms[dn]).length=3:=by obtain ⟨_,_,_,e,_⟩:=tr; rw [e]; rfl
 have bj:szM j≤256:=Nat.le_trans szM_le (by decide)
 have bn:szS (j + 1)=2 * szS j + 31∧szM (j + 1)=szS j + 31∧szM j≤szS j + 31:=by
  match j,j1 with
  | 0,_=>decide
  | 1,_=>decide
 have e1:cutL (ms.map dH) none (some (dn:Int))=(ms.take dn).map dH:=by rw [cutL_take (by omega) (by rw [len]; omega),← List.map_take]; rfl
 have e2:cutL (ms.map dH) (some ((dn:Int) + 1)) none=(ms.drop (dn + 1)).map dH:=by rw [cutL_drop (by omega) (by rw [len]; omega),← List.map_drop]; rfl
 have ga:atI (ms.map dH) (dn:Int)=some (dH ms[dn]):=atI_nat (by rw [List.getElem?_map,List.getElem?_eq_getElem dl]; rfl)
 refine ⟨_,rfl,_,rfl,_,rfl,_,rfl,?_⟩
 rw [e1]
 refine ⟨_,rfl,_,rfl,_,_,_,.inr rfl,rfl,ga,rfl,rfl,ms[dn],rfl,tri_cvx tr,by omega,fun q hq=>⟨(tg q hq).1.mono bj,(tg q hq).2⟩,fun p gp bp pp=>?_⟩
 dsimp only [fzR]
 rw [t3] at gp
 have gp:GP (szS j + 31) p:=gp.mono (by have:=tw.2.2; omega)
 obtain ⟨bn1,bn2,bn3⟩:=bn
 have fl:=fan_len p ms[dn]
 refine ⟨_,_,rfl,rfl,by rw [len,len,List.length_take]; omega,?_⟩
 refine ⟨_,rfl,_,rfl,_,_,rfl,rfl,_,rfl,_,rfl,?_⟩
 rw [e2]
 refine ⟨_,_,rfl,rfl,by rw [List.length_append,len,len,len,List.length_take,List.length_drop]; omega,?_⟩
 have ap:(ms.take dn).map dH ++ (fanT p ms[dn]).map dH ++ (ms.drop (dn + 1)).map dH=(ms.take dn ++ fanT p ms[dn] ++ ms.drop (dn + 1)).map dH:=by rw [List.map_append,List.map_append]
 rw [ap]
 have nl:(ms.take dn ++ fanT p ms[dn] ++ ms.drop (dn + 1)).length=ms.length + 2:=by
  rw [List.length_append,List.length_append,List.length_take,List.length_drop,fl,t3]; omega
 refine kk _ ⟨_,_,_,j + 1,rfl,by omega,by rw [nl]; omega,fun r h=>?_,by rw [nl]; omega,?_,?_⟩
 ·rcases List.mem_append.mp h with h | h
  ·rcases List.mem_append.mp h with h | h
   ·exact (mt r (List.mem_of_mem_take h)).mono (by omega) (by omega)
   ·rw [bn1,bn2]; exact fan_trW tw gp bp pp bn3 r h
  ·exact (mt r (List.mem_of_mem_drop h)).mono (by omega) (by omega)
 ·refine Bal.trans ?_ mb
  have fb:=fan_bal (p:=p) (ps:=ms[dn]) gp.pt fun q h=>(tg q h).1.pt
  have b2:=Bal.app (Bal.app (Bal.refl (ms.take dn)) fb) (Bal.refl (ms.drop (dn + 1)))
  rw [List.append_assoc,List.append_assoc] at b2
  rw [List.append_assoc]
  conv=>rhs; rw [sp]
  exact b2
 ·rw [sp] at md
  exact dj_part (tri_cvx tr) pp md
theorem sc_law_spread:FnScope ["_law_rings", "_law_bag_here", "_law_turning", "_law_made", "_law_k", "_law_flag", "_law_step"] ["_law_rings", "_law_bag_here", "_law_turning"] (defScope s_law_spread):=⟨rfl,rfl,rfl,by decide +kernel,rfl,by decide +kernel,by decide +kernel⟩
def F_spreadC:FS:=fun as k=>∃ (rs:RP) (t:Bool),as=[.val (.lst (rs.map dH)),.bag,.val (.bl t)]∧(rs.length≤100)∧∀ ms:List Piece,(ms.map fun s=>s.1)=rs→StepsOk ms→(t=false→∀ s∈ms,s.2.1=false)→k (.own (ms.map dS))
theorem ok_spreadC (B:Blts mg)   (F:Fnd K mg "_law_spread" s_law_spread ["_law_rings", "_law_bag_here", "_law_turning"]) (c_law_digit:Cal P w K mg base "_law_digit" ["_law_bag_here", "_law_many"] 1 (Con K 2 (F_draw 400))) :
  Cal P w K mg base "_law_spread" ["_law_rings", "_law_bag_here", "_law_turning"] 2 (Con K 3 F_spreadC):=by
 refine def3 (lv:=1) F sc_law_spread rfl (fun f cdv A outer s H E hr=>⟨_,(s_cons (s_setO (i:=3) sc_law_spread.nd rfl (Or.inl rfl) (o_lst l_nil)) (s_cons (s_for PassesOwn.never rfl (i_rng (e_len (v3 0) (by rfl) B.len_) (by rfl) B.range_) (g_name (i:=4) sc_law_spread.nd rfl (Or.inl rfl)) (s_cons (s_set (i:=5) sc_law_spread.nd rfl (Or.inl rfl) (e_and (v3 2) (e_one (e_cmp (f:=fun i j=>decide (i=j)) op_eqI (e_call c_law_digit hr (by rfl) (a_bag 1 (a_val e_int a_nil))) e_int (nomark _))))) (s_cons (s_set (i:=6) sc_law_spread.nd rfl (Or.inl rfl) (e_tup (l_cons (e_add (e_mul e_int (v3 4)) (e_call c_law_digit hr (by rfl) (a_bag 1 (a_val e_int a_nil)))) (l_cons (e_sub (e_call c_law_digit hr (by rfl) (a_bag 1 (a_val e_int a_nil))) e_int) (l_cons e_int l_nil))))) (s_cons (s_if (w_t (w_and (t_cmp (f:=fun i j=>decide (i=j)) op_eqI (v3 4) e_int (nomark _)) (w_and1 (t_cmp (f:=fun i j=>decide (i=j)) op_eqI (e_call c_law_digit hr (by rfl) (a_bag 1 (a_val e_int a_nil))) e_int (nomark _))))) (s_one (s_set (i:=6) sc_law_spread.nd rfl (Or.inl rfl) (e_tup (l_cons e_int (l_cons e_int (l_cons e_int l_nil)))))) s_nil) (s_one (s_app 3 (e_tup (l_cons (e_ix (v3 0) (v3 4) (fun _ _=>rfl)) (l_cons (v3 5) (l_cons (v3 6) l_nil)))))))))) (s_one (s_retV 3)))),?_⟩)
 rintro as k hl ⟨rs,t,rfl,hl,hk⟩
 refine at3 (r:=[.val (.lst (rs.map dH)),.bag,.val (.bl t),.no,.no,.no,.no]) rfl ?_
 have big:20000≤sizeLine:=by decide
 have len:(rs.map dH).length=rs.length:=List.length_map ..
 refine ⟨by show 0≤sizeLine; decide,?_⟩
 refine ⟨_,rfl,_,rfl,_,rfl,by omega,by rw [len]; omega,?_⟩
 rw [len,show ((rs.length:Nat):Int).toNat=rs.length by omega]
 refine forR_rng (fun i ρ=>∃ (v4 v5 v6:Sl) (ms:List Piece),ρ=[.val (.lst (rs.map dH)),.bag,.val (.bl t),.own (ms.map dS),v4,v5,v6]∧(ms.map fun s=>s.1)=rs.take i∧StepsOk ms∧(t=false→∀ s∈ms,s.2.1=false)) ⟨_,_,_,[],rfl,rfl,fun k s h=>by simp at h,by simp⟩ ?_ (fun ρ h=>?_)
 rotate_left
 ·obtain ⟨v4,v5,v6,ms,rfl,h1,h2,h3⟩:=h
  rw [List.take_length] at h1
  exact ⟨_,rfl,hk ms h1 h2 h3⟩
 rintro i ρ hi ⟨v4,v5,v6,ms,rfl,h1,h2,h3⟩ N kk
 have ml:ms.length=i:=by
  have:=congrArg List.length h1
  rw [List.length_map,List.length_take] at this
  omega
 have ga:atI (rs.map dH) (i:Int)=some (dH rs[i]):=atI_nat (by rw [List.getElem?_map,List.getElem?_eq_getElem hi]; rfl)
 refine mid4 (fun ρ=>∃ f:Bool,ρ=[.val (.lst (rs.map dH)),.bag,.val (.bl t),.own (ms.map dS),.val (.int i),.val (.bl f),v6]∧(t=false→f=false)) ?_ (fun N2 kk2=>?_)
 rotate_left
 ·refine ⟨_,rfl,_,rfl,?_⟩
  cases t with
  | false =>
   rw [if_neg Bool.false_ne_true]
   exact kk2 _ ⟨false,rfl,fun _=>rfl⟩
  | true =>
   rw [if_pos rfl]
   refine ⟨rfl,rfl,2,rfl,by decide,by decide +kernel,fun d d0 d1=>?_⟩
   exact ⟨_,_,rfl,rfl,kk2 _ ⟨_,rfl,fun z=>absurd z.symm Bool.false_ne_true⟩⟩
 rintro ρ ⟨f,rfl,hf⟩
 have bi:intBits (i:Int)≤9000:=Nat.le_trans (intBits_le_iff (m:=7).mpr (by show i < 128; omega)) (by decide)
 refine ⟨_,rfl,_,_,rfl,rfl,⟨by decide,bi⟩,rfl,rfl,9,rfl,by decide,by decide +kernel,fun d d0 d1=>?_⟩
 dsimp only [fzR]
 refine ⟨_,_,rfl,rfl,rfl,rfl,41,rfl,by decide,by decide +kernel,fun e e0 e1=>?_⟩
 dsimp only [fzR]
 refine ⟨_,_,rfl,rfl,by show 3≤sizeLine; decide,?_⟩
 refine mid4 (fun ρ=>∃ d2 e2:Int,ρ=[.val (.lst (rs.map dH)),.bag,.val (.bl t),.own (ms.map dS),.val (.int i),.val (.bl f),.val (dP (60 * i + d2,e2,1))]∧0≤d2∧d2≤8 ∧ -20≤e2∧e2≤20) ?_ (fun N2 kk2=>?_)
 rotate_left
 ·have same:N2 [.val (.lst (rs.map dH)),.bag,.val (.bl t),.own (ms.map dS),.val (.int i),.val (.bl f),.val (dP (60 * i + d,e - 20,1))]:=kk2 _ ⟨d,e - 20,rfl,d0,by omega,by omega,by omega⟩
  refine ⟨_,rfl,_,_,rfl,rfl,_,rfl,iteD (fun z=>?_) (fun z=>iteF same)⟩
  have z:(i:Int)=0:=z
  refine ⟨rfl,rfl,3,rfl,by decide,by decide +kernel,fun g g0 g1=>?_⟩
  dsimp only [fzR]
  refine ⟨_,_,rfl,rfl,_,rfl,iteD (fun q=>?_) (fun q=>same)⟩
  refine ⟨by show 3≤sizeLine; decide,kk2 _ ⟨0,0,?_,by decide,by decide,by decide,by decide⟩⟩
  rw [z]
  rfl
 clear d0 d1 e0 e1 d e
 rintro ρ ⟨d,e,rfl,d0,d1,e0,e1⟩
 refine ⟨_,rfl,_,rfl,_,rfl,_,_,_,.inr rfl,rfl,ga,_,rfl,_,rfl,by show 3≤sizeLine; decide,by rw [List.length_map]; omega,?_⟩
 refine kk _ ⟨.val (.int i),.val (.bl f),_,ms ++ [(rs[i],f,(60 * i + d,e,1))],by rw [List.map_append]; rfl,?_,fun k s h=>?_,fun z s hs=>?_⟩
 ·rw [List.map_append,h1,List.take_add_one,List.getElem?_eq_getElem hi]; rfl
 ·by_cases q:k < ms.length
  ·rw [List.getElem?_append_left q] at h
   exact h2 k s h
  ·rw [List.getElem?_append_right (by omega)] at h
   have k0:k - ms.length=0:=by
    by_cases y:k - ms.length=0
    ·exact y
    ·rw [List.getElem?_eq_none (by simp; omega)] at h; cases h
   rw [k0] at h
   cases h
   have ek:k=i:=by omega
   subst ek
   exact ⟨d,e,rfl,d0,d1,e0,e1⟩
 ·rcases List.mem_append.mp hs with hs | hs
  ·exact h3 z s hs
  ·rw [List.mem_singleton.mp hs]; exact hf z
theorem sc_law_led:FnScope ["_law_move", "_law_p"] ["_law_move", "_law_p"] (defScope s_law_led):=⟨rfl,rfl,rfl,by decide +kernel,rfl,by decide +kernel,by decide +kernel⟩
def F_ledW:FS:=fun as k=>∃ (s:Piece) (p:P3),as=[.val (dS s),.val (dP p)]∧(GP 1000 p)∧(GP 1000 s.2.2)∧k (.val (dP (ledP s.2.1 s.2.2 p)))
theorem ok_ledW (B:Blts mg)   (F:Fnd K mg "_law_led" s_law_led ["_law_move", "_law_p"]) (c_law_turned:Cal P w K mg base "_law_turned" ["_law_p"] 2 (Con K 1 F_turnC)) (c_law_slid:Cal P w K mg base "_law_slid" ["_law_p", "_law_v"] 3 (Con K 2 F_slidW)) :
  Cal P w K mg base "_law_led" ["_law_move", "_law_p"] 4 (Con K 2 F_ledW):=by
 refine def3 (lv:=3) F sc_law_led rfl (fun f cdv A outer s H E hr=>⟨_,(s_cons (s_if (t_val (e_ix (v3 0) e_int (fun _ _=>rfl))) (s_one (s_set (i:=1) sc_law_led.nd rfl (Or.inl rfl) (e_call c_law_turned hr (by rfl) (a_val (v3 1) a_nil)))) s_nil) (s_one (s_ret (e_call c_law_slid hr (by rfl) (a_val (v3 1) (a_val (e_ix (v3 0) e_int (fun _ _=>rfl)) a_nil)))))),?_⟩)
 rintro as k hl ⟨s,p,rfl,hp,hs,hk⟩
 refine at3 (r:=[.val (dS s),.val (dP p)]) rfl ?_
 have fin:∀ q:P3,GP 1000 q→nP (sld s.2.2 q)=ledP s.2.1 s.2.2 p→uCall 2 F_slidW (uaV (uVar 1) (uaV (uIx (uVar 0) (uC (.int 2))) uaNil)) [.val (dS s),.val (dP q)] fun d=>k (.val d):=fun q hq e=>by
  refine ⟨_,rfl,_,rfl,[.lst (s.1.map dP),.bl s.2.1,dP s.2.2],2,dP s.2.2,.inl rfl,rfl,rfl,rfl,q,s.2.2,rfl,hq.mono (by decide),hs.pw (by decide),?_⟩
  dsimp only [fzR]
  rw [e]
  exact hk
 refine ⟨_,rfl,[.lst (s.1.map dP),.bl s.2.1,dP s.2.2],1,.bl s.2.1,.inl rfl,rfl,rfl,s.2.1,rfl,?_⟩
 cases e1:s.2.1 with
 | true =>
  rw [if_pos rfl]
  rw [e1] at fin
  refine ⟨_,rfl,rfl,p,rfl,?_⟩
  dsimp only [fzR]
  exact fin _ hp.trn rfl
 | false =>
  rw [if_neg Bool.false_ne_true]
  rw [e1] at fin
  exact fin _ hp rfl
theorem sc_law_plan_right:FnScope ["_law_one", "_law_other", "_law_moves", "_law_turning", "_law_bag_here", "_law_rings", "_law_led_here"] ["_law_one", "_law_other", "_law_moves", "_law_turning", "_law_bag_here"] (defScope s_law_plan_right):=⟨rfl,rfl,rfl,by decide +kernel,rfl,by decide +kernel,by decide +kernel⟩
def F_planrB:FS:=fun as k=>∃ (one other:RP) (ms:List Piece) (t:Bool),as=[.val (.lst (one.map dH)),.val (.lst (other.map dH)),.val (.lst (ms.map dS)),.val (.bl t),.bag]∧(1≤ms.length)∧(ms.length≤8)∧(1≤one.length)∧(one.length≤8)∧(1≤other.length)∧(other.length≤8)∧(∀ r∈one,1≤r.length∧r.length≤20∧(∃ m,(∀ p∈r,GP m p)∧(2 * m + 2) * r.length + 1≤2900)∧BP 1060 (taP r))∧(∀ r∈one,∀ p∈r,GP 350 p)∧(∀ r∈other,1≤r.length∧r.length≤20∧(∃ m,(∀ p∈r,GP m p)∧(2 * m + 2) * r.length + 1≤2900)∧BP 1060 (taP r))∧(∀ r∈other,∀ p∈r,GP 350 p)∧(∀ s∈ms,IsTri s.1∧(∀ p∈s.1,GP 350 p)∧bws s.1≤520∧GP 350 s.2.2∧(s.2.1=true→t=true))∧(∀ r∈ms.map ledR,IsTri r∧(∀ p∈r,GP 350 p)∧bws r≤520)∧(Bal (ms.map fun s=>s.1) one)∧(Bal (ms.map ledR) other)∧(Dj (ms.map fun s=>s.1))∧(Dj (ms.map ledR))∧k (.val (.bl true))
theorem ok_planrB (B:Blts mg)   (F:Fnd K mg "_law_plan_right" s_law_plan_right ["_law_one", "_law_other", "_law_moves", "_law_turning", "_law_bag_here"]) (c_law_moves_well:Cal P w K mg base "_law_moves_well" ["_law_moves", "_law_turning"] 5 (Con K 2 F_mwellB)) (c_law_led:Cal P w K mg base "_law_led" ["_law_move", "_law_p"] 4 (Con K 2 F_ledW)) (c_law_parts:Cal P w K mg base "_law_parts" ["_law_rings", "_law_cloth", "_law_spots_here"] 5 (Con K 3 F_partsB)) (c_law_spots:Cal P w K mg base "_law_spots" ["_law_rings", "_law_bag_here", "_law_many"] 4 (Con K 3 F_spotsB)) :
  Cal P w K mg base "_law_plan_right" ["_law_one", "_law_other", "_law_moves", "_law_turning", "_law_bag_here"] 6 (Con K 5 F_planrB):=by
 refine def3 (lv:=5) F sc_law_plan_right rfl (fun f cdv A outer s H E hr=>⟨_,(s_cons (s_if (t_not (t_val (e_call c_law_moves_well hr (by rfl) (a_val (v3 2) (a_val (v3 3) a_nil))))) (s_one (s_ret e_bl)) s_nil) (s_cons (s_thenFz 5 (s_compA (i:=5) sc_law_plan_right.nd rfl rfl (ts:=["_law_move"]) (fr:=[]) (js:=[]) (i_list (v3 2)) (fun _ _ _ _=>(g_name (i:=0) (show List.Nodup (["_law_move"]:List Str) by decide +kernel) rfl (Or.inl rfl))) (fun _ _ _ _=>ifs_nil) (fun _ _ _ _=>(e_ix (v3 0) e_int (fun _ _=>rfl))) ⟨rfl,by decide +kernel,rfl,by decide +kernel,fsub_of (List.forall_mem_nil _),fhas_b rfl,by walk_at "ffr", rfl⟩)) (s_cons (s_thenFz 6 (s_compC (i:=6) sc_law_plan_right.nd rfl rfl (ts:=["_law_move"]) (i_list (v3 2)) (fun _ _ _ _=>(g_name (i:=0) (show List.Nodup (["_law_move"]:List Str) by decide +kernel) rfl (Or.inr rfl))) (fun _ _ _ _=>ifs_nil) (fun _ _ _ _=>(o_e (o_compG (ts:=["_law_p"]) (fr:=["_law_move"]) (js:=[0]) (i_list (e_ix (v3 0) e_int (fun _ _=>rfl))) (fun _ _ _ _=>(g_name (i:=0) (show List.Nodup (["_law_p", "_law_move"]:List Str) by decide +kernel) rfl (Or.inl rfl))) (fun _ _ _ _=>ifs_nil) (fun _ _ _ _=>(e_call c_law_led hr (by rfl) (a_val (v3 1) (a_val (v3 0) a_nil)))) ⟨rfl,by decide +kernel,rfl,by decide +kernel,fsub_of (List.forall_mem_cons.mpr ⟨rfl,(List.forall_mem_nil _)⟩),fhas_b rfl,by walk_at "ffr", rfl⟩))) ⟨rfl,rfl,by decide +kernel,by decide +kernel⟩)) (s_cons (s_if (t_not (t_val (e_call c_law_parts hr (by rfl) (a_val (v3 5) (a_val (v3 0) (a_val (o_e (o_cat (e_call c_law_spots hr (by rfl) (a_val (v3 0) (a_bag 4 (a_val e_int a_nil)))) (e_call c_law_spots hr (by rfl) (a_val (v3 5) (a_bag 4 (a_val e_int a_nil)))))) a_nil)))))) (s_one (s_ret e_bl)) s_nil) (s_one (s_ret (e_call c_law_parts hr (by rfl) (a_val (v3 6) (a_val (v3 1) (a_val (o_e (o_cat (e_call c_law_spots hr (by rfl) (a_val (v3 1) (a_bag 4 (a_val e_int a_nil)))) (e_call c_law_spots hr (by rfl) (a_val (v3 6) (a_bag 4 (a_val e_int a_nil)))))) a_nil)))))))))),?_⟩)
 rintro as k hl ⟨one,other,ms,t,rfl,l1,l8,o1,o8,t1,t8,h1,g1,h2,g2,hm,hl,b1,b2,d1,d2,hk⟩
 refine at3 (r:=[.val (.lst (one.map dH)),.val (.lst (other.map dH)),.val (.lst (ms.map dS)),.val (.bl t),.bag,.no,.no]) rfl ?_
 have big:20000≤sizeLine:=by decide
 have lenS:∀ ms:List Piece,(ms.map dS).length=ms.length:=fun ms=>List.length_map ..
 have lenP:∀ r:List P3,(r.map dP).length=r.length:=fun r=>List.length_map ..
 have tri:∀ r:List P3,IsTri r∧(∀ p∈r,GP 350 p)∧bws r≤520→1≤r.length∧r.length≤20∧(∃ m,(∀ p∈r,GP m p)∧(2 * m + 2) * r.length + 1≤2900)∧BP 1060 (taP r):=fun r h=>by
  have l3:r.length=3:=by obtain ⟨_,_,_,e,_⟩:=h.1; rw [e]; rfl
  refine ⟨by omega,by omega,⟨350,h.2.1,by rw [l3]; decide⟩,(ta3_bp h.1 fun p hp=>(h.2.1 p hp).pt).mono ?_⟩
  have:=h.2.2
  omega
 have hm3:∀ r∈ms.map fun s=>s.1,IsTri r∧(∀ p∈r,GP 350 p)∧bws r≤520:=fun r hr=>by
  obtain ⟨s,hs,rfl⟩:=List.mem_map.mp hr
  exact ⟨(hm s hs).1,(hm s hs).2.1,(hm s hs).2.2.1⟩
 refine pass4 (fun N kk=>?_) ?_
 ·refine ⟨_,rfl,_,rfl,rfl,ms,t,rfl,l8,fun s hs=>⟨(hm s hs).1,fun p hp=>((hm s hs).2.1 p hp).mono (by decide),(hm s hs).2.2.2.1.mono (by decide),(hm s hs).2.2.2.2⟩,?_⟩
  dsimp only [fzR]
  exact ⟨_,rfl,iteF kk⟩
 refine ⟨_,rfl,_,rfl,by rw [lenS]; omega,?_⟩
 refine compG_map (f:=dS) (h:=fun s:Piece=>dH s.1) (fun s hs k hk=>?_) ?_
 ·exact ⟨_,rfl,[dH s.1,.bl s.2.1,dP s.2.2],0,dH s.1,.inl rfl,rfl,rfl,hk⟩
 refine ⟨_,rfl,?_⟩
 refine ⟨_,rfl,_,rfl,by rw [lenS]; omega,?_⟩
 refine compG_map (f:=dS) (h:=fun s:Piece=>dH (ledR s)) (fun s hs k hk=>?_) ?_
 ·have l3:s.1.length=3:=by obtain ⟨_,_,_,e,_⟩:=(hm s hs).1; rw [e]; rfl
  refine ⟨_,rfl,[dH s.1,.bl s.2.1,dP s.2.2],0,dH s.1,.inl rfl,rfl,rfl,_,rfl,by rw [lenP]; omega,?_⟩
  refine compG_map (f:=dP) (h:=fun p=>dP (ledP s.2.1 s.2.2 p)) (fun p hp k hk=>?_) ?_
  ·refine ⟨_,rfl,_,rfl,rfl,s,p,rfl,((hm s hs).2.1 p hp).mono (by decide),(hm s hs).2.2.2.1.mono (by decide),?_⟩
   dsimp only [fzR]
   exact hk
  ·have e:(s.1.map fun p=>dP (ledP s.2.1 s.2.2 p))=(ledR s).map dP:=by unfold ledR; rw [List.map_map]; rfl
   rw [e]
   exact hk
 have e1:(ms.map fun s=>dH s.1)=(ms.map fun s=>s.1).map dH:=by rw [List.map_map]; rfl
 have e2:(ms.map fun s=>dH (ledR s))=(ms.map ledR).map dH:=by rw [List.map_map]; rfl
 rw [e1,e2]
 have lr:(ms.map fun s=>s.1).length=ms.length:=List.length_map ..
 have ll:(ms.map ledR).length=ms.length:=List.length_map ..
 generalize (ms.map fun s=>s.1)=rs at hm3 b1 d1 lr
 generalize ms.map ledR=qs at hl b2 d2 ll
 refine ⟨_,rfl,?_⟩
 dsimp only
 refine pass4 (fun N kk=>?_) ?_
 ·refine ⟨_,rfl,_,rfl,?_⟩
  refine ⟨_,rfl,rfl,rfl,one,3,rfl,o1,by omega,fun r hr=>⟨(h1 r hr).1,(h1 r hr).2.1,g1 r hr⟩,by decide,by decide,fun s1 l1' gs1=>?_⟩
  dsimp only [fzR]
  refine ⟨_,rfl,rfl,rfl,rs,2,rfl,by omega,by omega,fun r hr=>⟨(tri r (hm3 r hr)).1,(tri r (hm3 r hr)).2.1,(hm3 r hr).2.1⟩,by decide,by decide,fun s2 l2' gs2=>?_⟩
  dsimp only [fzR]
  refine ⟨_,_,rfl,rfl,by rw [lenP,lenP]; omega,rfl,rs,one,s1 ++ s2,by rw [List.map_append]; rfl,by omega,o8,fun r hr=>tri r (hm3 r hr),fun r hr=>⟨(hm3 r hr).1,fun p hp=>((hm3 r hr).2.1 p hp).mono (by decide)⟩,h1,fun r hr p hp=>(g1 r hr p hp).mono (by decide),by rw [List.length_append]; omega,fun s hs=>(List.mem_append.mp hs).elim (gs1 s) (gs2 s),b1,d1,?_⟩
  dsimp only [fzR]
  exact ⟨_,rfl,iteF kk⟩
 refine ⟨_,rfl,_,rfl,?_⟩
 refine ⟨_,rfl,rfl,rfl,other,3,rfl,t1,by omega,fun r hr=>⟨(h2 r hr).1,(h2 r hr).2.1,g2 r hr⟩,by decide,by decide,fun s1 l1' gs1=>?_⟩
 dsimp only [fzR]
 refine ⟨_,rfl,rfl,rfl,qs,2,rfl,by omega,by omega,fun r hr=>⟨(tri r (hl r hr)).1,(tri r (hl r hr)).2.1,(hl r hr).2.1⟩,by decide,by decide,fun s2 l2' gs2=>?_⟩
 dsimp only [fzR]
 refine ⟨_,_,rfl,rfl,by rw [lenP,lenP]; omega,rfl,qs,other,s1 ++ s2,by rw [List.map_append]; rfl,by omega,t8,fun r hr=>tri r (hl r hr),fun r hr=>⟨(hl r hr).1,fun p hp=>((hl r hr).2.1 p hp).mono (by decide)⟩,h2,fun r hr p hp=>(g2 r hr p hp).mono (by decide),by rw [List.length_append]; omega,fun s hs=>(List.mem_append.mp hs).elim (gs1 s) (gs2 s),b2,d2,?_⟩
 dsimp only [fzR]
 exact hk
theorem sc_law_led_ring:FnScope ["_law_move"] ["_law_move"] (defScope s_law_led_ring):=⟨rfl,rfl,rfl,by decide +kernel,rfl,by decide +kernel,by decide +kernel⟩
def F_ledrL:FS:=fun as k=>∃ (s:Piece),as=[.val (dS s)]∧(s.1.length≤75)∧(∀ p∈s.1,GP 1000 p)∧(GP 1000 s.2.2)∧k (.own ((ledR s).map dP))
theorem ok_ledrL (B:Blts mg)   (F:Fnd K mg "_law_led_ring" s_law_led_ring ["_law_move"]) (c_law_led:Cal P w K mg base "_law_led" ["_law_move", "_law_p"] 4 (Con K 2 F_ledW)) :
  Cal P w K mg base "_law_led_ring" ["_law_move"] 5 (Con K 1 F_ledrL):=by
 refine def3 (lv:=4) F sc_law_led_ring rfl (fun f cdv A outer s H E hr=>⟨_,(s_one (s_retO (o_compG (ts:=["_law_p"]) (fr:=["_law_move"]) (js:=[0]) (i_list (e_ix (v3 0) e_int (fun _ _=>rfl))) (fun _ _ _ _=>(g_name (i:=0) (show List.Nodup (["_law_p", "_law_move"]:List Str) by decide +kernel) rfl (Or.inl rfl))) (fun _ _ _ _=>ifs_nil) (fun _ _ _ _=>(e_call c_law_led hr (by rfl) (a_val (v3 1) (a_val (v3 0) a_nil)))) ⟨rfl,by decide +kernel,rfl,by decide +kernel,fsub_of (List.forall_mem_cons.mpr ⟨rfl,(List.forall_mem_nil _)⟩),fhas_b rfl,by walk_at "ffr", rfl⟩))),?_⟩)
 rintro as k hl ⟨s,rfl,hl,hp,hs,hk⟩
 refine at3 (r:=[.val (dS s)]) rfl ?_
 have big:75≤sizeLine:=by decide
 refine ⟨_,rfl,[.lst (s.1.map dP),.bl s.2.1,dP s.2.2],0,.lst (s.1.map dP),.inl rfl,rfl,rfl,_,rfl,by rw [List.length_map]; omega,?_⟩
 refine compG_map (f:=dP) (h:=fun p=>dP (ledP s.2.1 s.2.2 p)) (fun p hm k hk=>?_) ?_
 ·exact ⟨_,rfl,_,rfl,rfl,s,p,rfl,hp p hm,hs,hk⟩
 unfold ledR at hk
 rw [List.map_map] at hk
 exact hk
theorem sc_law_copy:FnScope ["_law_moves"] ["_law_moves"] (defScope s_law_copy):=⟨rfl,rfl,rfl,by decide +kernel,rfl,by decide +kernel,by decide +kernel⟩
def F_copyR:FS:=fun as k=>∃ (sh:List Piece),as=[.val (.lst (sh.map dS))]∧(sh.length≤100)∧k (.new (.lst (sh.map dS)))
theorem ok_copyR (B:Blts mg)   (F:Fnd K mg "_law_copy" s_law_copy ["_law_moves"])  :
  Cal P w K mg base "_law_copy" ["_law_moves"] 2 (Con K 1 F_copyR):=by
 refine def3 (lv:=1) F sc_law_copy rfl (fun f cdv A outer s H E hr=>⟨_,(s_one (s_retD (d_comp (ts:=["_law_ring", "_law_flag", "_law_step"]) (fr:=[]) (js:=[]) (i_list (v3 0)) (fun _ _ _ _=>(g_tup (n:=3) rfl (gs_cons (g_name (i:=0) (show List.Nodup (["_law_ring", "_law_flag", "_law_step"]:List Str) by decide +kernel) rfl (Or.inl rfl)) (gs_cons (g_name (i:=1) (show List.Nodup (["_law_ring", "_law_flag", "_law_step"]:List Str) by decide +kernel) rfl (Or.inl rfl)) (gs_cons (g_name (i:=2) (show List.Nodup (["_law_ring", "_law_flag", "_law_step"]:List Str) by decide +kernel) rfl (Or.inl rfl)) gs_nil))))) (fun _ _ _ _=>ifs_nil) (fun _ _ _ _=>(d_tup (dl_cons (d_list (o_copy (v3 0) (by rfl) B.list_)) (dl_cons (d_flat (v3 1)) (dl_cons (d_flat (v3 2)) dl_nil))))) ⟨rfl,by decide +kernel,rfl,by decide +kernel,fsub_of (List.forall_mem_nil _),fhas_b rfl,by walk_at "ffr", rfl⟩))),?_⟩)
 rintro as k hl ⟨sh,rfl,hl,hk⟩
 refine at3 (r:=[.val (.lst (sh.map dS))]) rfl ?_
 have big:1000≤sizeLine:=by decide
 refine ⟨_,rfl,_,rfl,by rw [List.length_map]; omega,?_⟩
 refine compG_sh (h:=dS) (fs:=[]) (fun s hs k2 hk2=>?_) hk
 exact ⟨_,rfl,_,.inl rfl,flats_P id _,_,rfl,rfl,_,rfl,rfl,by show 3≤sizeLine; decide,hk2⟩
theorem sc_greatest_divisor:FnScope ["one", "other"] ["one", "other"] (defScope s_greatest_divisor):=⟨rfl,rfl,rfl,by decide +kernel,rfl,by decide +kernel,by decide +kernel⟩
def F_greatest_divisor:FS:=fun as k=>∃ (a b:Int),as=[.val (.int a),.val (.int b)]∧k (.val (.int (Int.gcd a b:Nat)))
theorem ok_greatest_divisor (B:Blts mg)   (F:Fnd K mg "greatest_divisor" s_greatest_divisor ["one", "other"])  :
  Cal P w K mg base "greatest_divisor" ["one", "other"] 2 (Con K 2 F_greatest_divisor):=by
 refine def3 (lv:=1) F sc_greatest_divisor rfl (fun f cdv A outer s H E hr=>⟨_,(s_cons (s_set (i:=0) sc_greatest_divisor.nd rfl (Or.inl rfl) (e_abs (v3 0) (by rfl) B.abs_)) (s_cons (s_set (i:=1) sc_greatest_divisor.nd rfl (Or.inl rfl) (e_abs (v3 1) (by rfl) B.abs_)) (s_cons (s_while PassesOwn.never (t_cmp (f:=fun i j => !decide (i=j)) op_neI (v3 1) e_int (nomark _)) (s_one (s_par (i:=0) (j:=1) rfl sc_greatest_divisor.nd rfl rfl (by decide) rfl rfl (l_cons (v3 1) (l_cons (e_mod (v3 0) (v3 1)) l_nil)) rfl))) (s_one (s_ret (v3 0)))))),?_⟩)
 rintro as k hl ⟨a,b,rfl,hk⟩
 refine at3 (r:=[.val (.int a),.val (.int b)]) rfl ?_
 walk_at "wd"
 refine ⟨fun m ρ=>∃ (x y:Int),ρ=[.val (.int x),.val (.int y)]∧0≤x∧0≤y∧Int.gcd x y=Int.gcd a b∧m=y.toNat,⟨_,_,_,rfl,?_,?_,gcd_abs a b,rfl⟩,?_⟩
 ·split <;> omega
 ·split <;> omega
 rintro m ρ ⟨x,y,rfl,x0,y0,hg,rfl⟩
 walk_at "wd"
 refine iteDn (fun g=>?_) (fun g=>?_)
 ·have g:0 < y:=by omega
  walk_at "wd"
  have m0:=Int.emod_nonneg x (show y≠0 by omega)
  have m1:=Int.emod_lt_of_pos x g
  exact ⟨_,_,rfl,_,by omega,_,_,rfl,y0,m0,by rw [gcd_step x0 g]; exact hg,rfl⟩
 ·subst g
  refine ⟨_,rfl,?_⟩
  rw [← gcd_zero_left x0,hg]
  exact hk
theorem sc_turned:FnScope ["p", "a", "b", "n"] ["p"] (defScope s_turned):=⟨rfl,rfl,rfl,by decide +kernel,rfl,by decide +kernel,by decide +kernel⟩
def F_turned:FS:=fun as k=>∃ (p:P3),as=[.val (dP p)]∧k (.val (dP (trn p)))
theorem ok_turned (B:Blts mg)   (F:Fnd K mg "turned" s_turned ["p"])  :
  Cal P w K mg base "turned" ["p"] 2 (Con K 1 F_turned):=by
 refine def3 (lv:=1) F sc_turned rfl (fun f cdv A outer s H E hr=>⟨_,(s_cons (s_asg (v3 0) (g_tup (n:=3) rfl (gs_cons (g_name (i:=1) sc_turned.nd rfl (Or.inl rfl)) (gs_cons (g_name (i:=2) sc_turned.nd rfl (Or.inl rfl)) (gs_cons (g_name (i:=3) sc_turned.nd rfl (Or.inl rfl)) gs_nil))))) (s_one (s_ret (e_tup (l_cons (e_neg (v3 1)) (l_cons (e_neg (v3 2)) (l_cons (v3 3) l_nil))))))),?_⟩)
 rintro as k hl ⟨p,rfl,hk⟩
 refine at3 (r:=[.val (dP p),.no,.no,.no]) rfl ?_
 walk_at "w"
 refine ⟨_,_,rfl,_,_,rfl,_,_,rfl,rfl,?_⟩
 walk_at "w"
 exact hk
theorem sc_slid:FnScope ["p", "step", "a", "b", "n", "right", "up", "parts", "shared", "x", "y", "divisor"] ["p", "step"] (defScope s_slid):=⟨rfl,rfl,rfl,by decide +kernel,rfl,by decide +kernel,by decide +kernel⟩
def F_slid:FS:=fun as k=>∃ (p g:P3),as=[.val (dP p),.val (dP g)]∧(PtP p)∧(BP 1000 p)∧(PtP g)∧(BP 1000 g)∧k (.val (dP (nP (sld g p))))
theorem ok_slid (B:Blts mg)   (F:Fnd K mg "slid" s_slid ["p", "step"]) (c_greatest_divisor:Cal P w K mg base "greatest_divisor" ["one", "other"] 2 (Con K 2 F_greatest_divisor)) :
  Cal P w K mg base "slid" ["p", "step"] 3 (Con K 2 F_slid):=by
 refine def3 (lv:=2) F sc_slid rfl (fun f cdv A outer s H E hr=>⟨_,(s_cons (s_asg (v3 0) (g_tup (n:=3) rfl (gs_cons (g_name (i:=2) sc_slid.nd rfl (Or.inl rfl)) (gs_cons (g_name (i:=3) sc_slid.nd rfl (Or.inl rfl)) (gs_cons (g_name (i:=4) sc_slid.nd rfl (Or.inl rfl)) gs_nil))))) (s_cons (s_asg (v3 1) (g_tup (n:=3) rfl (gs_cons (g_name (i:=5) sc_slid.nd rfl (Or.inl rfl)) (gs_cons (g_name (i:=6) sc_slid.nd rfl (Or.inl rfl)) (gs_cons (g_name (i:=7) sc_slid.nd rfl (Or.inl rfl)) gs_nil))))) (s_cons (s_set (i:=8) sc_slid.nd rfl (Or.inl rfl) (e_call c_greatest_divisor hr (by rfl) (a_val (v3 4) (a_val (v3 7) a_nil)))) (s_cons (s_set (i:=9) sc_slid.nd rfl (Or.inl rfl) (e_add (e_mul (v3 2) (e_fdiv (v3 7) (v3 8))) (e_mul (v3 5) (e_fdiv (v3 4) (v3 8))))) (s_cons (s_set (i:=10) sc_slid.nd rfl (Or.inl rfl) (e_add (e_mul (v3 3) (e_fdiv (v3 7) (v3 8))) (e_mul (v3 6) (e_fdiv (v3 4) (v3 8))))) (s_cons (s_set (i:=11) sc_slid.nd rfl (Or.inl rfl) (e_call c_greatest_divisor hr (by rfl) (a_val (e_call c_greatest_divisor hr (by rfl) (a_val (v3 8) (a_val (v3 9) a_nil))) (a_val (v3 10) a_nil)))) (s_one (s_ret (e_tup (l_cons (e_fdiv (v3 9) (v3 11)) (l_cons (e_fdiv (v3 10) (v3 11)) (l_cons (e_mul (e_fdiv (v3 4) (v3 8)) (e_fdiv (v3 7) (v3 11))) l_nil)))))))))))),?_⟩)
 rintro as k hl ⟨p,g,rfl,h0p,bp,h0g,bg,hk⟩
 refine at3 (r:=[.val (dP p),.val (dP g),.no,.no,.no,.no,.no,.no,.no,.no,.no,.no]) rfl ?_
 obtain ⟨a,b,n⟩:=p
 obtain ⟨r,w,m⟩:=g
 have h1:intBits a≤1000:=bp.a
 have h2:intBits b≤1000:=bp.b
 have h3:intBits n≤1000:=bp.c
 have h4:intBits r≤1000:=bg.a
 have h5:intBits w≤1000:=bg.b
 have h6:intBits m≤1000:=bg.c
 have n0:n≠0:=Int.ne_of_gt h0p.1
 have m0:m≠0:=Int.ne_of_gt h0g.1
 have sp:=gcd_pos (t:=n) (b:=m) m0
 have sb:=gcd_bits (a:=n) (b:=m) m0 h6
 have pl:=fun X Y d=>slid_low (a:=a) (b:=b) (n:=n) (r:=r) (w:=w) (m:=m) h0p h0g (s:=((Int.gcd n m:Nat):Int)) (X:=X) (Y:=Y) (d:=d) rfl
 have hk:k (.val (dP (npt (a * m + r * n) (b * m + w * n) (n * m)))):=hk
 refine ⟨_,rfl,_,rfl,rfl,_,_,rfl,_,_,rfl,_,_,rfl,rfl,?_⟩
 refine ⟨_,rfl,_,rfl,rfl,_,_,rfl,_,_,rfl,_,_,rfl,rfl,?_⟩
 walk_at "w"
 refine ⟨_,_,rfl,?_⟩
 dsimp only [fzR]
 generalize ((Int.gcd n m:Nat):Int)=s at *
 have b1:intBits (m.fdiv s)≤1000:=bits_of_abs (natAbs_fdiv_le _ _) h6
 have b2:intBits (n.fdiv s)≤1000:=bits_of_abs (natAbs_fdiv_le _ _) h3
 have tb:intBits (a * m.fdiv s + r * n.fdiv s)≤2001:=intBits_add_le (intBits_mul_le h1 b1) (intBits_mul_le h4 b2)
 have ub:intBits (b * m.fdiv s + w * n.fdiv s)≤2001:=intBits_add_le (intBits_mul_le h2 b1) (intBits_mul_le h5 b2)
 have pl:=fun d=>pl _ _ d rfl rfl
 walk_at "w"
 refine ⟨_,_,rfl,?_⟩
 dsimp only [fzR]
 walk_at "w"
 refine ⟨_,_,rfl,?_⟩
 dsimp only [fzR]
 generalize a * m.fdiv s + r * n.fdiv s=X at *
 generalize b * m.fdiv s + w * n.fdiv s=Y at *
 have pl:=pl _ rfl
 have ep:=gcd_pos2 (a:=s) (b:=X) (.inl (Int.ne_of_gt sp))
 have eb:intBits ((Int.gcd s X:Nat):Int)≤1000:=by
  rw [Int.gcd_comm]
  exact gcd_bits (Int.ne_of_gt sp) sb
 generalize ((Int.gcd s X:Nat):Int)=e at *
 have dp:=gcd_pos2 (a:=e) (b:=Y) (.inl (Int.ne_of_gt ep))
 have db:intBits ((Int.gcd e Y:Nat):Int)≤1000:=by
  rw [Int.gcd_comm]
  exact gcd_bits (Int.ne_of_gt ep) eb
 generalize ((Int.gcd e Y:Nat):Int)=d at *
 have b3:intBits (m.fdiv d)≤1000:=bits_of_abs (natAbs_fdiv_le _ _) h6
 rw [← pl] at hk
 walk_at "w"
 exact hk
theorem sc_crossed:FnScope ["one", "other", "a", "b", "n", "c", "d", "m"] ["one", "other"] (defScope s_crossed):=⟨rfl,rfl,rfl,by decide +kernel,rfl,by decide +kernel,by decide +kernel⟩
def F_crossN:FS:=fun as k=>∃ (p q:P3),as=[.val (dP p),.val (dP q)]∧(BP 2000 p)∧(BP 2000 q)∧k (.val (dP (crs p q)))
theorem ok_crossN (B:Blts mg)   (F:Fnd K mg "crossed" s_crossed ["one", "other"])  :
  Cal P w K mg base "crossed" ["one", "other"] 2 (Con K 2 F_crossN):=by
 refine def3 (lv:=1) F sc_crossed rfl (fun f cdv A outer s H E hr=>⟨_,(s_cons (s_asg (v3 0) (g_tup (n:=3) rfl (gs_cons (g_name (i:=2) sc_crossed.nd rfl (Or.inl rfl)) (gs_cons (g_name (i:=3) sc_crossed.nd rfl (Or.inl rfl)) (gs_cons (g_name (i:=4) sc_crossed.nd rfl (Or.inl rfl)) gs_nil))))) (s_cons (s_asg (v3 1) (g_tup (n:=3) rfl (gs_cons (g_name (i:=5) sc_crossed.nd rfl (Or.inl rfl)) (gs_cons (g_name (i:=6) sc_crossed.nd rfl (Or.inl rfl)) (gs_cons (g_name (i:=7) sc_crossed.nd rfl (Or.inl rfl)) gs_nil))))) (s_one (s_ret (e_tup (l_cons (e_sub (e_mul (v3 3) (v3 7)) (e_mul (v3 4) (v3 6))) (l_cons (e_sub (e_mul (v3 4) (v3 5)) (e_mul (v3 2) (v3 7))) (l_cons (e_sub (e_mul (v3 2) (v3 6)) (e_mul (v3 3) (v3 5))) l_nil)))))))),?_⟩)
 rintro as k hl ⟨p,q,rfl,bp,bq,hk⟩
 refine at3 (r:=[.val (dP p),.val (dP q),.no,.no,.no,.no,.no,.no]) rfl ?_
 have h1:=bp.a
 have h2:=bp.b
 have h3:=bp.c
 have h4:=bq.a
 have h5:=bq.b
 have h6:=bq.c
 walk_at "w"
 refine ⟨_,_,rfl,_,_,rfl,_,_,rfl,rfl,?_⟩
 walk_at "w"
 refine ⟨_,_,rfl,_,_,rfl,_,_,rfl,rfl,?_⟩
 walk_at "w"
 exact hk
theorem sc_hand_of:FnScope ["line", "p", "turn"] ["line", "p"] (defScope s_hand_of):=⟨rfl,rfl,rfl,by decide +kernel,rfl,by decide +kernel,by decide +kernel⟩
def F_handN:FS:=fun as k=>∃ (c r:P3),as=[.val (dP c),.val (dP r)]∧(BP 2000 c)∧(BP 2000 r)∧k (.val (.int (sg (c.1 * r.1 + c.2.1 * r.2.1 + c.2.2 * r.2.2))))
theorem ok_handN (B:Blts mg)   (F:Fnd K mg "hand_of" s_hand_of ["line", "p"])  :
  Cal P w K mg base "hand_of" ["line", "p"] 2 (Con K 2 F_handN):=by
 refine def3 (lv:=1) F sc_hand_of rfl (fun f cdv A outer s H E hr=>⟨_,(s_cons (s_set (i:=2) sc_hand_of.nd rfl (Or.inl rfl) (e_add (e_add (e_mul (e_ix (v3 0) e_int (fun _ _=>rfl)) (e_ix (v3 1) e_int (fun _ _=>rfl))) (e_mul (e_ix (v3 0) e_int (fun _ _=>rfl)) (e_ix (v3 1) e_int (fun _ _=>rfl)))) (e_mul (e_ix (v3 0) e_int (fun _ _=>rfl)) (e_ix (v3 1) e_int (fun _ _=>rfl))))) (s_cons (s_if (t_cmp (f:=fun i j=>decide (j < i)) op_gt (v3 2) e_int (nomark _)) (s_one (s_ret e_int)) s_nil) (s_cons (s_if (t_cmp (f:=fun i j=>decide (i < j)) op_lt (v3 2) e_int (nomark _)) (s_one (s_ret (e_neg e_int))) s_nil) (s_one (s_ret e_int))))),?_⟩)
 rintro as k hl ⟨c,r,rfl,bc,br,hk⟩
 refine at3 (r:=[.val (dP c),.val (dP r),.no]) rfl ?_
 have h1:=bc.a
 have h2:=bc.b
 have h3:=bc.c
 have h4:=br.a
 have h5:=br.b
 have h6:=br.c
 walk_at "wd"
 unfold sg at hk
 refine iteD (fun g=>?_) (fun g=>?_)
 ·rw [if_pos g] at hk
  exact hk
 rw [if_neg g] at hk
 walk_at "wd"
 refine iteD (fun g2=>?_) (fun g2=>?_)
 ·rw [if_pos g2] at hk
  walk_at "w"
  exact hk
 rw [if_neg g2] at hk
 exact hk
theorem sc_side:FnScope ["p", "q", "r"] ["p", "q", "r"] (defScope s_side):=⟨rfl,rfl,rfl,by decide +kernel,rfl,by decide +kernel,by decide +kernel⟩
def F_sideN:FS:=fun as k=>∃ (p q r:P3),as=[.val (dP p),.val (dP q),.val (dP r)]∧(BP 850 p)∧(BP 850 q)∧(BP 850 r)∧k (.val (.int (sg (det3 p q r))))
theorem ok_sideN (B:Blts mg)   (F:Fnd K mg "side" s_side ["p", "q", "r"]) (c_hand_of:Cal P w K mg base "hand_of" ["line", "p"] 2 (Con K 2 F_handN)) (c_crossed:Cal P w K mg base "crossed" ["one", "other"] 2 (Con K 2 F_crossN)) :
  Cal P w K mg base "side" ["p", "q", "r"] 3 (Con K 3 F_sideN):=by
 refine def3 (lv:=2) F sc_side rfl (fun f cdv A outer s H E hr=>⟨_,(s_one (s_ret (e_call c_hand_of hr (by rfl) (a_val (e_call c_crossed hr (by rfl) (a_val (v3 0) (a_val (v3 1) a_nil))) (a_val (v3 2) a_nil))))),?_⟩)
 rintro as k hl ⟨p,q,r,rfl,bp,bq,br,hk⟩
 refine at3 (r:=[.val (dP p),.val (dP q),.val (dP r)]) rfl ?_
 refine ⟨_,rfl,_,rfl,rfl,p,q,rfl,bp.mono (by decide),bq.mono (by decide),?_⟩
 exact ⟨_,rfl,rfl,_,_,rfl,(bp.crs bq).mono (by decide),br.mono (by decide),hk⟩
theorem sc_sides_of:FnScope ["ring"] ["ring"] (defScope s_sides_of):=⟨rfl,rfl,rfl,by decide +kernel,rfl,by decide +kernel,by decide +kernel⟩
def F_sidesE:FS:=fun as k=>∃ (ps:List P3),as=[.val (.lst (ps.map dP))]∧(1≤ps.length)∧(ps.length≤1000)∧k (.own ((ps.zip (ps.drop 1 ++ ps.take 1)).map dPr))
theorem ok_sidesE (B:Blts mg)   (F:Fnd K mg "sides_of" s_sides_of ["ring"])  :
  Cal P w K mg base "sides_of" ["ring"] 2 (Con K 1 F_sidesE):=by
 refine def3 (lv:=1) F sc_sides_of rfl (fun f cdv A outer s H E hr=>⟨_,(s_one (s_retO (o_zip (v3 0) (o_e (o_cat (o_e (o_slice (v3 0) (p_some e_int) p_none)) (o_e (o_slice (v3 0) p_none (p_some e_int))))) rfl (by rfl) B.list_ (by rfl) B.zip_))),?_⟩)
 rintro as k hl ⟨ps,rfl,n1,n2,hk⟩
 refine at3 (r:=[.val (.lst (ps.map dP))]) rfl ?_
 have big:1000≤sizeLine:=by decide
 have e1:cutL (ps.map dP) (some 1) none=(ps.drop 1).map dP:=by
  rw [cutL_drop (by decide) (by rw [List.length_map]; omega),← List.map_drop]; rfl
 have e2:cutL (ps.map dP) none (some 1)=(ps.take 1).map dP:=by
  rw [cutL_take (by decide) (by rw [List.length_map]; omega),← List.map_take]; rfl
 refine ⟨_,rfl,_,rfl,_,rfl,_,rfl,_,rfl,_,rfl,_,rfl,_,_,rfl,rfl,?_,_,_,rfl,rfl,?_⟩
 ·rw [e1,e2]
  simp only [List.length_map,List.length_drop,List.length_take]
  omega
 rw [e1,e2,← List.map_append,List.zip_map,List.map_map]
 exact hk
theorem sc_note_sides:FnScope ["ends", "rings", "share", "ring", "p", "q"] ["ends", "rings", "share"] (defScope s_note_sides):=⟨rfl,rfl,rfl,by decide +kernel,rfl,by decide +kernel,by decide +kernel⟩
def F_noteN:FL:=fun b ks dss xs k=>∃ (rs:RP) (s:Int) (G:P3→List En) (m:Nat),  b=false∧xs=[(.lst (rs.map dH)),(.int s)]∧(DsOk ks dss G)∧(∀ p,(G p).length≤m)∧(∀ ps∈rs,1≤ps.length∧ps.length≤75)∧(ks.length + 2 * (rs.map List.length).sum≤10000)∧(m + 2 * (rs.map List.length).sum≤10000)∧∀ ks' dss',DsOk ks' dss' (fun p=>G p ++ endsR s p rs)→ks'.length≤ks.length + 2 * (rs.map List.length).sum→k ks' dss'
theorem ok_noteN (B:Blts mg)   (F:Fnd K mg "note_sides" s_note_sides ["ends", "rings", "share"]) (c_sides_of:Cal P w K mg base "sides_of" ["ring"] 2 (Con K 1 F_sidesE)) :
  Cal P w K mg base "note_sides" ["ends", "rings", "share"] 3 (ConL K 3 F_noteN):=by
 refine def3L (lv:=2) F sc_note_sides rfl (fun f cdv A outer s H E hr=>⟨_,(s_one (s_for PassesOwn.never rfl (i_list (v3 1)) (g_name (i:=3) sc_note_sides.nd rfl (Or.inl rfl)) (s_one (s_for PassesOwn.never rfl (i_list (e_call c_sides_of hr (by rfl) (a_val (v3 3) a_nil))) (g_tup (n:=2) rfl (gs_cons (g_name (i:=4) sc_note_sides.nd rfl (Or.inl rfl)) (gs_cons (g_name (i:=5) sc_note_sides.nd rfl (Or.inl rfl)) gs_nil))) (s_cons (s_sdA (b:=false) 0 (hu4 hr) (v3 4) (e_tup (l_cons (v3 5) (l_cons (v3 2) l_nil)))) (s_one (s_sdA (b:=false) 0 (hu4 hr) (v3 5) (e_tup (l_cons (v3 4) (l_cons (e_neg (v3 2)) l_nil)))))))))),?_⟩)
 rintro b a0 ks as dss xs k hl ⟨rs,s,G,m,rfl,rfl,ok,hg,hr,h1,h2,hk⟩
 refine at3 (r:=[.deep (.dl false a0 ks as dss),.val (.lst (rs.map dH)),.val (.int s),.no,.no,.no]) rfl ?_
 have big:20000≤sizeLine:=by decide
 refine ⟨_,rfl,_,rfl,?_⟩
 refine forR_map (f:=dH) (rs:=rs) (done:=[]) (fun pre ρ=>∃ (ks1:List (List (List Int))) (as1:List Addr) (dss1:List (List D)) (v3 v4 v5:Sl),ρ=[.deep (.dl false a0 ks1 as1 dss1),.val (.lst (rs.map dH)),.val (.int s),v3,v4,v5]∧DsOk ks1 dss1 (fun p=>G p ++ endsR s p pre)∧ks1.length≤ks.length + 2 * (pre.map List.length).sum) ⟨ks,as,dss,_,_,_,rfl,by simpa [endsR] using ok,by simp⟩ ?_ (fun ρ h=>?_)
 rotate_left
 ·obtain ⟨ks1,as1,dss1,v3,v4,v5,rfl,o1,o2⟩:=h
  rw [List.nil_append] at o1 o2
  exact ⟨ks1,as1,dss1,rfl,hk _ _ o1 o2⟩
 rintro pre ps rest ρ he ⟨ks1,as1,dss1,v3,v4,v5,rfl,o1,o2⟩ N kk
 rw [List.nil_append] at he
 have mem:ps∈rs:=by rw [he]; simp
 obtain ⟨r1,r2⟩:=hr ps mem
 have tot:(rs.map List.length).sum=(pre.map List.length).sum + (ps.length + (rest.map List.length).sum):=by rw [he,List.map_append,List.sum_append,List.map_cons,List.sum_cons]
 have el:∀ p,(endsR s p pre).length≤2 * (pre.map List.length).sum:=fun p=>by
  clear he tot o1 o2 kk
  induction pre with
  | nil=>simp [endsR]
  | cons x l ih =>
   have a1:=endsE_len s p (fwd x)
   rw [fwd_len] at a1
   show (endsE s p (fwd x) ++ endsR s p l).length≤2 * (List.length x + (l.map List.length).sum)
   rw [List.length_append]
   omega
 refine ⟨_,rfl,rfl,ps,rfl,r1,by omega,?_⟩
 dsimp only [fzR]
 refine ⟨_,rfl,?_⟩
 refine forR_pr2 (f:=fun e:P3×P3=>dP e.1) (g:=fun e:P3×P3=>dP e.2) (done:=[]) (rs:=fwd ps) (fun es ρ=>∃ (ks2:List (List (List Int))) (as2:List Addr) (dss2:List (List D)) (v4 v5:Sl),ρ=[.deep (.dl false a0 ks2 as2 dss2),.val (.lst (rs.map dH)),.val (.int s),.val (dH ps),v4,v5]∧DsOk ks2 dss2 (fun p=>(G p ++ endsR s p pre) ++ endsE s p es)∧ks2.length≤ks1.length + 2 * es.length) ⟨ks1,as1,dss1,_,_,rfl,by simpa [endsE] using o1,by simp⟩ ?_ (fun ρ h=>?_)
 rotate_left
 ·obtain ⟨ks2,as2,dss2,v4,v5,rfl,q1,q2⟩:=h
  rw [List.nil_append] at q1 q2
  refine kk _ ⟨ks2,as2,dss2,_,_,_,rfl,?_,?_⟩
  ·have e:(fun p=>G p ++ endsR s p (pre ++ [ps]))=fun p=>(G p ++ endsR s p pre) ++ endsE s p (fwd ps):=by
    funext p
    rw [endsR_snoc,List.append_assoc]
   rw [e]
   exact q1
  ·rw [fwd_len] at q2
   rw [List.map_append,List.sum_append]
   simp only [List.map_cons,List.map_nil,List.sum_cons,List.sum_nil]
   omega
 clear kk
 rintro es e rest2 ρ he2 ⟨ks2,as2,dss2,v4,v5,rfl,q1,q2⟩ N kk
 rw [List.nil_append] at he2
 have l2:es.length < ps.length:=by
  have:=congrArg List.length he2
  rw [fwd_len,List.length_append,List.length_cons] at this
  omega
 have gl:∀ p,((G p ++ endsR s p pre) ++ endsE s p es).length≤m + 2 * (pre.map List.length).sum + 2 * es.length:=fun p=>by
  have a1:=hg p
  have a2:=el p
  have a3:=endsE_len s p es
  rw [List.length_append,List.length_append]
  omega
 have s1:=q1.size e.1 (Nat.le_refl _)
 have p1:=q1.put e.1 (e.2,s)
 refine ⟨a0,ks2,as2,dss2,rfl,_,rfl,kP e.1,rfl,keyOk_P _,by omega,q1.len,fun ds hd=>?_,fun as3 dss3=>?_⟩
 ·rw [q1.at hd,List.length_map]
  have:=gl e.1
  omega
 refine ⟨_,rfl,_,rfl,by show 2≤sizeLine; decide,?_⟩
 refine ⟨a0,_,as3,_,rfl,_,rfl,kP e.2,rfl,keyOk_P _,by omega,p1.len,fun ds hd=>?_,fun as4 dss4=>?_⟩
 ·rw [p1.at hd,List.length_map]
  have:=gl e.2
  unfold addC
  dsimp only
  split
  ·rw [List.length_append,List.length_singleton]; omega
  ·omega
 have s2:=p1.size e.2 (Nat.le_refl _)
 refine ⟨_,rfl,_,rfl,_,rfl,by show 2≤sizeLine; decide,?_⟩
 refine kk _ ⟨_,as4,_,.val (dP e.1),.val (dP e.2),rfl,?_,?_⟩
 ·have p2:=p1.put e.2 (e.1,-s)
  rw [addC_ends] at p2
  have eq:(fun p=>(G p ++ endsR s p pre) ++ endsE s p (es ++ [e]))=fun p=>((G p ++ endsR s p pre) ++ endsE s p es) ++ ends1 s p (e.1,e.2):=by
   funext p
   rw [endsE_snoc,← List.append_assoc]
  rw [eq]
  exact p2
 ·rw [List.length_append,List.length_singleton]
  omega
theorem sc_is_even:FnScope ["p", "ends", "line", "total", "others", "q", "share"] ["p", "ends"] (defScope s_is_even):=⟨rfl,rfl,rfl,by decide +kernel,rfl,by decide +kernel,by decide +kernel⟩
def F_evenN:FS:=fun as k=>∃ (p:P3) (es:List En),as=[.val (dP p),.val (.lst (es.map dE))]∧(GP 900 p)∧(∀ e∈es,GP 900 e.1∧e.1≠p)∧(es.length≤10000)∧∀ b:Bool,(b=true↔EvenAt p es)→k (.val (.bl b))
theorem ok_evenN (B:Blts mg)   (F:Fnd K mg "is_even" s_is_even ["p", "ends"]) (c_crossed:Cal P w K mg base "crossed" ["one", "other"] 2 (Con K 2 F_crossN)) (c_hand_of:Cal P w K mg base "hand_of" ["line", "p"] 2 (Con K 2 F_handN)) :
  Cal P w K mg base "is_even" ["p", "ends"] 3 (Con K 2 F_evenN):=by
 refine def3 (lv:=2) F sc_is_even rfl (fun f cdv A outer s H E hr=>⟨_,(s_cons (s_while PassesOwn.never (t_truL (v3 1)) (s_cons (s_set (i:=2) sc_is_even.nd rfl (Or.inl rfl) (e_call c_crossed hr (by rfl) (a_val (v3 0) (a_val (e_ix (e_ix (v3 1) e_int (fun _ _=>rfl)) e_int (fun _ _=>rfl)) a_nil)))) (s_cons (s_set (i:=3) sc_is_even.nd rfl (Or.inl rfl) e_int) (s_cons (s_setO (i:=4) sc_is_even.nd rfl (Or.inl rfl) (o_lst l_nil)) (s_cons (s_for PassesOwn.never rfl (i_list (v3 1)) (g_tup (n:=2) rfl (gs_cons (g_name (i:=5) sc_is_even.nd rfl (Or.inl rfl)) (gs_cons (g_name (i:=6) sc_is_even.nd rfl (Or.inl rfl)) gs_nil))) (s_one (s_if (t_cmp (f:=fun i j=>decide (i=j)) op_eqI (e_call c_hand_of hr (by rfl) (a_val (v3 2) (a_val (v3 5) a_nil))) e_int (nomark _)) (s_one (s_aug (i:=3) sc_is_even.nd rfl (Or.inl rfl) (v3 6))) (s_one (s_app 4 (e_tup (l_cons (v3 5) (l_cons (v3 6) l_nil)))))))) (s_cons (s_if (t_cmp (f:=fun i j => !decide (i=j)) op_neI (v3 3) e_int (nomark _)) (s_one (s_ret e_bl)) s_nil) (s_fz 4 (s_one (s_set (i:=1) sc_is_even.nd rfl (Or.inl rfl) (v3 4)))))))))) (s_one (s_ret e_bl))),?_⟩)
 rintro as k hl ⟨p,es,rfl,hp,he,hl,hk⟩
 refine at3 (r:=[.val (dP p),.val (.lst (es.map dE)),.no,.no,.no,.no,.no]) rfl ?_
 have big:20000≤sizeLine:=by decide
 refine ⟨fun m ρ=>∃ (fs:List En) (v2 v3 v4 v5 v6:Sl),ρ=[.val (dP p),.val (.lst (fs.map dE)),v2,v3,v4,v5,v6]∧(∀ e∈fs,e∈es)∧fs.length=m∧m≤es.length∧(EvenAt p es↔EvenAt p fs),⟨es.length,es,_,_,_,_,_,rfl,fun _ h=>h,rfl,Nat.le_refl _,Iff.rfl⟩,?_⟩
 rintro m ρ ⟨fs,v2,v3,v4,v5,v6,rfl,sub,hm,hm2,iff⟩
 refine ⟨_,rfl,_,rfl,?_⟩
 cases fs with
 | nil =>
  show if (!([]:List D).isEmpty)=true then _ else _
  rw [if_neg (by decide)]
  exact hk true ⟨fun _=>iff.mpr (fun e h=>absurd h List.not_mem_nil),fun _=>rfl⟩
 | cons e0 fs =>
  show if (!(dE e0 :: fs.map dE).isEmpty)=true then _ else _
  rw [if_pos (show (!(dE e0 :: fs.map dE).isEmpty)=true from rfl)]
  obtain ⟨g0,n0⟩:=he e0 (sub e0 List.mem_cons_self)
  have bc:BP 2000 (crs p e0.1):=(hp.bp.crs g0.bp).mono (by decide)
  refine ⟨_,rfl,_,rfl,dE e0 :: fs.map dE,0,dE e0,.inr rfl,rfl,atI_nat (i:=0) rfl,[dP e0.1,.int e0.2],0,dP e0.1,.inl rfl,rfl,rfl,rfl,p,e0.1,rfl,hp.bp.mono (by decide),g0.bp.mono (by decide),?_⟩
  dsimp only [fzR]
  refine ⟨by show 0≤sizeLine; decide,?_⟩
  refine ⟨_,rfl,_,rfl,?_⟩
  refine forR_pr2 (f:=fun e:En=>dP e.1) (g:=fun e:En=>.int e.2) (done:=[]) (rs:=e0 :: fs) (fun pre ρ=>∃ v5 v6:Sl,ρ=[.val (dP p),.val (.lst ((e0 :: fs).map dE)),.val (dP (crs p e0.1)),.val (.int (sumOn (lnK p e0.1) p pre)),.own ((pre.filter fun e => !decide (lnK p e.1=lnK p e0.1)).map dE),v5,v6]) ⟨_,_,rfl⟩ ?_ (fun ρ h=>?_)
  ·rintro pre e rest ρ hee ⟨v5,v6,rfl⟩ N kk
   rw [List.nil_append] at hee
   have me:e∈e0 :: fs:=by rw [hee]; simp
   obtain ⟨g1,n1⟩:=he e (sub e me)
   have lp:pre.length < m:=by
    rw [← hm,hee,List.length_append,List.length_cons]; omega
   have fl:=List.length_filter_le (fun e:En => !decide (lnK p e.1=lnK p e0.1)) pre
   refine ⟨_,rfl,_,rfl,rfl,crs p e0.1,e.1,rfl,bc,g1.bp.mono (by decide),?_⟩
   dsimp only [fzR]
   have on:=on_line hp.pt g0.pt g1.pt n0 n1
   refine ⟨_,_,rfl,rfl,_,rfl,?_⟩
   have dz:decide (sg ((crs p e0.1).1 * e.1.1 + (crs p e0.1).2.1 * e.1.2.1 + (crs p e0.1).2.2 * e.1.2.2)=0)=decide (lnK p e.1=lnK p e0.1):=by
    apply decide_eq_decide.mpr
    rw [← on]
    exact sg_eq0 _
   rw [dz]
   refine iteD (fun z=>?_) (fun z=>?_)
   ·refine ⟨_,rfl,_,rfl,_,rfl,kk _ ⟨.val (dP e.1),.val (.int e.2),?_⟩⟩
    rw [sumOn_app,sumOn_cons,if_pos z,List.filter_append,List.filter_cons,decide_eq_true z]
    simp [sumOn]
   ·refine ⟨_,rfl,_,rfl,_,rfl,by show 2≤sizeLine; decide,by rw [List.length_map]; omega,kk _ ⟨.val (dP e.1),.val (.int e.2),?_⟩⟩
    rw [sumOn_app,sumOn_cons,if_neg z,List.filter_append,List.filter_cons,decide_eq_false z,if_pos (by rfl)]
    simp [sumOn,dE]
  ·obtain ⟨v5,v6,rfl⟩:=h
   rw [List.nil_append]
   have st:=even_step p (lnK p e0.1) (es:=e0 :: fs) List.mem_cons_self rfl
   refine ⟨_,rfl,_,_,rfl,rfl,_,rfl,?_⟩
   dsimp only
   rw [show (!decide (sumOn (lnK p e0.1) p (e0 :: fs)=0))=decide (¬ sumOn (lnK p e0.1) p (e0 :: fs)=0) by simp]
   refine iteD (fun z=>?_) (fun z=>?_)
   ·exact hk false ⟨fun h=>absurd h Bool.false_ne_true,fun h=>absurd (st.mp (iff.mp h)).1 z⟩
   ·have z:sumOn (lnK p e0.1) p (e0 :: fs)=0:=Decidable.not_not.mp z
    have fl:=List.length_filter_le (fun e:En => !decide (lnK p e.1=lnK p e0.1)) fs
    have ef:((e0 :: fs).filter fun e => !decide (lnK p e.1=lnK p e0.1))=fs.filter fun e => !decide (lnK p e.1=lnK p e0.1):=by
     rw [List.filter_cons,decide_eq_true rfl]; rfl
    rw [List.length_cons] at hm
    refine ⟨_,rfl,_,rfl,_,?_,_,_,_,_,_,_,rfl,fun e h=>sub e (List.mem_filter.mp h).1,rfl,?_,?_⟩
    ·rw [ef]; omega
    ·rw [ef]; omega
    ·exact iff.trans (st.trans ⟨fun h=>h.2,fun h=>⟨z,h⟩⟩)
theorem sc_part:FnScope ["rings", "cloth", "ends", "p", "some"] ["rings", "cloth"] (defScope s_part):=⟨rfl,rfl,rfl,by decide +kernel,rfl,by decide +kernel,by decide +kernel⟩
def F_partN:FS:=fun as k=>∃ (rs qs:RP),as=[.val (.lst (rs.map dH)),.val (.lst (qs.map dH))]∧(∀ ps∈rs,RgN ps)∧(∀ ps∈qs,RgN ps)∧((rs.map List.length).sum + (qs.map List.length).sum≤4000)∧∀ b:Bool,(b=true↔Bal rs qs)→k (.val (.bl b))
theorem ok_partN (B:Blts mg)   (F:Fnd K mg "part" s_part ["rings", "cloth"]) (c_note_sides:Cal P w K mg base "note_sides" ["ends", "rings", "share"] 3 (ConL K 3 F_noteN)) (c_is_even:Cal P w K mg base "is_even" ["p", "ends"] 3 (Con K 2 F_evenN)) :
  Cal P w K mg base "part" ["rings", "cloth"] 4 (Con K 2 F_partN):=by
 refine def3 (lv:=3) F sc_part rfl (fun f cdv A outer s H E hr=>⟨_,(s_cons (s_dnewL (b:=false) (i:=2) sc_part.nd rfl (Or.inl rfl)) (s_cons (s_callL 2 c_note_sides hr (by rfl) (l_cons (v3 0) (l_cons e_int l_nil))) (s_cons (s_callL 2 c_note_sides hr (by rfl) (l_cons (v3 1) (l_cons (e_neg e_int) l_nil))) (s_fzL 2 (s_cons (s_forI PassesOwn.never rfl (i_items (v3 2)) (g_tup (n:=2) rfl (gs_cons (g_name (i:=3) sc_part.nd rfl (Or.inl rfl)) (gs_cons (g_name (i:=4) sc_part.nd rfl (Or.inl rfl)) gs_nil))) (s_one (s_if (t_not (t_val (e_call c_is_even hr (by rfl) (a_val (v3 3) (a_val (v3 4) a_nil))))) (s_one (s_ret e_bl)) s_nil))) (s_one (s_ret e_bl))))))),?_⟩)
 rintro as k hl ⟨rs,qs,rfl,hr,hq,hl,hk⟩
 refine at3 (r:=[.val (.lst (rs.map dH)),.val (.lst (qs.map dH)),.no,.no,.no]) rfl ?_
 have big:20000≤sizeLine:=by decide
 have pr:∀ ps∈rs,∀ p∈ps,PtP p:=fun ps h p hp=>((hr ps h).2.2.1 p hp).pt
 have pq:∀ ps∈qs,∀ p∈ps,PtP p:=fun ps h p hp=>((hq ps h).2.2.1 p hp).pt
 intro a1
 refine ⟨false,a1,[],[],[],rfl,_,rfl,rfl,rs,1,fun _=>[],0,rfl,rfl,DsOk.nil,by simp,fun ps h=>⟨(hr ps h).1,(hr ps h).2.1⟩,by simp; omega,by simp; omega,fun ks1 dss1 o1 l1 as1=>?_⟩
 have el:∀ p,(endsR 1 p rs).length≤2 * (rs.map List.length).sum:=fun p=>endsR_len 1 p rs
 refine ⟨false,a1,ks1,as1,dss1,rfl,_,rfl,1,rfl,rfl,qs,-1,_,2 * (rs.map List.length).sum,rfl,rfl,o1,fun p=>by rw [List.nil_append]; exact el p,fun ps h=>⟨(hq ps h).1,(hq ps h).2.1⟩,by simp at l1; omega,by omega,fun ks2 dss2 o2 l2 as2=>?_⟩
 have o2:DsOk ks2 dss2 (noted rs qs):=o2
 simp at l1
 refine ⟨false,a1,ks2,as2,dss2,rfl,?_⟩
 obtain ⟨ps,rfl,nd,rfl,hi,ho⟩:=o2
 refine ⟨_,rfl,false,_,_,rfl,by simp,?_⟩
 dsimp only
 rw [prD_P]
 have evb:=even_bal pr pq
 refine forR_pr2 (f:=dP) (g:=fun p=>.lst ((noted rs qs p).map dE)) (done:=[]) (rs:=ps) (fun pre ρ=>∃ v3 v4:Sl,ρ=[.val (.lst (rs.map dH)),.val (.lst (qs.map dH)),.val (.dct false (ps.map kP) ((ps.map fun p=>(noted rs qs p).map dE).map D.lst)),v3,v4]∧∀ p∈pre,EvenAt p (noted rs qs p)) ⟨_,_,rfl,by simp⟩ ?_ (fun ρ h=>?_)
 ·rintro pre p rest ρ he ⟨v3,v4,rfl,hev⟩ N kk
  rw [List.nil_append] at he
  have mem:p∈ps:=by rw [he]; simp
  have nl:=noted_len p rs qs
  refine ⟨_,rfl,_,rfl,rfl,p,noted rs qs p,rfl,noted_at hr hq (hi p mem),noted_in hr hq,by omega,fun b hb=>?_⟩
  dsimp only [fzR]
  refine ⟨_,rfl,?_⟩
  cases b with
  | true =>
   show if (!true)=true then _ else _
   rw [if_neg (by decide)]
   refine kk _ ⟨_,_,rfl,fun x hx=>?_⟩
   rcases List.mem_append.mp hx with hx | hx
   ·exact hev x hx
   ·rw [List.mem_singleton.mp hx]; exact hb.mp rfl
  | false =>
   show if (!false)=true then _ else _
   rw [if_pos (by decide)]
   exact hk false ⟨fun z=>absurd z Bool.false_ne_true,fun z=>absurd (hb.mpr (evb.mpr z p)) Bool.false_ne_true⟩
 ·obtain ⟨v3,v4,rfl,hev⟩:=h
  rw [List.nil_append] at hev
  refine hk true ⟨fun _=>evb.mp fun p=>?_,fun _=>rfl⟩
  by_cases m:p∈ps
  ·exact hev p m
  ·rw [ho p m]; exact fun e h=>absurd h List.not_mem_nil
theorem sc_is_triangle:FnScope ["ring"] ["ring"] (defScope s_is_triangle):=⟨rfl,rfl,rfl,by decide +kernel,rfl,by decide +kernel,by decide +kernel⟩
def F_triN:FS:=fun as k=>∃ (ps:List P3),as=[.val (.lst (ps.map dP))]∧(∀ p∈ps,GP 800 p)∧∀ b:Bool,(b=true↔IsTri ps)→k (.val (.bl b))
theorem ok_triN (B:Blts mg)   (F:Fnd K mg "is_triangle" s_is_triangle ["ring"]) (c_side:Cal P w K mg base "side" ["p", "q", "r"] 3 (Con K 3 F_sideN)) :
  Cal P w K mg base "is_triangle" ["ring"] 4 (Con K 1 F_triN):=by
 refine def3 (lv:=3) F sc_is_triangle rfl (fun f cdv A outer s H E hr=>⟨_,(s_one (s_ret (e_and (e_cmp (f:=fun i j=>decide (i=j)) op_eqI (e_len (v3 0) (by rfl) B.len_) e_int (nomark _)) (e_one (e_cmp (f:=fun i j=>decide (i=j)) op_eqI (e_call c_side hr (by rfl) (a_val (e_ix (v3 0) e_int (fun _ _=>rfl)) (a_val (e_ix (v3 0) e_int (fun _ _=>rfl)) (a_val (e_ix (v3 0) e_int (fun _ _=>rfl)) a_nil)))) e_int (nomark _)))))),?_⟩)
 rintro as k hl ⟨ps,rfl,hp,hk⟩
 refine at3 (r:=[.val (.lst (ps.map dP))]) rfl ?_
 have len:(ps.map dP).length=ps.length:=List.length_map ..
 refine ⟨_,rfl,_,rfl,_,_,rfl,rfl,_,rfl,?_⟩
 rw [len]
 refine iteD (fun z=>?_) (fun z=>?_)
 ·match ps,z with
  | [a,b,c],_ =>
   refine ⟨_,rfl,[dP a,dP b,dP c],0,dP a,.inr rfl,rfl,rfl,_,rfl,[dP a,dP b,dP c],1,dP b,.inr rfl,rfl,rfl,_,rfl,[dP a,dP b,dP c],2,dP c,.inr rfl,rfl,rfl,rfl,a,b,c,rfl,(hp a (by simp)).bp.mono (by decide),(hp b (by simp)).bp.mono (by decide),(hp c (by simp)).bp.mono (by decide),?_⟩
   dsimp only [fzR]
   refine ⟨_,_,rfl,rfl,hk _ ?_⟩
   rw [decide_eq_true_iff]
   exact ⟨fun h=>⟨a,b,c,rfl,sg_one h⟩,fun ⟨_,_,_,e,h⟩=>by cases e; exact sg_pos h⟩
 ·exact hk false ⟨fun h=>absurd h Bool.false_ne_true,fun ⟨a,b,c,e,_⟩=>absurd (by rw [e]; rfl) z⟩
theorem sc_led_point:FnScope ["p", "is_turned", "step"] ["p", "is_turned", "step"] (defScope s_led_point):=⟨rfl,rfl,rfl,by decide +kernel,rfl,by decide +kernel,by decide +kernel⟩
def F_ledpN:FS:=fun as k=>∃ (p:P3) (t:Bool) (g:P3),as=[.val (dP p),.val (.bl t),.val (dP g)]∧(GP 850 p)∧(GP 900 g)∧k (.val (dP (ledP t g p)))
theorem ok_ledpN (B:Blts mg)   (F:Fnd K mg "led_point" s_led_point ["p", "is_turned", "step"]) (c_turned:Cal P w K mg base "turned" ["p"] 2 (Con K 1 F_turned)) (c_slid:Cal P w K mg base "slid" ["p", "step"] 3 (Con K 2 F_slid)) :
  Cal P w K mg base "led_point" ["p", "is_turned", "step"] 4 (Con K 3 F_ledpN):=by
 refine def3 (lv:=3) F sc_led_point rfl (fun f cdv A outer s H E hr=>⟨_,(s_cons (s_if (t_val (v3 1)) (s_one (s_set (i:=0) sc_led_point.nd rfl (Or.inl rfl) (e_call c_turned hr (by rfl) (a_val (v3 0) a_nil)))) s_nil) (s_one (s_ret (e_call c_slid hr (by rfl) (a_val (v3 0) (a_val (v3 2) a_nil)))))),?_⟩)
 rintro as k hl ⟨p,t,g,rfl,hp,hg,hk⟩
 refine at3 (r:=[.val (dP p),.val (.bl t),.val (dP g)]) rfl ?_
 have fin:∀ q:P3,GP 850 q→nP (sld g q)=ledP t g p→uCall 2 F_slid (uaV (uVar 0) (uaV (uVar 2) uaNil)) [.val (dP q),.val (.bl t),.val (dP g)] fun d=>k (.val d):=fun q hq e=>by
  refine ⟨_,rfl,_,rfl,rfl,q,g,rfl,hq.pt,hq.bp.mono (by decide),hg.pt,hg.bp.mono (by decide),?_⟩
  dsimp only [fzR]
  rw [e]
  exact hk
 refine ⟨_,rfl,_,rfl,?_⟩
 cases t with
 | true =>
  rw [if_pos rfl]
  refine ⟨_,rfl,rfl,p,rfl,?_⟩
  dsimp only [fzR]
  exact fin _ hp.trn rfl
 | false =>
  rw [if_neg Bool.false_ne_true]
  exact fin _ hp rfl
theorem sc_led_ring:FnScope ["move", "ring", "is_turned", "step"] ["move"] (defScope s_led_ring):=⟨rfl,rfl,rfl,by decide +kernel,rfl,by decide +kernel,by decide +kernel⟩
def F_ledrN:FS:=fun as k=>∃ (s:Piece),as=[.val (dS s)]∧(s.1.length≤75)∧(∀ p∈s.1,GP 850 p)∧(GP 900 s.2.2)∧k (.own ((ledR s).map dP))
theorem ok_ledrN (B:Blts mg)   (F:Fnd K mg "led_ring" s_led_ring ["move"]) (c_led_point:Cal P w K mg base "led_point" ["p", "is_turned", "step"] 4 (Con K 3 F_ledpN)) :
  Cal P w K mg base "led_ring" ["move"] 5 (Con K 1 F_ledrN):=by
 refine def3 (lv:=4) F sc_led_ring rfl (fun f cdv A outer s H E hr=>⟨_,(s_cons (s_asg (v3 0) (g_tup (n:=3) rfl (gs_cons (g_name (i:=1) sc_led_ring.nd rfl (Or.inl rfl)) (gs_cons (g_name (i:=2) sc_led_ring.nd rfl (Or.inr rfl)) (gs_cons (g_name (i:=3) sc_led_ring.nd rfl (Or.inr rfl)) gs_nil))))) (s_one (s_retO (o_compG (ts:=["corner"]) (fr:=["is_turned", "step"]) (js:=[2,3]) (i_list (v3 1)) (fun _ _ _ _=>(g_name (i:=0) (show List.Nodup (["corner", "is_turned", "step"]:List Str) by decide +kernel) rfl (Or.inl rfl))) (fun _ _ _ _=>ifs_nil) (fun _ _ _ _=>(e_call c_led_point hr (by rfl) (a_val (v3 0) (a_val (v3 1) (a_val (v3 2) a_nil))))) ⟨rfl,by decide +kernel,rfl,by decide +kernel,fsub_of (List.forall_mem_cons.mpr ⟨rfl,(List.forall_mem_cons.mpr ⟨rfl,(List.forall_mem_nil _)⟩)⟩),fhas_b rfl,by walk_at "ffr", rfl⟩)))),?_⟩)
 rintro as k hl ⟨s,rfl,hl,hp,hs,hk⟩
 refine at3 (r:=[.val (dS s),.no,.no,.no]) rfl ?_
 have big:75≤sizeLine:=by decide
 refine ⟨_,rfl,_,rfl,rfl,_,_,rfl,_,_,rfl,_,_,rfl,rfl,?_⟩
 refine ⟨_,rfl,_,rfl,by rw [List.length_map]; omega,?_⟩
 refine compG_map (f:=dP) (h:=fun p=>dP (ledP s.2.1 s.2.2 p)) (fun p hm k hk=>?_) ?_
 ·refine ⟨_,rfl,_,rfl,_,rfl,rfl,p,s.2.1,s.2.2,rfl,hp p hm,hs,hk⟩
 unfold ledR at hk
 rw [List.map_map] at hk
 exact hk
theorem sc_is_plan:FnScope ["one", "other", "moves", "turning", "ring", "is_turned", "step"] ["one", "other", "moves", "turning"] (defScope s_is_plan):=⟨rfl,rfl,rfl,by decide +kernel,rfl,by decide +kernel,by decide +kernel⟩
def F_isplanN:FS:=fun as k=>∃ (one other:RP) (ms:List Piece) (t:Bool),as=[.val (.lst (one.map dH)),.val (.lst (other.map dH)),.val (.lst (ms.map dS)),.val (.bl t)]∧(∀ ps∈one,RgN ps)∧(∀ ps∈other,RgN ps)∧(∀ s∈ms,(∀ p∈s.1,GP 800 p)∧GP 90 s.2.2)∧((one.map List.length).sum≤1000)∧((other.map List.length).sum≤1000)∧(ms.length≤500)∧∀ b:Bool,(b=true↔IsPlan one other ms t)→k (.val (.bl b))
theorem ok_isplanN (B:Blts mg)   (F:Fnd K mg "is_plan" s_is_plan ["one", "other", "moves", "turning"]) (c_is_triangle:Cal P w K mg base "is_triangle" ["ring"] 4 (Con K 1 F_triN)) (c_part:Cal P w K mg base "part" ["rings", "cloth"] 4 (Con K 2 F_partN)) (c_led_ring:Cal P w K mg base "led_ring" ["move"] 5 (Con K 1 F_ledrN)) :
  Cal P w K mg base "is_plan" ["one", "other", "moves", "turning"] 6 (Con K 4 F_isplanN):=by
 refine def3 (lv:=5) F sc_is_plan rfl (fun f cdv A outer s H E hr=>⟨_,(s_cons (s_for PassesOwn.never rfl (i_list (v3 2)) (g_tup (n:=3) rfl (gs_cons (g_name (i:=4) sc_is_plan.nd rfl (Or.inl rfl)) (gs_cons (g_name (i:=5) sc_is_plan.nd rfl (Or.inl rfl)) (gs_cons (g_name (i:=6) sc_is_plan.nd rfl (Or.inl rfl)) gs_nil)))) (s_one (s_if (w_t (w_or (t_not (t_val (e_call c_is_triangle hr (by rfl) (a_val (v3 4) a_nil)))) (w_or1 (w_t (w_and (t_val (v3 5)) (w_and1 (t_not (t_val (v3 3))))))))) (s_one (s_ret e_bl)) s_nil))) (s_one (s_ret (e_and (e_call c_part hr (by rfl) (a_val (o_e (o_compG (ts:=["move"]) (fr:=[]) (js:=[]) (i_list (v3 2)) (fun _ _ _ _=>(g_name (i:=0) (show List.Nodup (["move"]:List Str) by decide +kernel) rfl (Or.inl rfl))) (fun _ _ _ _=>ifs_nil) (fun _ _ _ _=>(e_ix (v3 0) e_int (fun _ _=>rfl))) ⟨rfl,by decide +kernel,rfl,by decide +kernel,fsub_of (List.forall_mem_nil _),fhas_b rfl,by walk_at "ffr", rfl⟩)) (a_val (v3 0) a_nil))) (e_one (e_call c_part hr (by rfl) (a_val (o_e (o_compG (ts:=["move"]) (fr:=[]) (js:=[]) (i_list (v3 2)) (fun _ _ _ _=>(g_name (i:=0) (show List.Nodup (["move"]:List Str) by decide +kernel) rfl (Or.inl rfl))) (fun _ _ _ _=>ifs_nil) (fun _ _ _ _=>(e_call c_led_ring hr (by rfl) (a_val (v3 0) a_nil))) ⟨rfl,by decide +kernel,rfl,by decide +kernel,fsub_of (List.forall_mem_nil _),fhas_b rfl,by walk_at "ffr", rfl⟩)) (a_val (v3 1) a_nil)))))))),?_⟩)
 rintro as k hl ⟨one,other,ms,t,rfl,h1,h2,hm,l1,l2,l3,hk⟩
 refine at3 (r:=[.val (.lst (one.map dH)),.val (.lst (other.map dH)),.val (.lst (ms.map dS)),.val (.bl t),.no,.no,.no]) rfl ?_
 have big:20000≤sizeLine:=by decide
 refine ⟨_,rfl,_,rfl,?_⟩
 refine forR_sh (done:=[]) (sh:=ms) (fun pre ρ=>∃ v4 v5 v6:Sl,ρ=[.val (.lst (one.map dH)),.val (.lst (other.map dH)),.val (.lst (ms.map dS)),.val (.bl t),v4,v5,v6]∧∀ s∈pre,IsTri s.1∧(s.2.1=true→t=true)) ⟨_,_,_,rfl,by simp⟩ ?_ (fun ρ h=>?_)
 ·rintro pre s rest ρ he ⟨v4,v5,v6,rfl,hev⟩ N kk
  rw [List.nil_append] at he
  have mem:s∈ms:=by rw [he]; simp
  have no:¬ (IsTri s.1∧(s.2.1=true→t=true))→k (.val (.bl false)):=fun h=>hk false ⟨fun z=>absurd z Bool.false_ne_true,fun z=>absurd (z.1 s mem) h⟩
  have yes:(IsTri s.1∧(s.2.1=true→t=true))→N [.val (.lst (one.map dH)),.val (.lst (other.map dH)),.val (.lst (ms.map dS)),.val (.bl t),.val (.lst (s.1.map dP)),.val (.bl s.2.1),.val (dP s.2.2)]:=fun h=>kk _ ⟨_,_,_,rfl,fun x hx=>by
   rcases List.mem_append.mp hx with hx | hx
   ·exact hev x hx
   ·rw [List.mem_singleton.mp hx]; exact h⟩
  refine ⟨_,rfl,rfl,s.1,rfl,(hm s mem).1,fun b hb=>?_⟩
  dsimp only [fzR]
  refine ⟨_,rfl,?_⟩
  cases b with
  | false =>
   show if (!false)=true then _ else _
   rw [if_pos (by decide)]
   exact no fun h=>absurd (hb.mpr h.1) Bool.false_ne_true
  | true =>
   show if (!true)=true then _ else _
   rw [if_neg (by decide)]
   refine ⟨_,rfl,_,rfl,?_⟩
   cases e1:s.2.1 with
   | false =>
    rw [if_neg Bool.false_ne_true]
    rw [e1] at yes
    exact yes ⟨hb.mp rfl,fun z=>absurd z Bool.false_ne_true⟩
   | true =>
    rw [if_pos rfl]
    refine ⟨_,rfl,_,rfl,?_⟩
    cases t with
    | false =>
     show if (!false)=true then _ else _
     rw [if_pos (by decide)]
     exact no fun h=>absurd (h.2 e1) Bool.false_ne_true
    | true =>
     show if (!true)=true then _ else _
     rw [if_neg (by decide)]
     rw [e1] at yes
     exact yes ⟨hb.mp rfl,fun _=>rfl⟩
 obtain ⟨v4,v5,v6,rfl,hev⟩:=h
 rw [List.nil_append] at hev
 have sm:∀ ms:List Piece,(∀ s∈ms,IsTri s.1)→((ms.map fun s=>s.1).map List.length).sum=3 * ms.length∧((ms.map ledR).map List.length).sum=3 * ms.length:=fun ms=>by
  induction ms with
  | nil=>intro _; exact ⟨rfl,rfl⟩
  | cons s ms ih =>
   intro h
   obtain ⟨i1,i2⟩:=ih fun x hx=>h x (List.mem_cons_of_mem _ hx)
   obtain ⟨a,b,c,e,_⟩:=h s List.mem_cons_self
   simp only [List.map_cons,List.sum_cons,List.length_cons]
   unfold ledR at i2 ⊢
   rw [i1,i2,List.length_map,e]
   simp only [List.length_cons,List.length_nil]
   omega
 obtain ⟨s1,s2⟩:=sm ms fun s h=>(hev s h).1
 have tl:∀ s∈ms,s.1.length=3:=fun s h=>by obtain ⟨a,b,c,e,_⟩:=(hev s h).1; rw [e]; rfl
 refine ⟨_,rfl,_,rfl,by rw [List.length_map]; omega,?_⟩
 refine compG_map (f:=dS) (h:=fun s:Piece=>dH s.1) (fun s _ k hk=>⟨_,rfl,_,_,_,.inl rfl,rfl,rfl,hk⟩) ?_
 refine ⟨_,rfl,rfl,ms.map fun s=>s.1,one,?_,?_,h1,by rw [s1]; omega,fun b1 hb1=>?_⟩
 ·rw [List.map_map]; rfl
 ·rintro ps hps
  obtain ⟨s,hs,rfl⟩:=List.mem_map.mp hps
  exact tri_rg (hev s hs).1 fun p hp=>((hm s hs).1 p hp).mono (by decide)
 dsimp only [fzR]
 refine ⟨_,rfl,?_⟩
 cases b1 with
 | false =>
  rw [if_neg Bool.false_ne_true]
  exact hk false ⟨fun z=>absurd z Bool.false_ne_true,fun z=>absurd (hb1.mpr z.2.1) Bool.false_ne_true⟩
 | true =>
  rw [if_pos rfl]
  refine ⟨_,rfl,_,rfl,by rw [List.length_map]; omega,?_⟩
  refine compG_map (f:=dS) (h:=fun s:Piece=>dH (ledR s)) (fun s hs k hk=>?_) ?_
  ·refine ⟨_,rfl,rfl,s,rfl,by rw [tl s hs]; decide,fun p hp=>((hm s hs).1 p hp).mono (by decide),(hm s hs).2.mono (by decide),hk⟩
  refine ⟨_,rfl,rfl,ms.map ledR,other,?_,?_,h2,by rw [s2]; omega,fun b2 hb2=>?_⟩
  ·rw [List.map_map]; rfl
  ·rintro ps hps
   obtain ⟨s,hs,rfl⟩:=List.mem_map.mp hps
   refine tri_rg (led_tri (hev s hs).1 (fun p hp=>((hm s hs).1 p hp).pt) (hm s hs).2.pt) fun p hp=>?_
   obtain ⟨q,hq,rfl⟩:=List.mem_map.mp hp
   exact led_gp ((hm s hs).1 q hq) (hm s hs).2
  dsimp only [fzR]
  exact hk b2 ⟨fun z=>⟨hev,hb1.mp rfl,hb2.mp z⟩,fun z=>hb2.mpr z.2.2⟩
theorem sc_step_back:FnScope ["is_turned", "step"] ["is_turned", "step"] (defScope s_step_back):=⟨rfl,rfl,rfl,by decide +kernel,rfl,by decide +kernel,by decide +kernel⟩
def F_stepbN:FS:=fun as k=>∃ (t:Bool) (g:P3),as=[.val (.bl t),.val (dP g)]∧k (.val (dP (if t=true then g else trn g)))
theorem ok_stepbN (B:Blts mg)   (F:Fnd K mg "step_back" s_step_back ["is_turned", "step"]) (c_turned:Cal P w K mg base "turned" ["p"] 2 (Con K 1 F_turned)) :
  Cal P w K mg base "step_back" ["is_turned", "step"] 3 (Con K 2 F_stepbN):=by
 refine def3 (lv:=2) F sc_step_back rfl (fun f cdv A outer s H E hr=>⟨_,(s_one (s_ret (e_ifE (t_val (v3 0)) (v3 1) (e_call c_turned hr (by rfl) (a_val (v3 1) a_nil))))),?_⟩)
 rintro as k hl ⟨t,g,rfl,hk⟩
 refine at3 (r:=[.val (.bl t),.val (dP g)]) rfl ?_
 refine ⟨_,rfl,_,rfl,?_⟩
 cases t with
 | true=>rw [if_pos rfl]; exact ⟨_,rfl,hk⟩
 | false=>rw [if_neg Bool.false_ne_true]; exact ⟨_,rfl,rfl,g,rfl,hk⟩
theorem sc_led_back:FnScope ["moves"] ["moves"] (defScope s_led_back):=⟨rfl,rfl,rfl,by decide +kernel,rfl,by decide +kernel,by decide +kernel⟩
def F_ledbR:FS:=fun as k=>∃ (ms:List Piece),as=[.val (.lst (ms.map dS))]∧(ms.length≤500)∧(∀ s∈ms,s.1.length≤75∧(∀ p∈s.1,GP 800 p)∧GP 90 s.2.2)∧k (.new (.lst ((ms.map backS).map dS)))
theorem ok_ledbR (B:Blts mg)   (F:Fnd K mg "led_back" s_led_back ["moves"]) (c_step_back:Cal P w K mg base "step_back" ["is_turned", "step"] 3 (Con K 2 F_stepbN)) (c_led_ring:Cal P w K mg base "led_ring" ["move"] 5 (Con K 1 F_ledrN)) :
  Cal P w K mg base "led_back" ["moves"] 6 (Con K 1 F_ledbR):=by
 refine def3 (lv:=5) F sc_led_back rfl (fun f cdv A outer s H E hr=>⟨_,(s_one (s_retD (d_comp (ts:=["move"]) (fr:=[]) (js:=[]) (i_list (v3 0)) (fun _ _ _ _=>(g_name (i:=0) (show List.Nodup (["move"]:List Str) by decide +kernel) rfl (Or.inl rfl))) (fun _ _ _ _=>ifs_nil) (fun _ _ _ _=>(d_tup (dl_cons (d_list (o_call c_led_ring hr (by rfl) (a_val (v3 0) a_nil))) (dl_cons (d_flat (e_ix (v3 0) e_int (fun _ _=>rfl))) (dl_cons (d_flat (e_call c_step_back hr (by rfl) (a_val (e_ix (v3 0) e_int (fun _ _=>rfl)) (a_val (e_ix (v3 0) e_int (fun _ _=>rfl)) a_nil)))) dl_nil))))) ⟨rfl,by decide +kernel,rfl,by decide +kernel,fsub_of (List.forall_mem_nil _),fhas_b rfl,by walk_at "ffr", rfl⟩))),?_⟩)
 rintro as k hl ⟨ms,rfl,hl,hm,hk⟩
 refine at3 (r:=[.val (.lst (ms.map dS))]) rfl ?_
 have big:20000≤sizeLine:=by decide
 refine ⟨_,rfl,_,rfl,by rw [List.length_map]; omega,?_⟩
 refine compG_map (f:=dS) (h:=fun s=>dS (backS s)) (fun s hs k hk=>?_) ?_
 ·obtain ⟨h1,h2,h3⟩:=hm s hs
  refine ⟨_,rfl,rfl,s,rfl,h1,fun p hp=>(h2 p hp).mono (by decide),h3.mono (by decide),?_⟩
  dsimp only [fzR]
  refine ⟨_,rfl,flats_P0 _,_,rfl,[.lst (s.1.map dP),.bl s.2.1,dP s.2.2],1,.bl s.2.1,.inl rfl,rfl,rfl,rfl,?_⟩
  refine ⟨_,rfl,[.lst (s.1.map dP),.bl s.2.1,dP s.2.2],1,.bl s.2.1,.inl rfl,rfl,rfl,_,rfl,[.lst (s.1.map dP),.bl s.2.1,dP s.2.2],2,dP s.2.2,.inl rfl,rfl,rfl,rfl,s.2.1,s.2.2,rfl,?_⟩
  dsimp only [fzR]
  exact ⟨rfl,by show 3≤sizeLine; decide,hk⟩
 rw [List.map_map] at hk
 exact hk
theorem sc_law:FnScope ["_law_script", "_law_one", "_law_bag_here", "_law_turning", "_law_rings", "_law_moves", "_law_other", "_law_handed", "_law_back", "_law_again", "_law_kept", "_law_ring", "_law_flag", "_law_step"] ["_law_script"] (defScope s_law):=⟨rfl,rfl,rfl,by decide +kernel,rfl,by decide +kernel,by decide +kernel⟩
theorem ok_law {P:Program} {w:World} {K:PySem.W.Frag} {mg:Str→Option Value} {base:Heap} {f:Addr} {fd:FuncData} (B:Blts mg) (F:Fun K "law" "law" s_law f fd) (c_law_bulging:Cal P w K mg base "_law_bulging" ["_law_bag_here", "_law_most"] 5 (Con K 2 F_bulgB)) (c_law_bag:Cal P w K mg base "_law_bag" ["_law_cell_here"] 1 (Con K 1 F_bag)) (c_law_cell:Cal P w K mg base "_law_cell" ["_law_script", "_law_k"] 1 (Con K 2 F_cell)) (c_law_digit:Cal P w K mg base "_law_digit" ["_law_bag_here", "_law_many"] 1 (Con K 2 (F_draw 400))) (c_law_parted:Cal P w K mg base "_law_parted" ["_law_rings", "_law_bag_here", "_law_many"] 6 (Con K 3 F_partedW)) (c_law_fan:Cal P w K mg base "_law_fan" ["_law_ring", "_law_bag_here"] 5 (Con K 2 F_fanW)) (c_law_spread:Cal P w K mg base "_law_spread" ["_law_rings", "_law_bag_here", "_law_turning"] 2 (Con K 3 F_spreadC)) (c_law_led_ring:Cal P w K mg base "_law_led_ring" ["_law_move"] 5 (Con K 1 F_ledrL)) (c_law_copy:Cal P w K mg base "_law_copy" ["_law_moves"] 2 (Con K 1 F_copyR)) (c_led_back:Cal P w K mg base "led_back" ["moves"] 6 (Con K 1 F_ledbR)) (c_law_plan_right:Cal P w K mg base "_law_plan_right" ["_law_one", "_law_other", "_law_moves", "_law_turning", "_law_bag_here"] 6 (Con K 5 F_planrB)) (c_is_plan:Cal P w K mg base "is_plan" ["one", "other", "moves", "turning"] 6 (Con K 4 F_isplanN)) :
  FnOk P w K mg base CX0 7 f fd ["_law_script"] (spLaw K):=by
 refine FnOk.imp (sp:=Con K 1 F_law) ?_ (fun vs H Q E h=>law_con h)
 refine law_def3 (lv:=6) F sc_law rfl (fun cdv A outer s H E hr=>⟨_,(s_cons (s_set (i:=1) sc_law.nd rfl (Or.inl rfl) (o_e (o_lst (l_cons (e_callB2c c_law_bulging hr (by rfl) (n_call c_law_bag hr (by rfl) (a_val (e_call c_law_cell hr (by rfl) (a_val (v3 0) (a_val e_int a_nil))) a_nil))) l_nil)))) (s_cons (s_setN (i:=2) sc_law.nd rfl (Or.inl rfl) (n_call c_law_bag hr (by rfl) (a_val (e_call c_law_cell hr (by rfl) (a_val (v3 0) (a_val e_int a_nil))) a_nil))) (s_cons (s_set (i:=3) sc_law.nd rfl (Or.inl rfl) (e_cmp (f:=fun i j=>decide (i=j)) op_eqI (e_call c_law_digit hr (by rfl) (a_bag 2 (a_val e_int a_nil))) e_int (nomark _))) (s_cons (s_set (i:=4) sc_law.nd rfl (Or.inl rfl) (e_call c_law_parted hr (by rfl) (a_val (e_call c_law_fan hr (by rfl) (a_val (e_ix (v3 1) e_int (fun _ _=>rfl)) (a_bag 2 a_nil))) (a_bag 2 (a_val (e_call c_law_digit hr (by rfl) (a_bag 2 (a_val e_int a_nil))) a_nil))))) (s_cons (s_set (i:=5) sc_law.nd rfl (Or.inl rfl) (e_call c_law_spread hr (by rfl) (a_val (v3 4) (a_bag 2 (a_val (v3 3) a_nil))))) (s_cons (s_thenFz 6 (s_compA (i:=6) sc_law.nd rfl rfl (ts:=["_law_move"]) (fr:=[]) (js:=[]) (i_list (v3 5)) (fun _ _ _ _=>(g_name (i:=0) (show List.Nodup (["_law_move"]:List Str) by decide +kernel) rfl (Or.inl rfl))) (fun _ _ _ _=>ifs_nil) (fun _ _ _ _=>(e_call c_law_led_ring hr (by rfl) (a_val (v3 0) a_nil))) ⟨rfl,by decide +kernel,rfl,by decide +kernel,fsub_of (List.forall_mem_nil _),fhas_b rfl,by walk_at "ffr", rfl⟩)) (s_cons (s_set (i:=7) sc_law.nd rfl (Or.inl rfl) (e_call c_law_copy hr (by rfl) (a_val (v3 5) a_nil))) (ss_scope (z2_st (s_set (i:=8) sc_law.nd rfl (Or.inl rfl) (d_e (d_look (d_call c_led_back hr (by rfl) (a_val (v3 7) a_nil))))) (z2_st (s_if (t_look (w_t (w_or (t_ne (hr.units) (v3 7) (v3 5) (nomark _)) (w_or1 (t_not (t_val (e_call c_law_plan_right hr (by rfl) (a_val (v3 6) (a_val (v3 1) (a_val (v3 8) (a_val (v3 3) (a_bag 2 a_nil)))))))))))) (s_one (s_ret e_bl)) s_nil) (z2_st (s_if (t_look (t_isnB (e_call c_is_plan hr (by rfl) (a_val (v3 6) (a_val (v3 1) (a_val (v3 8) (a_val (v3 3) a_nil))))) e_bl (nomark _))) (s_one (s_ret e_bl)) s_nil) (z2_app5 (ss_scopeT (z2_st (s_set (i:=9) sc_law.nd rfl (Or.inl rfl) (d_e (d_look (d_call c_led_back hr (by rfl) (a_val (v3 8) a_nil))))) (z2_st (s_if (t_look (w_t (w_or (t_not (t_val (e_call c_law_plan_right hr (by rfl) (a_val (v3 1) (a_val (v3 6) (a_val (v3 9) (a_val (v3 3) (a_bag 2 a_nil)))))))) (w_or1 (t_isnB (e_call c_is_plan hr (by rfl) (a_val (v3 1) (a_val (v3 6) (a_val (v3 9) (a_val (v3 3) a_nil))))) e_bl (nomark _)))))) (s_one (s_ret e_bl)) s_nil) (z2_keep (n:=10) (m:=8) (i:=9) (j1:=11) (j2:=12) (j3:=13) sc_law.nd rfl rfl rfl rfl (Or.inl rfl) (Or.inl rfl) (Or.inl rfl) (Or.inl rfl) (Or.inl rfl) PassesOwn.never rfl (s_set (i:=10) sc_law.nd rfl (Or.inl rfl) (d_e (d_look (d_call c_law_copy hr (by rfl) (a_val (v3 8) a_nil))))) (t_ne (hr.units) (v3 8) (v3 10) (nomark _)) (s_one (s_ret e_bl)) s_nil)))) (z2_all (i:=8) (j1:=11) (j2:=12) (j3:=13) sc_law.nd rfl rfl rfl rfl (Or.inl rfl) (Or.inl rfl) (Or.inl rfl) (Or.inl rfl) (Or.inl rfl) PassesOwn.never rfl (s_one (s_ret (e_and (e_eq (hr.units) (v3 7) (v3 5) (nomark _)) (e_one (e_eq (hr.units) (e_call c_led_back hr (by rfl) (a_val (o_e (o_lst l_nil)) a_nil)) (o_e (o_lst l_nil)) (nomark _))))))))))))))))))),?_⟩)
 rintro as k hl ⟨ns,rfl,h63,hk⟩
 refine at3 (r:=[.val (.scr ns),.no,.no,.no,.no,.no,.no,.no,.no,.no,.no,.no,.no,.no]) rfl ?_
 have big:20000≤sizeLine:=by decide
 refine ⟨_,rfl,rfl,ns,0,rfl,by decide,fun z=>?_⟩
 refine ⟨rfl,z,rfl,rfl,?_⟩
 refine ⟨rfl,fun ps hl5 cv hps=>?_⟩
 dsimp only [fzR]
 refine ⟨by show 1≤sizeLine; decide,?_⟩
 refine ⟨_,rfl,rfl,ns,1,rfl,by decide,fun z=>?_⟩
 refine ⟨rfl,z,rfl,rfl,?_⟩
 have l3:=cv.1
 refine ⟨rfl,rfl,2,rfl,by decide,by decide +kernel,fun d2 e0 e1=>?_⟩
 dsimp only [fzR]
 refine ⟨_,_,rfl,rfl,?_⟩
 generalize decide (d2=1)=t
 clear e0 e1 d2
 have bw6:bws ps≤6 * ps.length:=by
  have:∀ qs:List P3,(∀ q∈qs,GP 6 q)→bws qs≤6 * qs.length:=fun qs=>by
   induction qs with
   | nil=>intro _; exact Nat.le_refl _
   | cons q qs ih =>
    intro h
    have a:=bw_le (h q List.mem_cons_self).bp
    have b:=ih fun x hx=>h x (List.mem_cons_of_mem _ hx)
    show bw q + bws qs≤6 * (qs.length + 1)
    omega
  exact this ps fun q h=>(hps q h).1
 refine ⟨_,rfl,[dH ps],0,dH ps,.inr rfl,rfl,rfl,rfl,rfl,ps,rfl,cv,hl5,fun q hq=>⟨(hps q hq).1.mono (by decide),(hps q hq).2⟩,fun p gp bp pp=>?_⟩
 dsimp only [fzR]
 refine ⟨rfl,rfl,rfl,6,rfl,by decide,by decide +kernel,fun d2 e0 e1=>?_⟩
 dsimp only [fzR]
 have g75:GP 75 p:=gp.mono (by omega)
 refine ⟨rfl,fanT p ps,[ps],d2,rfl,by rw [fan_len]; omega,by rw [fan_len]; omega,fan_trW0 hps g75 bp pp,fan_bal g75.pt fun q h=>(hps q h).1.pt,fan_dj cv,e0,by omega,fun rs r3 r8 tr bal dj=>?_⟩
 dsimp only [fzR]
 refine ⟨_,rfl,rfl,_,rfl,rfl,rs,t,rfl,by omega,fun ms me st fl=>?_⟩
 dsimp only [fzR]
 have ml:ms.length=rs.length:=by rw [← me,List.length_map]
 have lenS:∀ ms:List Piece,(ms.map dS).length=ms.length:=fun ms=>List.length_map ..
 have lenH:∀ rs:RP,(rs.map dH).length=rs.length:=fun rs=>List.length_map ..
 have tm:∀ s∈ms,TrW 441 236 s.1:=fun s hs=>tr _ (by rw [← me]; exact List.mem_map.mpr ⟨s,hs,rfl⟩)
 have sg:=steps_gp20 st (by omega)
 have hm:∀ s∈ms,(∀ p∈s.1,GP 236 p)∧GP 20 s.2.2:=fun s hs=>⟨fun p hp=>((tm s hs).gp p hp).1,sg s hs⟩
 refine ⟨_,rfl,_,rfl,by rw [lenS]; omega,?_⟩
 refine compG_map (f:=dS) (h:=fun s=>dH (ledR s)) (fun s hs k hk=>?_) ?_
 ·refine ⟨_,rfl,rfl,s,rfl,by obtain ⟨_,_,_,e,_⟩:=(tm s hs).1; rw [e]; show 3≤75; decide,fun p hp=>((hm s hs).1 p hp).mono (by decide),(hm s hs).2.mono (by decide),hk⟩
 have eo:(ms.map fun s=>dH (ledR s))=(ms.map ledR).map dH:=by rw [List.map_map]; rfl
 rw [eo]
 have hp1:∀ s∈ms,PtP s.2.2∧∀ p∈s.1,PtP p:=fun s hs=>⟨(hm s hs).2.pt,fun p hp=>((hm s hs).1 p hp).pt⟩
 have e2b:=back2s hp1
 have ebl:(ms.map backS).map ledR=ms.map fun s=>s.1:=by
  rw [List.map_map]
  exact List.map_congr_left fun s h=>led_back_ring (hp1 s h).1 (hp1 s h).2
 have ebr:((ms.map backS).map fun s=>s.1)=ms.map ledR:=by rw [List.map_map]; rfl
 have djl:Dj (ms.map ledR):=dj_led st fun s hs=>⟨(tm s hs).1,fun p hp=>⟨((tm s hs).2.1 p hp).1,((tm s hs).2.1 p hp).2.1⟩⟩
 have djr:Dj (ms.map fun s=>s.1):=by rw [me]; exact dj
 have lsz:∀ r∈ms.map ledR,IsTri r∧(∀ p∈r,GP 350 p)∧bws r≤520:=fun r hr=>by
  obtain ⟨s,hs,rfl⟩:=List.mem_map.mp hr
  exact led_sz (tm s hs) (sg s hs)
 have rsz:∀ r∈ms.map fun s=>s.1,IsTri r∧(∀ p∈r,GP 350 p)∧bws r≤520:=fun r hr=>by
  obtain ⟨s,hs,rfl⟩:=List.mem_map.mp hr
  exact ⟨(tm s hs).1,fun p hp=>((hm s hs).1 p hp).mono (by decide),by have:=(tm s hs).2.2; omega⟩
 have tri:∀ r:List P3,IsTri r∧(∀ p∈r,GP 350 p)∧bws r≤520→1≤r.length∧r.length≤20∧(∃ m,(∀ p∈r,GP m p)∧(2 * m + 2) * r.length + 1≤2900)∧BP 1060 (taP r):=fun r h=>by
  have l3:r.length=3:=by obtain ⟨_,_,_,e,_⟩:=h.1; rw [e]; rfl
  refine ⟨by omega,by omega,⟨350,h.2.1,by rw [l3]; decide⟩,(ta3_bp h.1 fun p hp=>(h.2.1 p hp).pt).mono ?_⟩
  have:=h.2.2
  omega
 have ones:∀ r∈[ps],1≤r.length∧r.length≤20∧(∃ m,(∀ p∈r,GP m p)∧(2 * m + 2) * r.length + 1≤2900)∧BP 1060 (taP r):=fun r hr=>by
  rw [List.mem_singleton.mp hr]
  exact ⟨by omega,by omega,⟨6,fun p hp=>(hps p hp).1,by omega⟩,(taP_bp hl5 fun p hp=>(hps p hp).1).mono (by decide)⟩
 have oneg:∀ r∈[ps],∀ p∈r,GP 350 p:=fun r hr p hp=>by
  rw [List.mem_singleton.mp hr] at hp
  exact (hps p hp).1.mono (by decide)
 have gb:∀ x∈ms,GP 20 (backS x).2.2:=fun x hx=>by
  show GP 20 (if x.2.1=true then x.2.2 else trn x.2.2)
  split
  ·exact sg x hx
  ·exact (sg x hx).trn
 have flt:∀ x∈ms,x.2.1=true→t=true:=fun x hx z=>by
  cases t with
  | true=>rfl
  | false=>rw [fl rfl x hx] at z; cases z
 have b1:Bal (ms.map fun s=>s.1) [ps]:=by rw [me]; exact bal
 have plan:IsPlan [ps] (ms.map ledR) ms t:=⟨fun s hs=>⟨(tm s hs).1,flt s hs⟩,b1,Bal.refl _⟩
 have planb:=back_plan hp1 plan
 have hot:∀ r∈ms.map ledR,RgN r:=fun r hr=>tri_rg (lsz r hr).1 fun p hp=>((lsz r hr).2.1 p hp).mono (by decide)
 have h1:∀ x∈[ps],RgN x:=fun x h=>by rw [List.mem_singleton.mp h]; exact cvx_rgN cv (by omega) fun p h=>(hps p h).1.mono (by decide)
 have s1:(([ps]:RP).map List.length).sum≤1000:=by show ps.length + 0≤1000; omega
 have sum3:∀ rs:RP,(∀ r∈rs,r.length≤3)→(rs.map List.length).sum≤3 * rs.length:=fun rs=>by
  induction rs with
  | nil=>intro _; exact Nat.le_refl _
  | cons r rs ih =>
   intro h
   have:=h r List.mem_cons_self
   have:=ih fun x hx=>h x (List.mem_cons_of_mem _ hx)
   simp only [List.map_cons,List.sum_cons,List.length_cons]
   omega
 have hol:((ms.map ledR).map List.length).sum≤1000:=by
  have:=sum3 (ms.map ledR) fun r hr=>by obtain ⟨_,_,_,e,_⟩:=(lsz r hr).1; rw [e]; exact Nat.le_refl 3
  rw [List.length_map] at this
  omega
 have ol:(ms.map ledR).length=ms.length:=List.length_map ..
 have bl:(ms.map backS).length=ms.length:=List.length_map ..
 have bsz:∀ s∈ms.map backS,IsTri s.1∧(∀ p∈s.1,GP 350 p)∧bws s.1≤520∧GP 20 s.2.2∧(s.2.1=true→t=true):=fun s hs=>by
  obtain ⟨x,hx,rfl⟩:=List.mem_map.mp hs
  obtain ⟨q1,q2,q3⟩:=lsz (ledR x) (List.mem_map.mpr ⟨x,hx,rfl⟩)
  exact ⟨q1,q2,q3,gb x hx,flt x hx⟩
 have msz:∀ s∈ms,IsTri s.1∧(∀ p∈s.1,GP 350 p)∧bws s.1≤520∧GP 20 s.2.2∧(s.2.1=true→t=true):=fun s hs=>by
  obtain ⟨q1,q2,q3⟩:=rsz s.1 (List.mem_map.mpr ⟨s,hs,rfl⟩)
  exact ⟨q1,q2,q3,sg s hs,flt s hs⟩
 have tl3:∀ r,IsTri r→r.length=3:=fun r ⟨_,_,_,e,_⟩=>by rw [e]; rfl
 have pc3:∀ l:List Piece,∀ q∈l.map dS,isPiece3 q:=fun l q hq=>by
  obtain ⟨s,_,rfl⟩:=List.mem_map.mp hq
  exact ⟨_,_,_,rfl,flats_P0 _⟩
 refine ⟨_,rfl,?_⟩
 dsimp only
 refine ⟨_,rfl,rfl,ms,rfl,by omega,?_⟩
 dsimp only [fzR]
 intro f
 refine ⟨_,rfl,rfl,ms,rfl,by omega,fun s hs=>⟨by rw [tl3 _ (msz s hs).1]; decide,fun p hp=>((msz s hs).2.1 p hp).mono (by decide),(msz s hs).2.2.2.1.mono (by decide)⟩,?_⟩
 refine ⟨_,rfl,?_⟩
 refine ⟨_,rfl,_,rfl,shS,has_S ms,has_S ms,by decide,_,rfl,?_⟩
 rw [if_pos rfl,eqD_self]
 refine iteF ?_
 refine ⟨_,rfl,_,rfl,_,rfl,_,rfl,rfl,rfl,ms.map ledR,[ps],ms.map backS,t,rfl,by omega,by omega,by omega,by omega,by show 1≤1; decide,by show 1≤8; decide,fun r hr=>tri r (lsz r hr),fun r hr=>(lsz r hr).2.1,ones,oneg,fun s hs=>⟨(bsz s hs).1,(bsz s hs).2.1,(bsz s hs).2.2.1,(bsz s hs).2.2.2.1.mono (by decide),(bsz s hs).2.2.2.2⟩,by rw [ebl]; exact rsz,by rw [ebr]; exact Bal.refl _,by rw [ebl]; exact b1,by rw [ebr]; exact djl,by rw [ebl]; exact djr,?_⟩
 dsimp only [fzR]
 refine ⟨_,rfl,iteF ?_⟩
 dsimp only [uNext]
 refine ⟨_,rfl,_,rfl,_,rfl,_,rfl,rfl,ms.map ledR,[ps],ms.map backS,t,rfl,hot,h1,fun s hs=>⟨fun p hp=>((bsz s hs).2.1 p hp).mono (by decide),(bsz s hs).2.2.2.1.mono (by decide)⟩,hol,s1,by omega,fun b hb=>?_⟩
 dsimp only [fzR]
 have eb:b=true:=hb.mpr planb
 subst eb
 clear hb
 refine ⟨_,_,rfl,rfl,_,rfl,iteF ?_⟩
 dsimp only [uNext]
 intro f2
 refine ⟨_,rfl,rfl,ms.map backS,rfl,by omega,fun s hs=>⟨by rw [tl3 _ (bsz s hs).1]; decide,fun p hp=>((bsz s hs).2.1 p hp).mono (by decide),(bsz s hs).2.2.2.1.mono (by decide)⟩,?_⟩
 rw [e2b]
 refine ⟨_,rfl,?_⟩
 refine ⟨_,rfl,_,rfl,_,rfl,_,rfl,rfl,rfl,[ps],ms.map ledR,ms,t,rfl,by omega,by omega,by show 1≤1; decide,by show 1≤8; decide,by omega,by omega,ones,oneg,fun r hr=>tri r (lsz r hr),fun r hr=>(lsz r hr).2.1,fun s hs=>⟨(msz s hs).1,(msz s hs).2.1,(msz s hs).2.2.1,(msz s hs).2.2.2.1.mono (by decide),(msz s hs).2.2.2.2⟩,lsz,b1,Bal.refl _,djr,djl,?_⟩
 dsimp only [fzR]
 refine ⟨_,rfl,iteF ?_⟩
 refine ⟨_,rfl,_,rfl,_,rfl,_,rfl,rfl,[ps],ms.map ledR,ms,t,rfl,h1,hot,fun s hs=>⟨fun p hp=>((msz s hs).2.1 p hp).mono (by decide),(msz s hs).2.2.2.1.mono (by decide)⟩,s1,hol,by omega,fun b hb=>?_⟩
 dsimp only [fzR]
 have eb:b=true:=hb.mpr plan
 subst eb
 clear hb
 refine ⟨_,_,rfl,rfl,_,rfl,iteF ?_⟩
 dsimp only [uNext]
 refine ⟨⟨_,rfl,pc3 ms⟩,by show 11 < 14; decide,by show 10 < 14; decide,_,_,Kept.pin (Kept.pin (Kept.no (Kept.pin (Kept.pin (Kept.pin (Kept.pin (Kept.pin (Kept.pin (Kept.no (Kept.no (Kept.no (Kept.no (Kept.no Kept.nil))))))))))))),rfl,?_,fun f3=>?_⟩
 rotate_left
 ·refine ⟨_,rfl,rfl,ms.map backS,rfl,by omega,?_⟩
  refine ⟨_,rfl,?_⟩
  refine ⟨_,rfl,?_⟩
  refine ⟨_,rfl,_,rfl,shS,has_S (ms.map backS),has_S (ms.map backS),by decide,_,rfl,?_⟩
  rw [if_pos rfl,eqD_self]
  rfl
 refine ⟨⟨_,rfl,pc3 (ms.map backS)⟩,by show 11 < 14; decide,_,Kept.pin (Kept.pin (Kept.no (Kept.pin (Kept.pin (Kept.pin (Kept.pin (Kept.pin (Kept.no (Kept.no (Kept.no (Kept.no (Kept.no (Kept.no Kept.nil))))))))))))),?_⟩
 refine ⟨_,rfl,_,rfl,shS,has_S ms,has_S ms,by decide,?_⟩
 refine ⟨_,rfl,?_⟩
 rw [if_neg Bool.false_ne_true,eqD_self,if_pos rfl]
 refine ⟨by show 0≤sizeLine; decide,rfl,[],rfl,Nat.zero_le _,fun s h=>absurd h List.not_mem_nil,?_⟩
 dsimp only [fzR]
 refine ⟨by show 0≤sizeLine; decide,shS,rfl,rfl,by decide,?_⟩
 show k (.val (.bl (if false=true then _ else eqD (.lst []) (.lst []))))
 rw [if_neg Bool.false_ne_true,eqD_self]
 exact hk
theorem all_mk {l:PySem.W.OpenLaw} {w:World} {K:PySem.W.Frag} {h:Heap} {mg:Str→Option Value} {fa:Addr} (Y:Tab tabs K) (X:K.In h) (G:h.Ns mainGlobals mg) (hfa:mg "law" = some (.ref fa))
  : ∃ fd:FuncData,(∀ (s:Shared) (v:Value),BindsTo s fd ⟨[v],[]⟩ [("_law_script", v)])∧∀ base:Heap,K.In base→base.Ns mainGlobals mg→FnOk l.prog w K mg base CX0 7 fa fd ["_law_script"] (spLaw K):=by
 obtain ⟨⟨x_greatest_divisor,x_slid,x_turned,x_crossed,x_hand_of,x_side,x_sides_of,x_led_point,x_led_ring,x_note_sides,x_is_even,x_part,x_is_triangle,x_is_plan,x_step_back,x_led_back,x_law_cell,x_law_bag,x_law_digit,x_law_point,x_law_slid,x_law_turned,x_law_side,x_law_is_point,x_law_is_convex,x_law_within,x_law_twice_area,x_law_added,x_law_place,x_law_three,x_law_bulging,x_law_amid,x_law_mixed,x_law_led,x_law_moves_well,x_law_stands,x_law_area_of,x_law_parts,x_law_spots,x_law_plan_right,x_law_fan,x_law_parted,x_law_spread,x_law_led_ring,x_law_copy,x_law,_⟩,⟨z_len,z_abs,z_int,z_bool,z_tuple,z_isinstance,z_range,z_all,z_sum,z_list,z_ValueError,z_zip,z_str,z_enumerate,z_set,z_max,z_min,z_sorted,_⟩,⟨_⟩,⟨_⟩⟩:=Y
 have g_greatest_divisor:=x_greatest_divisor.fnd (ps:=["one", "other"]) X G fun _ _ F=>F.binds fun _ _ _ _ _ _ us hl=>match us,hl with | [_,_],_=>rfl
 have g_slid:=x_slid.fnd (ps:=["p", "step"]) X G fun _ _ F=>F.binds fun _ _ _ _ _ _ us hl=>match us,hl with | [_,_],_=>rfl
 have g_turned:=x_turned.fnd (ps:=["p"]) X G fun _ _ F=>F.binds fun _ _ _ _ _ _ us hl=>match us,hl with | [_],_=>rfl
 have g_crossed:=x_crossed.fnd (ps:=["one", "other"]) X G fun _ _ F=>F.binds fun _ _ _ _ _ _ us hl=>match us,hl with | [_,_],_=>rfl
 have g_hand_of:=x_hand_of.fnd (ps:=["line", "p"]) X G fun _ _ F=>F.binds fun _ _ _ _ _ _ us hl=>match us,hl with | [_,_],_=>rfl
 have g_side:=x_side.fnd (ps:=["p", "q", "r"]) X G fun _ _ F=>F.binds fun _ _ _ _ _ _ us hl=>match us,hl with | [_,_,_],_=>rfl
 have g_sides_of:=x_sides_of.fnd (ps:=["ring"]) X G fun _ _ F=>F.binds fun _ _ _ _ _ _ us hl=>match us,hl with | [_],_=>rfl
 have g_led_point:=x_led_point.fnd (ps:=["p", "is_turned", "step"]) X G fun _ _ F=>F.binds fun _ _ _ _ _ _ us hl=>match us,hl with | [_,_,_],_=>rfl
 have g_led_ring:=x_led_ring.fnd (ps:=["move"]) X G fun _ _ F=>F.binds fun _ _ _ _ _ _ us hl=>match us,hl with | [_],_=>rfl
 have g_note_sides:=x_note_sides.fnd (ps:=["ends", "rings", "share"]) X G fun _ _ F=>F.binds fun _ _ _ _ _ _ us hl=>match us,hl with | [_,_,_],_=>rfl
 have g_is_even:=x_is_even.fnd (ps:=["p", "ends"]) X G fun _ _ F=>F.binds fun _ _ _ _ _ _ us hl=>match us,hl with | [_,_],_=>rfl
 have g_part:=x_part.fnd (ps:=["rings", "cloth"]) X G fun _ _ F=>F.binds fun _ _ _ _ _ _ us hl=>match us,hl with | [_,_],_=>rfl
 have g_is_triangle:=x_is_triangle.fnd (ps:=["ring"]) X G fun _ _ F=>F.binds fun _ _ _ _ _ _ us hl=>match us,hl with | [_],_=>rfl
 have g_is_plan:=x_is_plan.fnd (ps:=["one", "other", "moves", "turning"]) X G fun _ _ F=>F.binds fun _ _ _ _ _ _ us hl=>match us,hl with | [_,_,_,_],_=>rfl
 have g_step_back:=x_step_back.fnd (ps:=["is_turned", "step"]) X G fun _ _ F=>F.binds fun _ _ _ _ _ _ us hl=>match us,hl with | [_,_],_=>rfl
 have g_led_back:=x_led_back.fnd (ps:=["moves"]) X G fun _ _ F=>F.binds fun _ _ _ _ _ _ us hl=>match us,hl with | [_],_=>rfl
 have g_law_cell:=x_law_cell.fnd (ps:=["_law_script", "_law_k"]) X G fun _ _ F=>F.binds fun _ _ _ _ _ _ us hl=>match us,hl with | [_,_],_=>rfl
 have g_law_bag:=x_law_bag.fnd (ps:=["_law_cell_here"]) X G fun _ _ F=>F.binds fun _ _ _ _ _ _ us hl=>match us,hl with | [_],_=>rfl
 have g_law_digit:=x_law_digit.fnd (ps:=["_law_bag_here", "_law_many"]) X G fun _ _ F=>F.binds fun _ _ _ _ _ _ us hl=>match us,hl with | [_,_],_=>rfl
 have g_law_point:=x_law_point.fnd (ps:=["_law_a", "_law_b", "_law_n"]) X G fun _ _ F=>F.binds fun _ _ _ _ _ _ us hl=>match us,hl with | [_,_,_],_=>rfl
 have g_law_slid:=x_law_slid.fnd (ps:=["_law_p", "_law_v"]) X G fun _ _ F=>F.binds fun _ _ _ _ _ _ us hl=>match us,hl with | [_,_],_=>rfl
 have g_law_turned:=x_law_turned.fnd (ps:=["_law_p"]) X G fun _ _ F=>F.binds fun _ _ _ _ _ _ us hl=>match us,hl with | [_],_=>rfl
 have g_law_side:=x_law_side.fnd (ps:=["_law_p", "_law_q", "_law_r"]) X G fun _ _ F=>F.binds fun _ _ _ _ _ _ us hl=>match us,hl with | [_,_,_],_=>rfl
 have g_law_is_point:=x_law_is_point.fnd (ps:=["_law_p"]) X G fun _ _ F=>F.binds fun _ _ _ _ _ _ us hl=>match us,hl with | [_],_=>rfl
 have g_law_is_convex:=x_law_is_convex.fnd (ps:=["_law_ring"]) X G fun _ _ F=>F.binds fun _ _ _ _ _ _ us hl=>match us,hl with | [_],_=>rfl
 have g_law_within:=x_law_within.fnd (ps:=["_law_ring", "_law_p"]) X G fun _ _ F=>F.binds fun _ _ _ _ _ _ us hl=>match us,hl with | [_,_],_=>rfl
 have g_law_twice_area:=x_law_twice_area.fnd (ps:=["_law_ring"]) X G fun _ _ F=>F.binds fun _ _ _ _ _ _ us hl=>match us,hl with | [_],_=>rfl
 have g_law_added:=x_law_added.fnd (ps:=["_law_one", "_law_other"]) X G fun _ _ F=>F.binds fun _ _ _ _ _ _ us hl=>match us,hl with | [_,_],_=>rfl
 have g_law_place:=x_law_place.fnd (ps:=["_law_bag_here", "_law_most"]) X G fun _ _ F=>F.binds fun _ _ _ _ _ _ us hl=>match us,hl with | [_,_],_=>rfl
 have g_law_three:=x_law_three.fnd (ps:=["_law_bag_here", "_law_most"]) X G fun _ _ F=>F.binds fun _ _ _ _ _ _ us hl=>match us,hl with | [_,_],_=>rfl
 have g_law_bulging:=x_law_bulging.fnd (ps:=["_law_bag_here", "_law_most"]) X G fun _ _ F=>F.binds fun _ _ _ _ _ _ us hl=>match us,hl with | [_,_],_=>rfl
 have g_law_amid:=x_law_amid.fnd (ps:=["_law_p", "_law_q", "_law_r"]) X G fun _ _ F=>F.binds fun _ _ _ _ _ _ us hl=>match us,hl with | [_,_,_],_=>rfl
 have g_law_mixed:=x_law_mixed.fnd (ps:=["_law_ring", "_law_bag_here"]) X G fun _ _ F=>F.binds fun _ _ _ _ _ _ us hl=>match us,hl with | [_,_],_=>rfl
 have g_law_led:=x_law_led.fnd (ps:=["_law_move", "_law_p"]) X G fun _ _ F=>F.binds fun _ _ _ _ _ _ us hl=>match us,hl with | [_,_],_=>rfl
 have g_law_moves_well:=x_law_moves_well.fnd (ps:=["_law_moves", "_law_turning"]) X G fun _ _ F=>F.binds fun _ _ _ _ _ _ us hl=>match us,hl with | [_,_],_=>rfl
 have g_law_stands:=x_law_stands.fnd (ps:=["_law_cloth", "_law_p"]) X G fun _ _ F=>F.binds fun _ _ _ _ _ _ us hl=>match us,hl with | [_,_],_=>rfl
 have g_law_area_of:=x_law_area_of.fnd (ps:=["_law_rings"]) X G fun _ _ F=>F.binds fun _ _ _ _ _ _ us hl=>match us,hl with | [_],_=>rfl
 have g_law_parts:=x_law_parts.fnd (ps:=["_law_rings", "_law_cloth", "_law_spots_here"]) X G fun _ _ F=>F.binds fun _ _ _ _ _ _ us hl=>match us,hl with | [_,_,_],_=>rfl
 have g_law_spots:=x_law_spots.fnd (ps:=["_law_rings", "_law_bag_here", "_law_many"]) X G fun _ _ F=>F.binds fun _ _ _ _ _ _ us hl=>match us,hl with | [_,_,_],_=>rfl
 have g_law_plan_right:=x_law_plan_right.fnd (ps:=["_law_one", "_law_other", "_law_moves", "_law_turning", "_law_bag_here"]) X G fun _ _ F=>F.binds fun _ _ _ _ _ _ us hl=>match us,hl with | [_,_,_,_,_],_=>rfl
 have g_law_fan:=x_law_fan.fnd (ps:=["_law_ring", "_law_bag_here"]) X G fun _ _ F=>F.binds fun _ _ _ _ _ _ us hl=>match us,hl with | [_,_],_=>rfl
 have g_law_parted:=x_law_parted.fnd (ps:=["_law_rings", "_law_bag_here", "_law_many"]) X G fun _ _ F=>F.binds fun _ _ _ _ _ _ us hl=>match us,hl with | [_,_,_],_=>rfl
 have g_law_spread:=x_law_spread.fnd (ps:=["_law_rings", "_law_bag_here", "_law_turning"]) X G fun _ _ F=>F.binds fun _ _ _ _ _ _ us hl=>match us,hl with | [_,_,_],_=>rfl
 have g_law_led_ring:=x_law_led_ring.fnd (ps:=["_law_move"]) X G fun _ _ F=>F.binds fun _ _ _ _ _ _ us hl=>match us,hl with | [_],_=>rfl
 have g_law_copy:=x_law_copy.fnd (ps:=["_law_moves"]) X G fun _ _ F=>F.binds fun _ _ _ _ _ _ us hl=>match us,hl with | [_],_=>rfl
 obtain ⟨f0,fd0,m0,F0⟩:=x_law
 have e:=hfa.symm.trans (PySem.W.mg_of X G m0)
 cases e
 have B:Blts mg:=⟨PySem.W.mg_none_of X G z_len,PySem.W.mg_none_of X G z_abs,PySem.W.mg_none_of X G z_int,PySem.W.mg_none_of X G z_bool,PySem.W.mg_none_of X G z_tuple,PySem.W.mg_none_of X G z_isinstance,PySem.W.mg_none_of X G z_range,PySem.W.mg_none_of X G z_all,PySem.W.mg_none_of X G z_sum,PySem.W.mg_none_of X G z_list,PySem.W.mg_none_of X G z_ValueError,PySem.W.mg_none_of X G z_zip,PySem.W.mg_none_of X G z_str,PySem.W.mg_none_of X G z_enumerate,PySem.W.mg_none_of X G z_set,PySem.W.mg_none_of X G z_max,PySem.W.mg_none_of X G z_min,PySem.W.mg_none_of X G z_sorted⟩
 refine ⟨fd0,fun s v=>?_,fun base _ _=>?_⟩
 ·obtain ⟨_,_,_,_,_,_,_,_,_,rfl,_⟩:=F0.ex
  exact .of_eq rfl
 have q_law_cell:=ok_law_cell (P:=l.prog) (w:=w) (base:=base) B  g_law_cell
 have q_bagC:=ok_bagC (P:=l.prog) (w:=w) (base:=base) B  g_law_bag
 have q_digitC:=ok_digitC (P:=l.prog) (w:=w) (base:=base) B  g_law_digit
 have q_ptC:=ok_ptC (P:=l.prog) (w:=w) (base:=base) B  g_law_point
 have q_slidW:=ok_slidW (P:=l.prog) (w:=w) (base:=base) B  g_law_slid q_ptC
 have q_turnC:=ok_turnC (P:=l.prog) (w:=w) (base:=base) B  g_law_turned
 have q_sideM:=ok_sideM (P:=l.prog) (w:=w) (base:=base) B  g_law_side
 have q_isptC:=ok_isptC (P:=l.prog) (w:=w) (base:=base) B  g_law_is_point q_ptC
 have q_cvxM:=ok_cvxM (P:=l.prog) (w:=w) (base:=base) B  g_law_is_convex q_isptC q_sideM
 have q_wiM:=ok_wiM (P:=l.prog) (w:=w) (base:=base) B  g_law_within q_sideM
 have q_placeB:=ok_placeB (P:=l.prog) (w:=w) (base:=base) B  g_law_place q_digitC q_ptC
 have q_threeB:=ok_threeB (P:=l.prog) (w:=w) (base:=base) B  g_law_three q_placeB q_sideM
 have q_bulgB:=ok_bulgB (P:=l.prog) (w:=w) (base:=base) B  g_law_bulging q_threeB q_digitC q_placeB q_cvxM
 have q_amidB:=ok_amidB (P:=l.prog) (w:=w) (base:=base) B  g_law_amid
 have q_standB:=ok_standB (P:=l.prog) (w:=w) (base:=base) B  g_law_stands q_sideM q_amidB
 have q_areaW:=ok_areaW (P:=l.prog) (w:=w) (base:=base) B  g_law_twice_area q_ptC
 have q_addW:=ok_addW (P:=l.prog) (w:=w) (base:=base) B  g_law_added q_ptC
 have q_areaO:=ok_areaO (P:=l.prog) (w:=w) (base:=base) B  g_law_area_of q_addW q_areaW
 have q_spotsB:=ok_spotsB (P:=l.prog) (w:=w) (base:=base) B  g_law_spots q_placeB q_digitC q_slidW q_ptC
 have q_partsB:=ok_partsB (P:=l.prog) (w:=w) (base:=base) B  g_law_parts q_areaO q_wiM q_standB
 have q_mwellB:=ok_mwellB (P:=l.prog) (w:=w) (base:=base) B  g_law_moves_well q_cvxM q_isptC
 have q_mixW:=ok_mixW (P:=l.prog) (w:=w) (base:=base) B  g_law_mixed q_digitC q_slidW q_ptC
 have q_fanW:=ok_fanW (P:=l.prog) (w:=w) (base:=base) B  g_law_fan q_mixW
 have q_partedW:=ok_partedW (P:=l.prog) (w:=w) (base:=base) B  g_law_parted q_digitC q_fanW
 have q_spreadC:=ok_spreadC (P:=l.prog) (w:=w) (base:=base) B  g_law_spread q_digitC
 have q_ledW:=ok_ledW (P:=l.prog) (w:=w) (base:=base) B  g_law_led q_turnC q_slidW
 have q_planrB:=ok_planrB (P:=l.prog) (w:=w) (base:=base) B  g_law_plan_right q_mwellB q_ledW q_partsB q_spotsB
 have q_ledrL:=ok_ledrL (P:=l.prog) (w:=w) (base:=base) B  g_law_led_ring q_ledW
 have q_copyR:=ok_copyR (P:=l.prog) (w:=w) (base:=base) B  g_law_copy
 have q_greatest_divisor:=ok_greatest_divisor (P:=l.prog) (w:=w) (base:=base) B  g_greatest_divisor
 have q_turned:=ok_turned (P:=l.prog) (w:=w) (base:=base) B  g_turned
 have q_slid:=ok_slid (P:=l.prog) (w:=w) (base:=base) B  g_slid q_greatest_divisor
 have q_crossN:=ok_crossN (P:=l.prog) (w:=w) (base:=base) B  g_crossed
 have q_handN:=ok_handN (P:=l.prog) (w:=w) (base:=base) B  g_hand_of
 have q_sideN:=ok_sideN (P:=l.prog) (w:=w) (base:=base) B  g_side q_handN q_crossN
 have q_sidesE:=ok_sidesE (P:=l.prog) (w:=w) (base:=base) B  g_sides_of
 have q_noteN:=ok_noteN (P:=l.prog) (w:=w) (base:=base) B  g_note_sides q_sidesE
 have q_evenN:=ok_evenN (P:=l.prog) (w:=w) (base:=base) B  g_is_even q_crossN q_handN
 have q_partN:=ok_partN (P:=l.prog) (w:=w) (base:=base) B  g_part q_noteN q_evenN
 have q_triN:=ok_triN (P:=l.prog) (w:=w) (base:=base) B  g_is_triangle q_sideN
 have q_ledpN:=ok_ledpN (P:=l.prog) (w:=w) (base:=base) B  g_led_point q_turned q_slid
 have q_ledrN:=ok_ledrN (P:=l.prog) (w:=w) (base:=base) B  g_led_ring q_ledpN
 have q_isplanN:=ok_isplanN (P:=l.prog) (w:=w) (base:=base) B  g_is_plan q_triN q_partN q_ledrN
 have q_stepbN:=ok_stepbN (P:=l.prog) (w:=w) (base:=base) B  g_step_back q_turned
 have q_ledbR:=ok_ledbR (P:=l.prog) (w:=w) (base:=base) B  g_led_back q_stepbN q_ledrN
 exact ok_law B F0 q_bulgB q_bagC q_law_cell q_digitC q_partedW q_fanW q_spreadC q_ledrL q_copyR q_ledbR q_planrB q_isplanN
end Cut
open PySem PySem.W PyProof.Rows
set_option maxRecDepth 100000 in
set_option maxHeartbeats 0 in
theorem PySem.Challenge.cw_slidecut_k63_plans_led_back_holds : PySem.Challenge.rw_slidecut_k63_plans_led_back.Holds := by
 refine holds_law Cut.said fun said => holds_open (XP := XL PySem.Challenge.pw_slidecut_k63_plans_led_back []) (YP := L3.saysH Cut.tabs) Cut.left (L3.ofH Cut.tabs) (L3.keepsH Cut.tabs) (fun s e => xl_of s (Bool.and_eq_true_iff.mp e).1) XL.keeps (by rfl) (by rfl) (by rfl) (fun s e => recFacts_of (Bool.and_eq_true_iff.mp e).2) (by rfl) said (by decide +kernel) ⟨rfl, rfl, rfl, rfl, rfl, by decide +kernel⟩ ?hw ?hc
 case hw => w_witness2
 case hc => exact L3.walkH (k := 7) rfl rfl ⟨rfl, by decide, by decide⟩ fun w K mg fa h Y X G hmg => Cut.all_mk Y X G hmg
#print axioms PySem.Challenge.cw_slidecut_k63_plans_led_back_holds