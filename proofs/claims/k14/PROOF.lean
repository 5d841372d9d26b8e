import PyProof.Rows.All
import Open.Line
import KE.KIsAll
import KE.KItem
import KE.IntBitsLaws
import OpenK.KCls
import OpenK.KList
import OpenK.KWalk
import OpenK.KCall
import OpenK.KMake
import Wide.FinOn
import Lean
import PyProof.EqAt
import PyProof.EqKinds
import PyProof.TupleCall
import PyProof.AttrMissHeap
import PyProof.Cells
import PyProof.AutoListH
import PyProof.AutoSeq1
import PyProof.SeqI3
import PyProof.Rows.SortWalk
import PyProof.DictItemsLoops
import PyProof.Rows.Range3
import PyProof.DictRoadsH
import PyProof.DictKinds
import PyProof.DictIter
import PyProof.DictWalks
import PyProof.DictValues
import PyProof.FactsAll.dict_values
import PyProof.FactsAll.dict_valueiterator
import PyProof.NeKinds
import PyProof.ExcBaseAll.ValueError
import PyProof.ZipIter
import PyProof.ListCopy
import PyProof.CollectWalk
import PyProof.SliceStr2
import PyProof.Rows.StrFirst
import PyProof.StrLawsFirst
import PyProof.StrLawsIn
import PyProof.StrBlockI
import PyProof.Rows.StrNews
import PyProof.EnumMake
import PyProof.EnumFor
import PyProof.EnumStmt
import PyProof.Rows.SetFrom
import PyProof.MinMaxWalk
import PyProof.WalkInts
import PyProof.FactsAll.tuple_1
import PyProof.FactsAll.tuple_2
import PySem.Challenge.RW_slidecut_k14_what_is_a_cloth
set_option Elab.async false
set_option linter.all false
namespace L3
open PySem PySem.W
def nsH (h:Heap) (name:Str):Option (Option Value):=match h.get? mainGlobals with
 | some ⟨_,_,.dict es _,_⟩=>(match es.toList.find? (·.key.isStr name) with
   | some e=>some (some e.val)
   | none=>if es.toList.any (·.refKey) then none else some none)
 | _=>none
def cdH (h:Heap) (cd:Value) (q:Str):Bool:=match cd with
 | .ref c=>(match h.get? c with
   | some ⟨_,_,.fields vs,_⟩=>(match vs.toList with | _ :: .str n _ :: _=>n == q | _=>false)
   | _=>false)
 | _=>false
def seeF (h:Heap) (x:Str):Option (Str×Str×Arguments×FuncBody×Scope×Addr×List (Str×Addr)×Value×Addr×Bool):=match nsH h x with
 | some (some (.ref f))=>(match h.get? f with
  | some ⟨_,_,.func fd,_⟩=>some (fd.name,fd.qualname,fd.params,fd.body,fd.scope,fd.globals,fd.closure,fd.defaults,fd.builtins,cdH h fd.code x)
  | _=>none)
 | _=>none
def dueF (x:Str) (st:Stmt):Option (Str×Str×Arguments×FuncBody×Scope×Addr×List (Str×Addr)×Value×Addr×Bool):=match st with
 | .FunctionDef _ a b _ _ _ sc _ _ _=>some (x,x,a,.stmts b,sc,mainGlobals,[],.none,builtinsNs,true)
 | _=>some (x,x,⟨[],[],none,[],[],none,[]⟩,.stmts [],{ kind:=.function,names:=[],isGenerator:=false,isCoroutine:=false },mainGlobals,[],.none,builtinsNs,true)
def seeT (h:Heap) (x:Str):Option (Str×Int×Int):=match nsH h x with
 | some (some (.ref p))=>(match h.get? p with
  | some ⟨.type "tuple", _,.seq its _,_⟩=>(match its.toList with | [.int i _,.int j _]=>some (x,i,j) | _=>none)
  | _=>none)
 | _=>none
def seeC (h:Heap) (x:Str):Option (Str×(Int ⊕ Str)):=match nsH h x with
 | some (some (.int i _))=>some (x,.inl i)
 | some (some (.str s _))=>some (x,.inr s)
 | _=>none
abbrev nF (x:Str) (s:Stmt):Str×Stmt:=(x,s)
abbrev nC (x:Str) (c:Int ⊕ Str):Str×(Int ⊕ Str):=(x,c)
structure Tabs where
 fs:List (Str×Stmt)
 bs:List Str
 ts:List (Str×Int×Int)
 cs:List (Str×(Int ⊕ Str))
abbrev Seen:Type:=List (Option (Str×Str×Arguments×FuncBody×Scope×Addr×List (Str×Addr)×Value×Addr×Bool))×List (Option (Option Value))×List (Option (Str×Int×Int))×List (Option (Str×(Int ⊕ Str)))
def obsH (t:Tabs) (s:Shared):Seen:=(t.fs.map fun p=>seeF s.heap p.1,t.bs.map fun b=>nsH s.heap b,t.ts.map fun p=>seeT s.heap p.1,t.cs.map fun p=>seeC s.heap p.1)
def valH (t:Tabs) (_:World):Seen:=(t.fs.map fun p=>dueF p.1 p.2,t.bs.map fun _=>some none,t.ts.map fun p=>some p,t.cs.map fun p=>some p)
theorem map_two {α β γ:Type} {E:Option α} {F:α→β×γ} {a:β×γ} (h1:E.map (fun s=>(F s).1)=some a.1) (h2:E.map (fun s=>(F s).2)=some a.2):E.map F=some a:=by
 cases E with
 | none=>cases h1
 | some x =>
  have e1:=Option.some.inj h1
  have e2:=Option.some.inj h2
  exact congrArg some (Prod.ext e1 e2)
theorem left_of {p q:Program} {loose:List Str} {Xt:Shared→Bool} {α:Type} {Yf:Shared→α} {Ya:World→α} {N:Nat} (h1:∀ w:World,(openEnds treeTable p w N).map (fun s=>(openSeen q loose (importedModules p.main.body) Xt true s).1)=some (openGood q loose).1)
  (h2:∀ w:World,(openEnds treeTable p w N).map (fun s=>(openSeen q loose (importedModules p.main.body) Xt true s).2)=some (openGood q loose).2) (h3:∀ w:World,(openEnds treeTable p w N).map Yf=some (Ya w)):LeftO p q loose Xt Yf Ya N :=
 fun w=>map_two (F:=fun s=>(openSeen q loose (importedModules p.main.body) Xt true s,Yf s)) (a:=(openGood q loose,Ya w)) (map_two (h1 w) (h2 w)) (h3 w)
end L3
namespace Cut
open PySem L3
def top (i:Nat):Stmt:=PySem.Challenge.pw_slidecut_k14_what_is_a_cloth.main.body.getD i (.Pass ⟨0,0,0,0⟩)
abbrev s_greatest_divisor:Stmt:=top 4
abbrev s_ratio:Stmt:=top 5
abbrev s_plus:Stmt:=top 6
abbrev s_times:Stmt:=top 7
abbrev s_slid:Stmt:=top 9
abbrev s_step_to:Stmt:=top 10
abbrev s_turned:Stmt:=top 11
abbrev s_crossed:Stmt:=top 12
abbrev s_hand_of:Stmt:=top 13
abbrev s_side:Stmt:=top 14
abbrev s_sides_of:Stmt:=top 18
abbrev s_ring_area:Stmt:=top 19
abbrev s_lies_on:Stmt:=top 20
abbrev s_touch:Stmt:=top 21
abbrev s_runs_back:Stmt:=top 22
abbrev s_clash:Stmt:=top 23
abbrev s_sides_are_apart:Stmt:=top 24
abbrev s_is_above:Stmt:=top 25
abbrev s_within:Stmt:=top 26
abbrev s_is_inside:Stmt:=top 27
abbrev s_rings_go_rightly:Stmt:=top 28
abbrev s_is_cloth:Stmt:=top 29
abbrev s_law_cell:Stmt:=top 31
abbrev s_law_bag:Stmt:=top 32
abbrev s_law_draw:Stmt:=top 33
abbrev s_law_gcd:Stmt:=top 34
abbrev s_law_point:Stmt:=top 35
abbrev s_law_cross:Stmt:=top 36
abbrev s_law_twice:Stmt:=top 37
abbrev s_law_touch:Stmt:=top 38
abbrev s_law_back:Stmt:=top 39
abbrev s_law_simple:Stmt:=top 40
abbrev s_law_within:Stmt:=top 41
abbrev s_law_apart:Stmt:=top 42
abbrev s_law_is_cloth:Stmt:=top 43
abbrev s_law_bottom:Stmt:=top 44
abbrev s_law_chain:Stmt:=top 45
abbrev s_law_strip:Stmt:=top 46
abbrev s_law_shape:Stmt:=top 47
abbrev s_law_slid:Stmt:=top 48
abbrev s_law_cloth:Stmt:=top 49
abbrev s_law_handed:Stmt:=top 50
abbrev s_law_spoiled:Stmt:=top 51
abbrev s_law:Stmt:=top 52
def tabs:Tabs:=⟨[nF "greatest_divisor" s_greatest_divisor,nF "ratio" s_ratio,nF "plus" s_plus,nF "times" s_times,nF "slid" s_slid,nF "step_to" s_step_to,nF "turned" s_turned,nF "crossed" s_crossed,nF "hand_of" s_hand_of,nF "side" s_side,nF "sides_of" s_sides_of,nF "ring_area" s_ring_area,nF "lies_on" s_lies_on,nF "touch" s_touch,nF "runs_back" s_runs_back,nF "clash" s_clash,nF "sides_are_apart" s_sides_are_apart,nF "is_above" s_is_above,nF "within" s_within,nF "is_inside" s_is_inside,nF "rings_go_rightly" s_rings_go_rightly,nF "is_cloth" s_is_cloth,nF "_law_cell" s_law_cell,nF "_law_bag" s_law_bag,nF "_law_draw" s_law_draw,nF "_law_gcd" s_law_gcd,nF "_law_point" s_law_point,nF "_law_cross" s_law_cross,nF "_law_twice" s_law_twice,nF "_law_touch" s_law_touch,nF "_law_back" s_law_back,nF "_law_simple" s_law_simple,nF "_law_within" s_law_within,nF "_law_apart" s_law_apart,nF "_law_is_cloth" s_law_is_cloth,nF "_law_bottom" s_law_bottom,nF "_law_chain" s_law_chain,nF "_law_strip" s_law_strip,nF "_law_shape" s_law_shape,nF "_law_slid" s_law_slid,nF "_law_cloth" s_law_cloth,nF "_law_handed" s_law_handed,nF "_law_spoiled" s_law_spoiled,nF "law" s_law],["len", "abs", "int", "bool", "tuple", "isinstance", "range", "all", "sum", "list", "ValueError", "zip", "str", "enumerate", "set", "max", "min", "sorted", "dict"],[],[nC "MOST_CORNERS" (.inl 24),nC "MOST_RINGS" (.inl 8)]⟩
open PySem.W in
set_option maxRecDepth 100000 in
set_option maxHeartbeats 0 in
theorem said:(PySem.Challenge.rw_slidecut_k14_what_is_a_cloth).wellSaid=true:=by kernel_rfl
open PySem.W in
set_option maxRecDepth 100000 in
set_option maxHeartbeats 0 in
theorem left1:∀ w:World,(openEnds treeTable (PySem.Challenge.rw_slidecut_k14_what_is_a_cloth).row.prog w 20000).map (fun s=>(openSeen PySem.Challenge.pw_slidecut_k14_what_is_a_cloth [] (importedModules (PySem.Challenge.rw_slidecut_k14_what_is_a_cloth).row.prog.main.body) (fun s=>xlAt PySem.Challenge.pw_slidecut_k14_what_is_a_cloth [] s && recOk (RowW.records (OpenRow.toRowW (PySem.Challenge.rw_slidecut_k14_what_is_a_cloth).row)) s) true s).1)=some (openGood PySem.Challenge.pw_slidecut_k14_what_is_a_cloth []).1:=fun w=>by kernel_rfl
open PySem.W in
set_option maxRecDepth 100000 in
set_option maxHeartbeats 0 in
theorem left2:∀ w:World,(openEnds treeTable (PySem.Challenge.rw_slidecut_k14_what_is_a_cloth).row.prog w 20000).map (fun s=>(openSeen PySem.Challenge.pw_slidecut_k14_what_is_a_cloth [] (importedModules (PySem.Challenge.rw_slidecut_k14_what_is_a_cloth).row.prog.main.body) (fun s=>xlAt PySem.Challenge.pw_slidecut_k14_what_is_a_cloth [] s && recOk (RowW.records (OpenRow.toRowW (PySem.Challenge.rw_slidecut_k14_what_is_a_cloth).row)) s) true s).2)=some (openGood PySem.Challenge.pw_slidecut_k14_what_is_a_cloth []).2:=fun w=>by kernel_rfl
open PySem.W in
set_option maxRecDepth 100000 in
set_option maxHeartbeats 0 in
theorem left3:∀ w:World,(openEnds treeTable (PySem.Challenge.rw_slidecut_k14_what_is_a_cloth).row.prog w 20000).map (obsH tabs)=some (valH tabs w):=fun w=>by kernel_rfl
open PySem.W in
set_option maxRecDepth 100000 in
set_option maxHeartbeats 0 in
theorem left:LeftO (PySem.Challenge.rw_slidecut_k14_what_is_a_cloth).row.prog PySem.Challenge.pw_slidecut_k14_what_is_a_cloth [] (fun s=>xlAt PySem.Challenge.pw_slidecut_k14_what_is_a_cloth [] s && recOk (RowW.records (OpenRow.toRowW (PySem.Challenge.rw_slidecut_k14_what_is_a_cloth).row)) s) (obsH tabs) (valH tabs) 20000:=left_of (p:=(PySem.Challenge.rw_slidecut_k14_what_is_a_cloth).row.prog) (q:=PySem.Challenge.pw_slidecut_k14_what_is_a_cloth) (loose:=[]) (Xt:=(fun s=>xlAt PySem.Challenge.pw_slidecut_k14_what_is_a_cloth [] s && recOk (RowW.records (OpenRow.toRowW (PySem.Challenge.rw_slidecut_k14_what_is_a_cloth).row)) s)) (Yf:=obsH tabs) (Ya:=valH tabs) (N:=20000) left1 left2 left3
end Cut
set_option Elab.async false
set_option linter.all false
set_option maxRecDepth 100000
namespace L2
open PySem PySem.Spec PyProof.Rows
abbrev Key:=Sum Int Str
def keyIs:Key→Value→Bool
 | .inl k,v=>Value.isInt k v
 | .inr x,v=>Value.isStrOf x v
def keyH (w:World):Key→Int
 | .inl k=>hashInt k
 | .inr x=>hashStr w x
theorem keyIs_shape:∀ {k:Key} {v:Value},keyIs k v=true→(∃ i t,k=Sum.inl i∧v=Value.int i t)∨(∃ x t,k=Sum.inr x∧v=Value.str x t)
 | .inl i,v,h=>by
  obtain ⟨t,e⟩:=Value.isInt_shape (k:=i) (v:=v) h
  exact .inl ⟨i,t,rfl,e⟩
 | .inr x,v,h=>by
  obtain ⟨t,e⟩:=Value.isStrOf_shape (x:=x) (v:=v) h
  exact .inr ⟨x,t,rfl,e⟩
theorem key_ll (a b:Int):decide ((Sum.inl a:Key)=Sum.inl b)=(a == b):=by
 by_cases e:a=b
 ·subst e; simp
 ·have h:¬ (Sum.inl a:Key)=Sum.inl b:=fun q=>e (Sum.inl.inj q)
  rw [decide_eq_false h]
  exact (beq_eq_false_iff_ne.mpr e).symm
theorem key_rr (a b:Str):decide ((Sum.inr a:Key)=Sum.inr b)=decide (a=b):=by
 by_cases e:a=b
 ·subst e; simp
 ·have h:¬ (Sum.inr a:Key)=Sum.inr b:=fun q=>e (Sum.inr.inj q)
  rw [decide_eq_false h,decide_eq_false e]
theorem key_lr (a:Int) (b:Str):decide ((Sum.inl a:Key)=Sum.inr b)=false:=decide_eq_false (fun q=>nomatch q)
theorem key_rl (a:Str) (b:Int):decide ((Sum.inr a:Key)=Sum.inl b)=false:=decide_eq_false (fun q=>nomatch q)
def mixKind (prog:Program) (w:World):PySem.KeyKind prog w Key where
 is:=keyIs
 hash:=keyH w
 inj:=fun v a b ha hb=>by
  rcases keyIs_shape ha with ⟨i,t,rfl,rfl⟩ | ⟨x,t,rfl,rfl⟩
  ·rcases keyIs_shape hb with ⟨j,u,rfl,e⟩ | ⟨y,u,rfl,e⟩
   ·injection e with e1 _; rw [e1]
   ·exact nomatch e
  ·rcases keyIs_shape hb with ⟨j,u,rfl,e⟩ | ⟨y,u,rfl,e⟩
   ·exact nomatch e
   ·injection e with e1 _; rw [e1]
 byValue:=fun k v h=>by
  rcases keyIs_shape h with ⟨i,t,rfl,rfl⟩ | ⟨x,t,rfl,rfl⟩ <;> rfl
 pyHash:=fun hv h=>by
  rcases keyIs_shape hv with ⟨i,t,rfl,rfl⟩ | ⟨x,t,rfl,rfl⟩
  ·exact wpAny_pyHash_int h
  ·exact wpAny_pyHash_str h
 eqBool:=fun hu hv h=>by
  rcases keyIs_shape hu with ⟨i,t,rfl,rfl⟩ | ⟨x,t,rfl,rfl⟩
  ·rcases keyIs_shape hv with ⟨j,u,rfl,rfl⟩ | ⟨y,u,rfl,rfl⟩
   ·rw [key_ll] at h; exact wpAny_eqBool_int h
   ·rw [key_lr] at h; exact SeqAt.EqAt.int_str i t y u _ _ _ _ h
  ·rcases keyIs_shape hv with ⟨j,u,rfl,rfl⟩ | ⟨y,u,rfl,rfl⟩
   ·rw [key_rl] at h; exact SeqAt.EqAt.str_int x t j u _ _ _ _ h
   ·rw [key_rr] at h; exact wpAny_eqBool_str h
 «strs» := fun k x t v h=>by
  rcases keyIs_shape h with ⟨i,u,rfl,e⟩ | ⟨y,u,rfl,e⟩
  ·exact nomatch e
  ·injection e with e1 _
   subst e1
   cases v <;> rfl
end L2
namespace L2
open PySem PySem.Spec PyProof.Rows
inductive V where
 | non | bl (b:Bool) | int (i:Int) | str (x:Str) | byt (b:Array UInt8) | flt (b:UInt64) | ref (a:Addr) | ty (n:String)
 deriving DecidableEq
def RelV:V→Value→Prop
 | .non,u=>u=Value.none
 | .bl b,u=>u=Value.bool b
 | .int i,u=>∃ t,u=Value.int i t
 | .str x,u=>∃ t,u=Value.str x t
 | .byt b,u=>∃ t,u=Value.bytes b t
 | .flt b,u=>∃ t,u=Value.float b t
 | .ref a,u=>u=Value.ref a
 | .ty n,u=>u=Value.type n
abbrev Vals:List V→List Value→Prop:=Paired RelV
theorem Vals.length {xs:List V} {us:List Value} (r:Vals xs us):xs.length=us.length:=Paired.length r
theorem Vals.get:∀ {xs:List V} {us:List Value} {i:Nat} {x:V},Vals xs us→xs[i]?=some x→∃ u,us[i]?=some u∧RelV x u
 | _,_,_,_,.nil,e=>by simp at e
 | _,_,0,_,.cons r _,e=>by simp at e; subst e; exact ⟨_,rfl,r⟩
 | _,_,i + 1,x,.cons _ t,e=>by
  obtain ⟨u,h1,h2⟩:=Vals.get (i:=i) (x:=x) t (by simpa using e)
  exact ⟨u,by simpa using h1,h2⟩
theorem Vals.set {x:V} {u:Value} (r:RelV x u):∀ {xs:List V} {us:List Value} (i:Nat),Vals xs us→Vals (xs.set i x) (us.set i u)
 | _,_,_,.nil=>.nil
 | _,_,0,.cons _ t=>.cons r t
 | _,_,i + 1,.cons q t=>.cons q (Vals.set r i t)
theorem Vals.append:∀ {xs ys:List V} {us ws:List Value},Vals xs us→Vals ys ws→Vals (xs ++ ys) (us ++ ws)
 | _,_,_,_,.nil,s=>s
 | _,_,_,_,.cons r t,s=>.cons r (Vals.append t s)
theorem Vals.take:∀ {xs:List V} {us:List Value} (n:Nat),Vals xs us→Vals (xs.take n) (us.take n)
 | _,_,0,_=>.nil
 | _,_,_ + 1,.nil=>.nil
 | _,_,n + 1,.cons r t=>.cons r (Vals.take n t)
theorem Vals.drop:∀ {xs:List V} {us:List Value} (n:Nat),Vals xs us→Vals (xs.drop n) (us.drop n)
 | _,_,0,r=>r
 | _,_,_ + 1,.nil=>.nil
 | _,_,n + 1,.cons _ t=>Vals.drop n t
def RelO:Option V→Option Value→Prop
 | some v,some u=>RelV v u
 | none,none=>True
 | _,_=>False
def KV {κ:Type}:List (κ×V)→List (κ×Value)→Prop:=Paired fun (p:κ×V) (q:κ×Value)=>p.1=q.1∧RelV p.2 q.2
def kV:Key→V
 | .inl i=>.int i
 | .inr x=>.str x
inductive HO where
 | lst (xs:List V)
 | tup (xs:List V)
 | dK (kvs:List (Key×V)) | dT (kvs:List (List Key×V))
 | set (S:Int→Bool) (n:Nat)
 | ins (C dx:Addr) (fs:List (Str×V))
 | own (x:Addr)
 | xd (fs:List (Str×V))
 | met (f x:Addr)
 | rng (lo hi:Int)
 | frz (o:Obj) (u:HO)
 | tbl (ps:Array Value)
 | ext (φ:Heap→Prop)
abbrev Hp:=Addr→Option HO
def upd (H:Hp) (a:Addr) (o:HO):Hp:=fun b=>if b=a then some o else H b
theorem upd_same {H:Hp} {a:Addr} {o:HO}:upd H a o a=some o:=by unfold upd; rw [if_pos rfl]
theorem upd_ne {H:Hp} {a b:Addr} {o:HO} (h:b≠a):upd H a o b=H b:=by unfold upd; rw [if_neg h]
theorem ne_of_none {H:Hp} {a b:Addr} {o:HO} (h:H a=some o) (h':H b=none):a≠b:=by
 intro e; subst e; rw [h] at h'; cases h'
def TabOk (H:Hp) (h:Heap) (a:Addr) (ps:Array Value):Prop:=∃ qs:Array Value,h.get? a=some { cls:=.none,data:=.fields qs }∧TriplesOk qs.toList ∧
 ∀ pos cv,codeAmong pos qs.toList=some cv→∃ c oc u vs q t t',cv=.ref c∧H c=some (.frz oc u)∧oc.data=.fields vs∧vs[1]?=some (.str q t)∧ps[0]?=some (.str q t')
def tabsK (K:PySem.W.Frag):List (Addr×Str):=K.filterMap fun p=>match p with
 | (b,⟨.none,_,.fields vs,_⟩)=>(match vs.toList with | [.ref P,.str q _]=>if b=mainGlobals then some (P,q) else none | _=>none)
 | _=>none
def TabsIn (K:PySem.W.Frag) (H:Hp):Prop:=∀ p∈tabsK K,∃ ps t,H p.1=some (.tbl ps)∧ps[0]?=some (.str p.2 t)
section
variable (P:Program) (w:World)
def ObjOk (H:Hp) (h:Heap) (a:Addr):HO→Prop
 | .lst xs=>xs.length≤sizeLine∧∃ (its:List Value) (n:Nat),Vals xs its∧h.get? a=some { cls:=.type "list", data:=.seq its.toArray n }
 | .tup xs=>xs.length≤sizeLine∧∃ its:List Value,Vals xs its∧IsTup h a its.toArray
 | .dK kvs=>kvs.length≤sizeLine∧(a == sysModules)=false∧∃ vs,KV kvs vs∧h.DictOf (mixKind P w) a vs
 | .dT kvs=>kvs.length≤sizeLine∧(a == sysModules)=false∧∃ xs:List (List Key×Addr×Value),
   Paired (fun (p:List Key×V) (q:List Key×Addr×Value)=>p.1=q.1∧H q.2.1=some (.tup (p.1.map kV))∧RelV p.2 q.2.2) kvs xs ∧
   ∃ o es ep,h.get? a=some o∧o.ExactDict∧o.data=.dict es ep∧es.toList=xs.map (entryOfKey (tupleKind (mixKind P w)))∧(xs.map (·.1)).Nodup
 | .set S n=>h.SetOf (intKind P w) a S n
 | .ins C dx fs=>H dx=some (.own a)∧fs.length≤1000∧dx≠a∧h.get? a=some (PySem.W.instObj C dx) ∧
   ∃ mA,h.Ns1 dx mA∧(∀ f,RelO (fs.lookup f) (mA f))∧PySem.Within mA (fs.map (·.1))
 | .own _=>∃ o,h.get? a=some o
 | .xd fs=>∃ mA,h.Ns1 a mA∧∀ f,RelO (fs.lookup f) (mA f)
 | .rng lo hi=>∃ t u v,h.get? a=some { cls:=.type "range", data:=.fields #[.int lo t,.int hi u,.int 1 v] }
 | .frz o u=>h.get? a=some o∧ObjOk H h a u
 | .tbl ps=>TabOk H h a ps
 | .met f x=>h.get? a=some (PySem.W.methodObj (.ref f) (.ref x))
 | .ext φ=>φ h∧(∃ o,h.get? a=some o)∧∀ h1 h2:Heap,φ h1→(∀ o,h1.get? a=some o→h2.get? a=some o)→φ h2
def HOk (H:Hp) (h:Heap):Prop:=∀ a o,H a=some o→ObjOk P w H h a o
end
section
variable {P:Program} {w:World} {H H':Hp} {h h':Heap} {a:Addr} {o:HO}
theorem ObjOk.lt (x:ObjOk P w H h a o):a < h.objs.size:=by
 cases o with
 | lst xs=>obtain ⟨_,_,_,_,e⟩:=x; exact Heap.lt_size e
 | tup xs=>obtain ⟨_,_,_,p⟩:=x; exact p.lt
 | dK kvs=>obtain ⟨_,_,_,_,o,_,_,e,_⟩:=x; exact Heap.lt_size e
 | dT kvs=>obtain ⟨_,_,_,_,o,_,_,e,_⟩:=x; exact Heap.lt_size e
 | set S n=>obtain ⟨o,_,_,_,e,_⟩:=x; exact Heap.lt_size e
 | ins C dx fs=>obtain ⟨_,_,_,e,_⟩:=x; exact Heap.lt_size e
 | own y=>obtain ⟨_,e⟩:=x; exact Heap.lt_size e
 | xd fs=>obtain ⟨_,⟨_,_,_,e,_⟩,_⟩:=x; exact Heap.lt_size e
 | rng lo hi=>obtain ⟨_,_,_,e⟩:=x; exact Heap.lt_size e
 | frz ob u=>obtain ⟨e,_⟩:=x; exact Heap.lt_size e
 | tbl ps=>obtain ⟨_,e,_⟩:=x; exact Heap.lt_size e
 | met f y=>exact Heap.lt_size (show h.get? a=some _ from x)
 | ext φ=>obtain ⟨_,⟨_,e⟩,_⟩:=x; exact Heap.lt_size e
theorem Paired.mapP {α β:Type} {F G:α→β→Prop}:∀ {l₁:List α} {l₂:List β},Paired F l₁ l₂→(∀ a b,F a b→G a b)→Paired G l₁ l₂
 | _,_,.nil,_=>.nil
 | _,_,.cons r t,f=>.cons (f _ _ r) (Paired.mapP t f)
theorem ObjOk.stay (x:ObjOk P w H h a o) (k:∀ b u,(b=a∨H b=some (.own a))→h.get? b=some u→h'.get? b=some u)
  (ho:∀ b,H b=some (.own a)→H' b=some (.own a)) (ht:∀ b xs,H b=some (.tup xs)→H' b=some (.tup xs)) (hf:∀ b ob u,H b=some (.frz ob u)→H' b=some (.frz ob u)):ObjOk P w H' h' a o:=by
 induction o with
 | lst xs=>obtain ⟨z,its,n,r,e⟩:=x; exact ⟨z,its,n,r,k _ _ (.inl rfl) e⟩
 | tup xs=>obtain ⟨z,its,r,ob,e,c⟩:=x; exact ⟨z,its,r,ob,k _ _ (.inl rfl) e,c⟩
 | dK kvs=>obtain ⟨z,y,vs,r,ob,es,ep,e,c⟩:=x; exact ⟨z,y,vs,r,ob,es,ep,k _ _ (.inl rfl) e,c⟩
 | dT kvs =>
  obtain ⟨z,y,xs,r,ob,es,ep,e,c⟩:=x
  exact ⟨z,y,xs,Paired.mapP r fun p q z=>⟨z.1,ht _ _ z.2.1,z.2.2⟩,ob,es,ep,k _ _ (.inl rfl) e,c⟩
 | set S n=>obtain ⟨ob,es,ep,t,e,c⟩:=x; exact ⟨ob,es,ep,t,k _ _ (.inl rfl) e,c⟩
 | ins C dx fs =>
  obtain ⟨d,z,ne,e,mA,⟨od,es,ep,e2,c⟩,r⟩:=x
  exact ⟨ho _ d,z,ne,k _ _ (.inl rfl) e,mA,⟨od,es,ep,k _ _ (.inr d) e2,c⟩,r⟩
 | own y=>obtain ⟨ob,e⟩:=x; exact ⟨ob,k _ _ (.inl rfl) e⟩
 | xd fs=>obtain ⟨mA,⟨od,es,ep,e,c⟩,r⟩:=x; exact ⟨mA,⟨od,es,ep,k _ _ (.inl rfl) e,c⟩,r⟩
 | rng lo hi=>obtain ⟨t,u,v,e⟩:=x; exact ⟨t,u,v,k _ _ (.inl rfl) e⟩
 | frz ob u ih=>obtain ⟨e,q⟩:=x; exact ⟨k _ _ (.inl rfl) e,ih q⟩
 | tbl ps =>
  obtain ⟨qs,e,tr,g⟩:=x
  refine ⟨qs,k _ _ (.inl rfl) e,tr,fun pos cv hc=>?_⟩
  obtain ⟨c,oc,u,vs,q,t,t',e1,e2,e3⟩:=g pos cv hc
  exact ⟨c,oc,u,vs,q,t,t',e1,hf _ _ _ e2,e3⟩
 | met f y =>
  have e:h.get? a=some (PySem.W.methodObj (.ref f) (.ref y)):=x
  show h'.get? a=some (PySem.W.methodObj (.ref f) (.ref y))
  exact k a _ (.inl rfl) e
 | ext φ=>obtain ⟨p,⟨o,e⟩,st⟩:=x; exact ⟨st _ _ p fun o q=>k _ _ (.inl rfl) q,⟨o,k _ _ (.inl rfl) e⟩,st⟩
theorem HOk.lt (x:HOk P w H h) (e:H a=some o):a < h.objs.size:=(x a o e).lt
theorem HOk.fresh (x:HOk P w H h) (e:h.objs.size≤a):H a=none:=by
 cases q:H a with
 | none=>rfl
 | some u=>exact absurd (Nat.lt_of_lt_of_le (x.lt q) e) (Nat.lt_irrefl _)
theorem HOk.kept (x:HOk P w H h) (k:∀ b u,h.get? b=some u→h'.get? b=some u):HOk P w H h':=fun a o e =>
 (x a o e).stay (fun b u _ q=>k b u q) (fun _ q=>q) (fun _ _ q=>q) fun _ _ _ q=>q
theorem HOk.laid (x:HOk P w H h) (k:∀ b u,h.get? b=some u→h'.get? b=some u) (hp:h.objs.size≤a) (new:ObjOk P w (upd H a o) h' a o):HOk P w (upd H a o) h':=fun b u e=>by
 have hn:=x.fresh hp
 by_cases hb:b=a
 ·subst hb; rw [upd_same] at e; cases e; exact new
 ·rw [upd_ne hb] at e
  exact (x b u e).stay (fun c v _ q=>k c v q) (fun c q=>by rw [upd_ne (ne_of_none q hn)]; exact q) (fun c xs q=>by rw [upd_ne (ne_of_none q hn)]; exact q) fun c ob u q=>by rw [upd_ne (ne_of_none q hn)]; exact q
end
def Rd (H:Hp) (a:Addr) (u:HO):Prop:=H a=some u∨∃ o,H a=some (.frz o u)
theorem Rd.ok {P:Program} {w:World} {H:Hp} {h:Heap} {a:Addr} {u:HO} (r:Rd H a u) (x:HOk P w H h):ObjOk P w H h a u:=by
 rcases r with r | ⟨o,r⟩
 ·exact x a u r
 ·obtain ⟨_,q⟩:=x a _ r
  exact q
def Mut:Option HO→Prop
 | some (.lst _)=>True
 | some (.dK _)=>True
 | some (.dT _)=>True
 | some (.set _ _)=>True
 | some (.ins _ _ _)=>True
 | some (.ext _)=>True
 | _=>False
section
variable {P:Program} {w:World} {H:Hp} {h h':Heap} {x e:Addr} {o':HO}
theorem HOk.write (ok:HOk P w H h) (mu:Mut (H x)) (he:e=x∨H e=some (.own x)) (k:∀ b u,b≠e→h.get? b=some u→h'.get? b=some u) (heo:∃ u,h'.get? e=some u)
  (new:ObjOk P w (upd H x o') h' x o'):HOk P w (upd H x o') h':=fun b u q=>by
 have nown:∀ c y,H c=some (.own y)→c≠x:=fun c y r z=>by subst z; rw [r] at mu; exact mu
 have ntup:∀ c xs,H c=some (.tup xs)→c≠x:=fun c xs r z=>by subst z; rw [r] at mu; exact mu
 have nfrz:∀ c ob u,H c=some (.frz ob u)→c≠x:=fun c ob u r z=>by subst z; rw [r] at mu; exact mu
 by_cases hb:b=x
 ·subst hb; rw [upd_same] at q; cases q; exact new
 ·rw [upd_ne hb] at q
  by_cases hbe:b=e
  ·have q':H b=some (.own x):=by
    rcases he with z | z
    ·exact absurd (hbe.trans z) hb
    ·rw [hbe]; exact z
   rw [q] at q'; cases q'
   obtain ⟨v,hv⟩:=heo
   exact ⟨v,by rw [hbe]; exact hv⟩
  ·refine (ok b u q).stay (fun c v hc r=>k c v ?_ r) (fun c r=>by rw [upd_ne (nown c b r)]; exact r) (fun c xs r=>by rw [upd_ne (ntup c xs r)]; exact r) fun c ob u r=>by rw [upd_ne (nfrz c ob u r)]; exact r
   rcases hc with rfl | hc
   ·exact hbe
   ·rintro rfl
    rcases he with z | z
    ·exact nown c b hc z
    ·rw [hc] at z; cases z; exact hb rfl
end
structure Un (fs ex:List Addr) (H H':Hp) (h h':Heap):Prop where
 keep:∀ b o,h.get? b=some o→H b=none→b ∉ fs→b ∉ ex→h'.get? b=some o
 slot:∀ b o,h.get? b=some o→H b=none→b∈fs→b ∉ ex→∃ sl,h'.get? b=some { o with slots:=sl }
 free:∀ b o,h.get? b=some o→H b=none→b ∉ ex→H' b=none
 there:∀ b o,h.get? b=some o→b ∉ ex→∃ o',h'.get? b=some o'
 tups:∀ b xs,H b=some (.tup xs)→H' b=some (.tup xs)
 frzs:∀ b o u,H b=some (.frz o u)→H' b=some (.frz o u)
 tbls:∀ b ps,H b=some (.tbl ps)→∃ more,H' b=some (.tbl (ps ++ more))
section
variable {fs fs' ex ex':List Addr} {H H1 H2:Hp} {h h1 h2 h':Heap} {a x e:Addr} {o:HO}
theorem Un.any (u:Un fs ex H H1 h h1) {b:Addr} {ob:Obj} (q:h.get? b=some ob) (n:H b=none) (hx:b ∉ ex):∃ sl,h1.get? b=some { ob with slots:=sl }:=by
 by_cases hb:b∈fs
 ·exact u.slot b ob q n hb hx
 ·exact ⟨ob.slots,u.keep b ob q n hb hx⟩
theorem Un.kept (k:∀ b u,h.get? b=some u→h'.get? b=some u):Un fs ex H H h h' :=
 ⟨fun b ob q _ _ _=>k b ob q,fun b ob q _ _ _=>⟨ob.slots,k b ob q⟩,fun _ _ _ n _=>n,fun b ob q _=>⟨ob,k b ob q⟩,fun _ _ q=>q,fun _ _ _ q=>q,fun _ ps q=>⟨#[],by rw [q]; simp⟩⟩
theorem Un.refl:Un fs ex H H h h:=Un.kept fun _ _ q=>q
theorem Un.laid (k:∀ b u,h.get? b=some u→h'.get? b=some u) (hp:h.objs.size≤a) (hn:H a=none):Un fs ex H (upd H a o) h h' where
 keep:=fun b u q _ _ _=>k b u q
 slot:=fun b u q _ _ _=>⟨u.slots,k b u q⟩
 free:=fun b u q n _=>by rw [upd_ne (Nat.ne_of_lt (Nat.lt_of_lt_of_le (Heap.lt_size q) hp))]; exact n
 there:=fun b u q _=>⟨u,k b u q⟩
 tups:=fun b xs q=>by rw [upd_ne (ne_of_none q hn)]; exact q
 frzs:=fun b u xs q=>by rw [upd_ne (ne_of_none q hn)]; exact q
 tbls:=fun b ps q=>⟨#[],by rw [upd_ne (ne_of_none q hn),q]; simp⟩
theorem Un.write (mu:Mut (H x)) (he:e=x∨H e=some (.own x)) (k:∀ b u,b≠e→h.get? b=some u→h'.get? b=some u) (heo:∃ u,h'.get? e=some u):Un fs ex H (upd H x o) h h':=by
 have hx:∀ b,H b=none→b≠x:=fun b n z=>by subst z; rw [n] at mu; exact mu
 have hb:∀ b,H b=none→b≠e:=fun b n z=>by
  subst z
  rcases he with r | r
  ·exact hx b n r
  ·rw [n] at r; cases r
 have hm:∀ b u,H b=some u→¬ Mut (some u)→b≠x:=fun b u q nm z=>by subst z; rw [q] at mu; exact nm mu
 refine ⟨fun b u q n _ _=>k b u (hb b n) q,fun b u q n _ _=>⟨u.slots,k b u (hb b n) q⟩,fun b u q n _=>by rw [upd_ne (hx b n)]; exact n,fun b u q _=>?_,
  fun b xs q=>by rw [upd_ne (hm b _ q fun z=>z)]; exact q,fun b u xs q=>by rw [upd_ne (hm b _ q fun z=>z)]; exact q,fun b ps q=>⟨#[],by rw [upd_ne (hm b _ q fun z=>z),q]; simp⟩⟩
 by_cases hbe:b=e
 ·subst hbe; exact heo
 ·exact ⟨u,k b u hbe q⟩
end
def trk (h:Heap) (H:Hp):List Addr:=(List.range h.objs.size).filter fun a=>(H a).isSome
def hidT (h:Heap) (H:Hp):Heap:=PySem.W.hideAll h (trk h H)
theorem hidT_size (h:Heap) (H:Hp):(hidT h H).objs.size=h.objs.size:=PySem.W.hideAll_size _ _
theorem hidT_get {h:Heap} {H:Hp} {b:Addr} {o:Obj} (e:h.get? b=some o) (n:H b=none):(hidT h H).get? b=some o :=
 PySem.W.hideAll_get _ e fun hm=>by
  have q:(H b).isSome=true:=(List.mem_filter.mp hm).2
  rw [n] at q; simp at q
theorem of_hidT {h:Heap} {H:Hp} {b:Addr} {o:Obj} (e:(hidT h H).get? b=some o):h.get? b=some o∧H b=none:=by
 have e':h.get? b=some o:=PySem.W.of_hideAll (trk h H) e
 refine ⟨e',?_⟩
 cases q:H b with
 | none=>rfl
 | some x =>
  have hm:b∈trk h H:=List.mem_filter.mpr ⟨List.mem_range.mpr (Heap.lt_size e'),by simp [q]⟩
  have z:(hidT h H).get? b=none:=PySem.W.hideAll_none (trk h H) hm
  rw [z] at e; cases e
end L2
namespace L2
open PySem PySem.Spec PyProof.Rows
structure Mod (K:PySem.W.Frag) (mg:Str→Option Value) (base:Heap):Prop where
 kin:K.In base
 glob:base.Ns mainGlobals mg
 blt:∃ mb,base.Ns builtinsNs mb∧∀ x:Str,x ≠ "__name__" → mb x=bootBuiltins x
 nolimit:base.NoLimit
structure Cx where
 prog:Program
 w:World
 K:PySem.W.Frag
 mg:Str→Option Value
 base:Heap
 A:Around
 N:List Str
 s₀:Shared
 H₀:Hp
 env:Env
 outer:List Env
 stack:List Env
 ex:List Addr
 fn:Str→Bool
 calm:Bool
 pn:List (Addr×Obj)
 xe:Value→Shared→Prop
def frs (l:List Env):List Addr:=l.filterMap (·.frame)
abbrev Cx.fs (X:Cx):List Addr:=frs X.outer
def Vis (sc:Scope) (x:Str):Prop:=sc.names.lookup x=some .local∨sc.names.lookup x=some .cell∨sc.names.lookup x=some .free
def Loc (sc:Scope) (x:Str):Prop:=sc.names.lookup x=some .local∨sc.names.lookup x=some .cell
def Look (env:Env) (h:Heap) (m:Str→Option Value) (x:Str) (u:Value):Prop :=
 (env.kindOf x=some .local∧m x=some u)∨((env.kindOf x=some .cell∨env.kindOf x=some .free)∧∃ c,env.cells.lookup x=some c∧h.IsCell c (some u))
structure Cx.Ok (X:Cx):Prop where
 mod:Mod X.K X.mg X.base
 kind:X.env.scope.kind=.function
 glob:X.env.globals=mainGlobals
 blt:X.env.builtins=builtinsNs
 above:X.s₀.heap.objs.size≤X.env.locals
 inj:∀ x y c,X.env.cells.lookup x=some c→X.env.cells.lookup y=some c→x=y
 has:∀ x,(X.env.kindOf x=some .cell∨X.env.kindOf x=some .free)→∃ c,X.env.cells.lookup x=some c
 cab:∀ x c,X.fn x=true→X.env.cells.lookup x=some c→X.s₀.heap.objs.size≤c
 hd:X.calm=true→X.A.handled=none
 frames:X.A.frames=some X.stack
 stk:X.stack=X.outer∨(X.stack=X.env :: X.outer∧X.env.frame=some X.env.locals)
 exf:∀ b∈X.ex,b≠X.env.locals∧∀ x c,X.env.cells.lookup x=some c→c≠b
 bs:∀ b o,X.base.get? b=some o→X.s₀.heap.get? b=some o∧X.H₀ b=none
 bsz:X.base.objs.size≤X.s₀.heap.objs.size
 noex:∀ b o,X.base.get? b=some o→b ∉ X.ex
 exfs:∀ b∈X.ex,b ∉ X.fs
 funs:X.s₀.heap.FunFrames X.base X.outer
 frf:∀ b∈X.fs,X.H₀ b=none
 tab:TabsIn X.K X.H₀
structure Inv (X:Cx) (pins:List (Addr×Obj)) (σ:List (Option V)) (H:Hp) (s:Shared):Prop where
 ok:X.Ok
 os:s.os=X.s₀.os
 bare:AllBare s.gens
 base:Un X.fs X.ex X.H₀ H X.s₀.heap s.heap
 loc:∃ m,s.heap.Ns X.env.locals m∧∀ (i:Nat) (x:Str) (v:V),X.N[i]?=some x→σ[i]?=some (some v)→Vis X.env.scope x→∃ u,RelV v u∧Look X.env s.heap m x u
 cell:∀ x c,X.env.cells.lookup x=some c→∃ v,s.heap.IsCell c v
 free:H X.env.locals=none
 freeC:∀ x c,X.env.cells.lookup x=some c→H c=none
 pin:∀ p∈X.pn ++ pins,s.heap.get? p.1=some p.2∧H p.1=none∧p.1≠X.env.locals∧p.1 ∉ X.fs∧∀ v,p.2.data≠.cell v
 hok:HOk X.prog X.w H s.heap
 len:σ.length=X.N.length
section
variable {X:Cx} {pins:List (Addr×Obj)} {σ:List (Option V)} {H H':Hp} {s:Shared} {h':Heap}
theorem Cx.Ok.nofr (ok:X.Ok) {b:Addr} {o:Obj} (e:X.base.get? b=some o):b ∉ X.fs:=fun hb=>by
 have:=(ok.funs.mem hb).1
 rw [e] at this; cases this
theorem Inv.bs (I:Inv X pins σ H s):∀ b o,X.base.get? b=some o→s.heap.get? b=some o∧H b=none:=fun b o e =>
 ⟨I.base.keep b o (I.ok.bs b o e).1 (I.ok.bs b o e).2 (I.ok.nofr e) (I.ok.noex b o e),I.base.free b o (I.ok.bs b o e).1 (I.ok.bs b o e).2 (I.ok.noex b o e)⟩
theorem Inv.bk (I:Inv X pins σ H s):∀ b o,X.base.get? b=some o→s.heap.get? b=some o:=fun b o e=>(I.bs b o e).1
theorem TabsIn.grow {K:PySem.W.Frag} {H H':Hp} (x:TabsIn K H) (g:∀ b ps,H b=some (.tbl ps)→∃ more,H' b=some (.tbl (ps ++ more))):TabsIn K H':=fun p hp=>by
 obtain ⟨ps,t,e,q⟩:=x p hp
 obtain ⟨more,e'⟩:=g _ _ e
 refine ⟨_,t,e',?_⟩
 have:0 < ps.size:=by
  rcases Nat.eq_zero_or_pos ps.size with z | z
  ·rw [Array.getElem?_eq_none (by lia)] at q; cases q
  ·exact z
 rw [Array.getElem?_append_left this]; exact q
theorem Inv.tabs (I:Inv X pins σ H s):TabsIn X.K H:=I.ok.tab.grow I.base.tbls
theorem Inv.mod (I:Inv X pins σ H s):Mod X.K X.mg X.base:=I.ok.mod
theorem Inv.kIn (I:Inv X pins σ H s):X.K.In s.heap:=I.ok.mod.kin.keeps I.bk
theorem Inv.lt (I:Inv X pins σ H s):X.env.locals < s.heap.objs.size:=let ⟨_,hn,_⟩:=I.loc; hn.lt
theorem Inv.sz (I:Inv X pins σ H s):X.s₀.heap.objs.size≤s.heap.objs.size:=Nat.le_trans I.ok.above (Nat.le_of_lt I.lt)
theorem Inv.nofs (I:Inv X pins σ H s) {a:Addr} (h:s.heap.objs.size≤a):a ∉ X.fs:=fun hb=>by
 obtain ⟨_,o,ho,_⟩:=I.ok.funs.mem hb
 exact absurd (Nat.lt_of_lt_of_le (Heap.lt_size ho) (Nat.le_trans I.sz h)) (Nat.lt_irrefl _)
theorem Inv.cne (I:Inv X pins σ H s):∀ x c,X.env.cells.lookup x=some c→c≠X.env.locals:=fun x c e z=>by
 obtain ⟨v,o,ho,hd⟩:=I.cell x c e
 obtain ⟨m,⟨o',es,ep,ho',hd',_⟩,_⟩:=I.loc
 rw [z,ho'] at ho; cases ho; rw [hd'] at hd; cases hd
theorem Inv.funs (I:Inv X pins σ H s):s.heap.FunFrames X.base X.outer:=by
 have all:∀ (l:List Env),(∀ b∈frs l,b∈X.fs)→X.s₀.heap.FunFrames X.base l→s.heap.FunFrames X.base l:=by
  intro l
  induction l with
  | nil=>intro _ _; trivial
  | cons env r ih =>
   intro hs hl
   obtain ⟨hk,⟨L,o,hf,hn,ho,hd⟩,hr⟩:=hl
   have hL:L∈X.fs:=hs L (by unfold frs; rw [List.filterMap_cons,hf]; exact List.mem_cons_self)
   obtain ⟨sl,e⟩:=I.base.slot L o ho (I.ok.frf L hL) hL fun z=>I.ok.exfs L z hL
   exact ⟨hk,⟨L,_,hf,hn,e,hd⟩,ih (fun b hb=>hs b (by unfold frs; rw [List.filterMap_cons,hf]; exact List.mem_cons_of_mem _ hb)) hr⟩
 exact all X.outer (fun _ hb=>hb) I.ok.funs
theorem Inv.stack (I:Inv X pins σ H s):s.heap.FunFrames X.base X.stack:=by
 rcases I.ok.stk with e | ⟨e,hf⟩
 ·rw [e]; exact I.funs
 ·rw [e]
  obtain ⟨m,hn,_⟩:=I.loc
  refine .cons (by rw [I.ok.kind]; decide) hf hn ?_ I.funs
  exact Heap.get?_none_of_le (Nat.le_trans I.ok.bsz I.ok.above)
theorem Inv.stkSub (I:Inv X pins σ H s):∀ b∈frs X.stack,b∈X.env.locals :: X.fs:=fun b hb=>by
 rcases I.ok.stk with e | ⟨e,hf⟩
 ·rw [e] at hb; exact List.mem_cons_of_mem _ hb
 ·rw [e] at hb
  unfold frs at hb
  rw [List.filterMap_cons,hf] at hb
  exact hb
theorem Inv.stkFree (I:Inv X pins σ H s):∀ b∈frs X.stack,H b=none:=fun b hb=>by
 rcases List.mem_cons.mp (I.stkSub b hb) with e | hb
 ·rw [e]; exact I.free
 ·obtain ⟨_,o,ho,_⟩:=I.ok.funs.mem hb
  exact I.base.free b o ho (I.ok.frf b hb) fun z=>I.ok.exfs b z hb
theorem Inv.step {g':Array GenState} {t':Nat} {d':Drawn} {ch:List Addr} (I:Inv X pins σ H s)
  (hch:∀ b∈ch,(b∈X.ex∨X.s₀.heap.objs.size≤b)∧b≠X.env.locals∧(∀ x c,X.env.cells.lookup x=some c→c≠b)∧∀ p∈X.pn ++ pins,p.1≠b)
  (keep:∀ b o,b≠X.env.locals→b ∉ X.fs→b ∉ ch→s.heap.get? b=some o→H b=none→h'.get? b=some o)
  (slot:∀ b o,b≠X.env.locals→b∈X.fs→b ∉ ch→s.heap.get? b=some o→H b=none→∃ sl,h'.get? b=some { o with slots:=sl }) (free:∀ b o,b ∉ ch→s.heap.get? b=some o→H b=none→H' b=none)
  (there:∀ b o,b ∉ ch→s.heap.get? b=some o→∃ o',h'.get? b=some o')
  (tups:∀ b xs,H b=some (.tup xs)→H' b=some (.tup xs)) (frzs:∀ b o u,H b=some (.frz o u)→H' b=some (.frz o u)) (tbls:∀ b ps,H b=some (.tbl ps)→∃ more,H' b=some (.tbl (ps ++ more)))
  (ns:∀ m,s.heap.Ns X.env.locals m→h'.Ns X.env.locals m) (hok:HOk X.prog X.w H' h') (hg:AllBare g') :
  Inv X pins σ H' { s with heap:=h',gens:=g',drawn:=d',toks:=t' }:=by
 have neL:∀ b o,X.s₀.heap.get? b=some o→b≠X.env.locals:=fun b o e=>Nat.ne_of_lt (Nat.lt_of_lt_of_le (Heap.lt_size e) I.ok.above)
 have neC:∀ b o,X.s₀.heap.get? b=some o→b ∉ X.ex→b ∉ ch:=fun b o e hx hb=>by
  rcases (hch b hb).1 with z | z
  ·exact hx z
  ·exact absurd (Nat.lt_of_lt_of_le (Heap.lt_size e) z) (Nat.lt_irrefl _)
 have cellK:∀ x c,X.env.cells.lookup x=some c→∀ v,s.heap.IsCell c v→h'.IsCell c v:=fun x c e v ⟨o,ho,hd⟩=>by
  have nch:c ∉ ch:=fun z=>(hch c z).2.2.1 x c e rfl
  by_cases hc:c∈X.fs
  ·obtain ⟨sl,q⟩:=slot c o (I.cne x c e) hc nch ho (I.freeC x c e)
   exact ⟨_,q,hd⟩
  ·exact ⟨o,keep c o (I.cne x c e) hc nch ho (I.freeC x c e),hd⟩
 refine ⟨I.ok,I.os,hg,⟨fun b o e n hb hx=>?_,fun b o e n hb hx=>?_,fun b o e n hx=>?_,fun b o e hx=>?_,fun b xs e=>tups b xs (I.base.tups b xs e),fun b o xs e=>frzs b o xs (I.base.frzs b o xs e),fun b ps e=>?_⟩,?_,fun x c e=>?_,?_,fun x c e=>?_,fun p hp=>?_,hok,I.len⟩
 ·exact keep b o (neL b o e) hb (neC b o e hx) (I.base.keep b o e n hb hx) (I.base.free b o e n hx)
 ·obtain ⟨sl,e1⟩:=I.base.slot b o e n hb hx
  obtain ⟨sl',e2⟩:=slot b _ (neL b o e) hb (neC b o e hx) e1 (I.base.free b o e n hx)
  exact ⟨sl',e2⟩
 ·obtain ⟨o',e1⟩:=I.base.there b o e hx
  exact free b o' (neC b o e hx) e1 (I.base.free b o e n hx)
 ·obtain ⟨o',e1⟩:=I.base.there b o e hx
  exact there b o' (neC b o e hx) e1
 ·obtain ⟨m1,e1⟩:=I.base.tbls b ps e
  obtain ⟨m2,e2⟩:=tbls b _ e1
  exact ⟨m1 ++ m2,by rw [e2,Array.append_assoc]⟩
 ·obtain ⟨m,hn,hl⟩:=I.loc
  refine ⟨m,ns m hn,fun i x v e1 e2 e3=>?_⟩
  obtain ⟨u,r,l⟩:=hl i x v e1 e2 e3
  refine ⟨u,r,?_⟩
  rcases l with l | ⟨k,c,e,z⟩
  ·exact .inl l
  ·exact .inr ⟨k,c,e,cellK x c e _ z⟩
 ·obtain ⟨v,z⟩:=I.cell x c e
  exact ⟨v,cellK x c e v z⟩
 ·obtain ⟨m,⟨o,_,_,ho,_⟩,_⟩:=I.loc
  exact free _ o (fun z=>(hch _ z).2.1 rfl) ho I.free
 ·obtain ⟨v,o,ho,hd⟩:=I.cell x c e
  exact free c o (fun z=>(hch c z).2.2.1 x c e rfl) ho (I.freeC x c e)
 ·obtain ⟨e,n,ne,nf,d⟩:=I.pin p hp
  have nch:p.1 ∉ ch:=fun z=>(hch p.1 z).2.2.2 p hp rfl
  exact ⟨keep p.1 p.2 ne nf nch e n,free p.1 p.2 nch e n,ne,nf,d⟩
theorem Inv.un {t':Nat} (I:Inv X pins σ H s) (u:Un X.fs [] H H' s.heap h') (hok:HOk X.prog X.w H' h'):Inv X pins σ H' { s with heap:=h',toks:=t' }:=by
 obtain ⟨m,⟨o,es,ep,ho,r⟩,_⟩:=id I.loc
 obtain ⟨sl,hL⟩:=u.any ho I.free (by simp)
 exact I.step (g':=s.gens) (d':=s.drawn) (ch:=[]) (fun _ z=>nomatch z) (fun b o _ hb _ e n=>u.keep b o e n hb (by simp)) (fun b o _ hb _ e n=>u.slot b o e n hb (by simp)) (fun b o _ e n=>u.free b o e n (by simp)) (fun b o _ e=>u.there b o e (by simp)) u.tups u.frzs u.tbls (fun m' hm=>by
  obtain ⟨o',es',ep',ho',r'⟩:=hm
  rw [ho] at ho'; cases ho'
  exact ⟨_,es',ep',hL,r'⟩) hok I.bare
theorem Inv.call {g':Array GenState} {t':Nat} {d':Drawn} {ch:List Addr} (I:Inv X pins σ H s) (u:Un (frs X.stack) ch H H' s.heap h') (hok:HOk X.prog X.w H' h') (hg:AllBare g')
  (hch:∀ b∈ch,(b∈X.ex∨X.s₀.heap.objs.size≤b)∧b≠X.env.locals∧(∀ x c,X.env.cells.lookup x=some c→c≠b)∧∀ p∈X.pn ++ pins,p.1≠b) :
  Inv X pins σ H' { s with heap:=h',gens:=g',drawn:=d',toks:=t' }:=by
 obtain ⟨m,⟨o,es,ep,ho,r⟩,_⟩:=id I.loc
 obtain ⟨sl,hL⟩:=u.any ho I.free fun z=>(hch _ z).2.1 rfl
 exact I.step (ch:=ch) hch (fun b o hL hb hc e n=>u.keep b o e n (fun z=>(List.mem_cons.mp (I.stkSub b z)).elim hL hb) hc) (fun b o _ _ hc e n=>u.any e n hc) (fun b o hc e n=>u.free b o e n hc) (fun b o hc e=>u.there b o e hc) u.tups u.frzs u.tbls (fun m' hm=>by
  obtain ⟨o',es',ep',ho',r'⟩:=hm
  rw [ho] at ho'; cases ho'
  exact ⟨_,es',ep',hL,r'⟩) hok hg
theorem Inv.turned {t':Nat} {it:Addr} (I:Inv X pins σ H s) (k:∀ b o,b≠it→s.heap.get? b=some o→h'.get? b=some o) (hn:H it=none) (hL:it≠X.env.locals)
  (h1:it∈X.ex∨X.s₀.heap.objs.size≤it) (h2:∀ x c,X.env.cells.lookup x=some c→c≠it) (h3:∀ p∈X.pn ++ pins,p.1≠it):Inv X pins σ H { s with heap:=h',toks:=t' }:=by
 have nit:∀ b u,H b=some u→b≠it:=fun b u e z=>by rw [z,hn] at e; cases e
 refine I.step (g':=s.gens) (d':=s.drawn) (ch:=[it]) (fun b hb=>?_) (fun b o _ _ hc e _=>k b o (fun z=>hc (by simp [z])) e) (fun b o _ _ hc e _=>⟨o.slots,k b o (fun z=>hc (by simp [z])) e⟩) (fun _ _ _ _ n=>n)
  (fun b o hc e=>⟨o,k b o (fun z=>hc (by simp [z])) e⟩) (fun _ _ e=>e) (fun _ _ _ e=>e) (fun b ps e=>⟨#[],by rw [e]; simp⟩) (fun m hm=>?_) (fun b u e=>?_) I.bare
 ·have e:b=it:=by simpa using hb
  subst e
  exact ⟨h1,hL,h2,h3⟩
 ·obtain ⟨o,es,ep,ho,r⟩:=hm
  exact ⟨o,es,ep,k _ o (Ne.symm hL) ho,r⟩
 ·refine (I.hok b u e).stay (fun c v hc q=>k c v ?_ q) (fun _ q=>q) (fun _ _ q=>q) fun _ _ _ q=>q
  rcases hc with z | z
  ·rw [z]; exact nit b u e
  ·exact nit c _ z
theorem Inv.tok (I:Inv X pins σ H s) (t:Nat):Inv X pins σ H { s with toks:=t }:=I.un (h':=s.heap) (t':=t) Un.refl I.hok
theorem Inv.kept {t':Nat} (I:Inv X pins σ H s) (k:∀ b u,s.heap.get? b=some u→h'.get? b=some u):Inv X pins σ H { s with heap:=h',toks:=t' }:=I.un (Un.kept k) (I.hok.kept k)
theorem Inv.laid {a:Addr} {o:HO} {t':Nat} (I:Inv X pins σ H s) (k:∀ b u,s.heap.get? b=some u→h'.get? b=some u) (hp:s.heap.objs.size≤a) (new:ObjOk X.prog X.w (upd H a o) h' a o) :
  Inv X pins σ (upd H a o) { s with heap:=h',toks:=t' }:=I.un (Un.laid k hp (I.hok.fresh hp)) (I.hok.laid k hp new)
theorem Inv.write {x e:Addr} {o:HO} {t':Nat} (I:Inv X pins σ H s) (mu:Mut (H x)) (he:e=x∨H e=some (.own x)) (k:∀ b u,b≠e→s.heap.get? b=some u→h'.get? b=some u) (heo:∃ u,h'.get? e=some u)
  (new:ObjOk X.prog X.w (upd H x o) h' x o):Inv X pins σ (upd H x o) { s with heap:=h',toks:=t' }:=I.un (Un.write mu he k heo) (I.hok.write mu he k heo new)
theorem Inv.pins_of {pins':List (Addr×Obj)} (I:Inv X pins σ H s) (h:∀ p∈pins',s.heap.get? p.1=some p.2∧H p.1=none∧p.1≠X.env.locals∧p.1 ∉ X.fs∧∀ v,p.2.data≠.cell v):Inv X pins' σ H s :=
 ⟨I.ok,I.os,I.bare,I.base,I.loc,I.cell,I.free,I.freeC,fun p hp=>(List.mem_append.mp hp).elim (fun z=>I.pin p (List.mem_append_left _ z)) (h p),I.hok,I.len⟩
theorem nodup_ix {N:List Str} (hN:N.Nodup) {i j:Nat} {x:Str} (a:N[i]?=some x) (b:N[j]?=some x):i=j:=by
 obtain ⟨h1,e1⟩:=List.getElem?_eq_some_iff.mp a
 obtain ⟨h2,e2⟩:=List.getElem?_eq_some_iff.mp b
 exact (List.getElem_inj hN).mp (e1.trans e2.symm)
theorem store_ok2 {M:Model} {A:Around} {E:Value→Shared→Prop} {i:Nat} {x:Str} {v:V} {u:Value} {Q:Unit→Shared→Prop} (I:Inv X pins σ H s) (hN:X.N.Nodup) (hi:X.N[i]?=some x) (hx:Loc X.env.scope x) (r:RelV v u)
  (h:∀ s',Inv X pins (σ.set i (some v)) H s'→(∃ a,Heap.SameBut a s.heap s'.heap∧(a=X.env.locals∨X.env.cells.lookup x=some a))→Q () s') (hf:X.fn x=true∨X.env.scope.names.lookup x=some .local:=by first | exact .inl rfl | exact .inr rfl | assumption):wpAny M A (storeName X.env x u) Q E s:=by
 obtain ⟨m,hn,hl⟩:=id I.loc
 have hcls:(X.env.scope.kind == .class || (X.env.scope.kind == .module && X.env.locals != X.env.globals))=false:=by rw [I.ok.kind]; rfl
 have hiσ:i < σ.length:=by rw [I.len]; exact (List.getElem?_eq_some_iff.mp hi).1
 have cne:=I.cne
 have tracked:∀ {a:Addr} {h':Heap},(∃ o,s.heap.get? a=some o∧H a=none)→Heap.SameBut a s.heap h'→HOk X.prog X.w H h':=fun {a h'} ha hs b ob e=>by
  obtain ⟨_,_,hfree⟩:=ha
  refine (I.hok b ob e).stay (fun c w' hc q=>(hs.2 c ?_).trans q) (fun _ q=>q) (fun _ _ q=>q) fun _ _ _ q=>q
  rintro rfl
  rcases hc with rfl | hc
  ·rw [hfree] at e; cases e
  ·rw [hfree] at hc; cases hc
 rcases hx with hk | hk
 ·refine wpAny_storeName_local hk hn (fun h' hn' hs=>?_) hcls
  obtain ⟨oL,_,_,hoL,_⟩:=id hn
  refine h _ ⟨I.ok,I.os,I.bare,⟨fun b o e n hb hx=>?_,fun b o e n hb hx=>?_,I.base.free,fun b o e hx=>?_,I.base.tups,I.base.frzs,I.base.tbls⟩,⟨_,hn',fun j y v' e1 e2 e3=>?_⟩,fun y c e=>?_,I.free,I.freeC,fun p hp=>?_,tracked ⟨oL,hoL,I.free⟩ hs,by simpa using I.len⟩ ⟨_,hs,.inl rfl⟩
  ·exact (hs.2 b (Nat.ne_of_lt (Nat.lt_of_lt_of_le (Heap.lt_size e) I.ok.above))).trans (I.base.keep b o e n hb hx)
  ·obtain ⟨sl,e1⟩:=I.base.slot b o e n hb hx
   exact ⟨sl,(hs.2 b (Nat.ne_of_lt (Nat.lt_of_lt_of_le (Heap.lt_size e) I.ok.above))).trans e1⟩
  ·obtain ⟨o',e1⟩:=I.base.there b o e hx
   exact ⟨o',(hs.2 b (Nat.ne_of_lt (Nat.lt_of_lt_of_le (Heap.lt_size e) I.ok.above))).trans e1⟩
  ·by_cases hj:j=i
   ·subst hj
    rw [hi] at e1; cases e1
    rw [List.getElem?_set_self hiσ] at e2
    cases e2
    exact ⟨u,r,.inl ⟨hk,by simp⟩⟩
   ·rw [List.getElem?_set_ne (Ne.symm hj)] at e2
    obtain ⟨u',r',q⟩:=hl j y v' e1 e2 e3
    refine ⟨u',r',?_⟩
    rcases q with ⟨k,e⟩ | ⟨k,c,e,z⟩
    ·refine .inl ⟨k,?_⟩
     have:y≠x:=fun e=>hj (nodup_ix hN e1 (e ▸ hi))
     simp [this,e]
    ·exact .inr ⟨k,c,e,z.sameBut hs (cne y c e)⟩
  ·obtain ⟨w',z⟩:=I.cell y c e
   exact ⟨w',z.sameBut hs (cne y c e)⟩
  ·obtain ⟨e,n,ne,nf,d⟩:=I.pin p hp
   exact ⟨(hs.2 p.1 ne).trans e,n,ne,nf,d⟩
 ·have hfn:X.fn x=true:=by
   rcases hf with z | z
   ·exact z
   ·rw [z] at hk; cases hk
  obtain ⟨c,hc⟩:=I.ok.has x (.inl hk)
  obtain ⟨w',z⟩:=I.cell x c hc
  refine wpAny_storeName_cell I.ok.kind hk hc z (fun h' hc' hs=>?_)
  obtain ⟨oc,hoc,hocd⟩:=id z
  refine h { s with heap:=h' } ⟨I.ok,I.os,I.bare,⟨fun b o e n hb hx=>?_,fun b o e n hb hx=>?_,I.base.free,fun b o e hx=>?_,I.base.tups,I.base.frzs,I.base.tbls⟩,⟨m,hn.sameBut hs (Ne.symm (cne x c hc)),fun j y v' e1 e2 e3=>?_⟩,fun y c' e=>?_,I.free,I.freeC,fun p hp=>?_,tracked ⟨oc,hoc,I.freeC x c hc⟩ hs,by simpa using I.len⟩ ⟨c,hs,.inr hc⟩
  ·exact (hs.2 b (Nat.ne_of_lt (Nat.lt_of_lt_of_le (Heap.lt_size e) (I.ok.cab x c hfn hc)))).trans (I.base.keep b o e n hb hx)
  ·obtain ⟨sl,e1⟩:=I.base.slot b o e n hb hx
   exact ⟨sl,(hs.2 b (Nat.ne_of_lt (Nat.lt_of_lt_of_le (Heap.lt_size e) (I.ok.cab x c hfn hc)))).trans e1⟩
  ·obtain ⟨o',e1⟩:=I.base.there b o e hx
   exact ⟨o',(hs.2 b (Nat.ne_of_lt (Nat.lt_of_lt_of_le (Heap.lt_size e) (I.ok.cab x c hfn hc)))).trans e1⟩
  ·by_cases hj:j=i
   ·subst hj
    rw [hi] at e1; cases e1
    rw [List.getElem?_set_self hiσ] at e2
    cases e2
    exact ⟨u,r,.inr ⟨.inl hk,c,hc,hc'⟩⟩
   ·rw [List.getElem?_set_ne (Ne.symm hj)] at e2
    obtain ⟨u',r',q⟩:=hl j y v' e1 e2 e3
    refine ⟨u',r',?_⟩
    rcases q with q | ⟨k,c',e,z'⟩
    ·exact .inl q
    ·refine .inr ⟨k,c',e,z'.sameBut hs ?_⟩
     rintro rfl
     exact hj (nodup_ix hN e1 (I.ok.inj _ _ _ e hc ▸ hi))
  ·by_cases hcc:c'=c
   ·subst hcc; exact ⟨_,hc'⟩
   ·obtain ⟨w2,z2⟩:=I.cell y c' e
    exact ⟨w2,z2.sameBut hs hcc⟩
  ·obtain ⟨e,n,ne,nf,d⟩:=I.pin p hp
   refine ⟨(hs.2 p.1 ?_).trans e,n,ne,nf,d⟩
   intro q
   rw [q,hoc] at e
   have q':oc=p.2:=Option.some.inj e
   exact d w' (by rw [← q']; exact hocd)
theorem store_ok {M:Model} {A:Around} {E:Value→Shared→Prop} {i:Nat} {x:Str} {v:V} {u:Value} {Q:Unit→Shared→Prop} (I:Inv X pins σ H s) (hN:X.N.Nodup) (hi:X.N[i]?=some x) (hx:Loc X.env.scope x) (r:RelV v u)
  (h:∀ s',Inv X pins (σ.set i (some v)) H s'→Q () s') (hf:X.fn x=true∨X.env.scope.names.lookup x=some .local:=by first | exact .inl rfl | exact .inr rfl | assumption):wpAny M A (storeName X.env x u) Q E s :=
 store_ok2 I hN hi hx r (fun s' I' _=>h s' I') hf
theorem Inv.call' {s':Shared} {ch:List Addr} (I:Inv X pins σ H s) (ho:s'.os=s.os) (u:Un (frs X.stack) ch H H' s.heap s'.heap) (hok:HOk X.prog X.w H' s'.heap) (hg:AllBare s'.gens)
  (hch:∀ b∈ch,(b∈X.ex∨X.s₀.heap.objs.size≤b)∧b≠X.env.locals∧(∀ x c,X.env.cells.lookup x=some c→c≠b)∧∀ p∈X.pn ++ pins,p.1≠b):Inv X pins σ H' s':=by
 obtain ⟨h',g',d',t',o'⟩:=s'
 have e:o'=s.os:=ho
 subst e
 exact I.call (g':=g') (t':=t') (d':=d') u hok hg hch
end
abbrev XK:=Value→Option Addr→Hp→Prop
abbrev St:=List (Option V)
abbrev VK:=V→Hp→Prop
abbrev TE:=St→Hp→VK→Prop
abbrev TT:=St→Hp→(Bool→Hp→Prop)→Prop
abbrev TA:=St→Hp→(List V→Hp→Prop)→Prop
structure Ends where
 nx:St→Hp→Prop
 rt:VK
 bk:St→Hp→Prop:=fun _ _=>False
 ct:St→Hp→Prop:=fun _ _=>False
abbrev TS:=Ends→St→Hp→Prop
def EP (X:Cx) (pins:List (Addr×Obj)) (σ:St) (Q:VK) (u:Value) (s':Shared):Prop:=∃ v H',Inv X pins σ H' s'∧RelV v u∧Q v H'
def TP (X:Cx) (pins:List (Addr×Obj)) (σ:St) (Q:Bool→Hp→Prop) (b:Bool) (s':Shared):Prop:=∃ H',Inv X pins σ H' s'∧Q b H'
def AP (X:Cx) (pins:List (Addr×Obj)) (σ:St) (Q:List V→Hp→Prop) (us:List Value) (s':Shared):Prop:=∃ vs H',Inv X pins σ H' s'∧Vals vs us∧Q vs H'
def SP (X:Cx) (pins:List (Addr×Obj)) (D:Ends) (f:Flow) (s':Shared):Prop :=
 match f with
 | .next=>∃ σ' H',Inv X pins σ' H' s'∧D.nx σ' H'
 | .brk=>∃ σ' H',Inv X pins σ' H' s'∧D.bk σ' H'
 | .cont=>∃ σ' H',Inv X pins σ' H' s'∧D.ct σ' H'
 | .ret u=>∃ v σ' H',Inv X pins σ' H' s'∧RelV v u∧D.rt v H'
def PE (X:Cx) (e:Expr) (t:TE):Prop :=
 ∀ (pins:List (Addr×Obj)) (s:Shared) (σ:St) (H:Hp) (Q:VK),Inv X pins σ H s→t σ H Q→wpAny (model X.prog X.w) X.A (eval e X.env) (EP X pins σ Q) X.xe s
def PT (X:Cx) (e:Expr) (t:TT):Prop :=
 ∀ (pins:List (Addr×Obj)) (s:Shared) (σ:St) (H:Hp) (Q:Bool→Hp→Prop),Inv X pins σ H s→t σ H Q→wpAny (model X.prog X.w) X.A (isTrue e X.env (eval e X.env)) (TP X pins σ Q) X.xe s
def PW (X:Cx) (e:Expr) (t:TT):Prop :=
 ∀ (whole:Sem Value) (pins:List (Addr×Obj)) (s:Shared) (σ:St) (H:Hp) (Q:Bool→Hp→Prop),Inv X pins σ H s→t σ H Q→wpAny (model X.prog X.w) X.A (isTrue e X.env whole) (TP X pins σ Q) X.xe s
theorem PW.pt {X:Cx} {e:Expr} {t:TT} (h:PW X e t):PT X e t:=h _
def PA (X:Cx) (es:List Expr) (t:TA):Prop :=
 ∀ (pos:Pos) (pins:List (Addr×Obj)) (s:Shared) (σ:St) (H:Hp) (Q:List V→Hp→Prop),Inv X pins σ H s→t σ H Q→wpAny (model X.prog X.w) X.A (spliced (backTo pos (starEach es X.env))) (AP X pins σ Q) X.xe s
def PS (X:Cx) (st:Stmt) (t:TS):Prop :=
 ∀ (pins:List (Addr×Obj)) (s:Shared) (σ:St) (H:Hp) (D:Ends),Inv X pins σ H s→t D σ H→wpAny (model X.prog X.w) X.A (exec st X.env) (SP X pins D) X.xe s
def PSs (X:Cx) (st:List Stmt) (t:TS):Prop :=
 ∀ (pins:List (Addr×Obj)) (s:Shared) (σ:St) (H:Hp) (D:Ends),Inv X pins σ H s→t D σ H→wpAny (model X.prog X.w) X.A (execs st X.env) (SP X pins D) X.xe s
theorem thn {α:Type} {t:Sem α} {Q Q':α→Shared→Prop} {M:Model} {A:Around} {E:Value→Shared→Prop} {s:Shared} (h:wpAny M A t Q E s) (hQ:∀ a s,Q a s→Q' a s):wpAny M A t Q' E s:=wpAny_mono h hQ fun _ _ x=>x
end L2
namespace L2
open PySem PySem.Spec PyProof.Rows
section
variable {X:Cx}
def tVar (i:Nat):TE:=fun σ H Q=>∃ v,σ[i]?=some (some v)∧Q v H
def tC (v:V):TE:=fun _ H Q=>Q v H
theorem pe_var {i:Nat} {x:Str} {pos:Pos} (hN:X.N[i]?=some x) (hv:Vis X.env.scope x) (hd:(x == ("__debug__" : Str))=false:=by decide) (hcd:(x == ("__classdict__" : Str))=false:=by decide):PE X (.Name x pos) (tVar i):=by
 intro pins s σ H Q I h
 obtain ⟨v,e,h⟩:=h
 obtain ⟨m,hn,hl⟩:=I.loc
 obtain ⟨u,r,l⟩:=hl i x v hN e hv
 have fin:EP X pins σ Q u s:=⟨v,H,I,r,h⟩
 rcases l with ⟨hk,hm⟩ | ⟨hk,c,hc,hcell⟩
 ·exact wpAny_Name (wpAny_loadName_local I.ok.kind hk hn hm fin) hd
 ·rcases hk with hk | hk
  ·exact wpAny_Name (wpAny_loadName_cell I.ok.kind hk hc hcell fin) hd
  ·exact wpAny_Name (wpAny_loadName_free I.ok.kind hk hc hcell fin hcd) hd
theorem pe_int {i j pos}:PE X (.Constant (.int i) j pos) (tC (.int i)):=fun _ _ _ H _ I h=>wpAny_Constant_int ⟨.int i,H,I.tok _,⟨_,rfl⟩,h⟩
theorem pe_bl {b j pos}:PE X (.Constant (.bool b) j pos) (tC (.bl b)):=fun _ _ _ H _ I h=>Constant_bool ⟨.bl b,H,I,rfl,h⟩
def Gl (X:Cx) (x:Str):Prop:=X.env.kindOf x=some .globalImplicit
theorem ld_glob {E:Value→Shared→Prop} {pins:List (Addr×Obj)} {s:Shared} {σ:St} {H:Hp} {x:Str} {u:Value} {pos:Pos} {Q:Value→Shared→Prop} (I:Inv X pins σ H s) (hg:Gl X x) (hm:X.mg x=some u) (h:Q u s)
  (hd:(x == ("__debug__" : Str))=false:=by decide):wpAny (model X.prog X.w) X.A (eval (.Name x pos) X.env) Q E s :=
 Calls.Name_function_global I.ok.kind hg (Calls.loadGlobal_global (by rw [I.ok.glob]; exact I.mod.glob.keeps I.bk) hm h) hd
theorem ld_blt {E:Value→Shared→Prop} {pins:List (Addr×Obj)} {s:Shared} {σ:St} {H:Hp} {x:Str} {u:Value} {pos:Pos} {Q:Value→Shared→Prop} (I:Inv X pins σ H s) (hg:Gl X x) (hm:X.mg x=none) (hv:bootBuiltins x=some u) (h:Q u s)
  (hn:x ≠ "__name__" := by decide) (hd:(x == ("__debug__" : Str))=false:=by decide):wpAny (model X.prog X.w) X.A (eval (.Name x pos) X.env) Q E s:=by
 obtain ⟨mb,h1,h2⟩:=I.mod.blt
 exact Calls.Name_function_global I.ok.kind hg (Calls.loadGlobal_builtin (by rw [I.ok.glob]; exact I.mod.glob.keeps I.bk) hm (by rw [I.ok.blt]; exact h1.keeps I.bk) ((h2 x hn).trans hv) h) hd
theorem pe_glob {x:Str} {v:V} {u:Value} {pos:Pos} (hg:Gl X x) (hm:X.mg x=some u) (r:RelV v u) (hd:(x == ("__debug__" : Str))=false:=by decide):PE X (.Name x pos) (tC v) :=
 fun _ _ _ H _ I h=>ld_glob I hg hm ⟨v,H,I,r,h⟩ hd
theorem pe_bltn {x:Str} {v:V} {u:Value} {pos:Pos} (hg:Gl X x) (hm:X.mg x=none) (hv:bootBuiltins x=some u) (r:RelV v u) (hn:x ≠ "__name__" := by decide) (hd:(x == ("__debug__" : Str))=false:=by decide):PE X (.Name x pos) (tC v) :=
 fun _ _ _ H _ I h=>ld_blt I hg hm hv ⟨v,H,I,r,h⟩ hn hd
variable {a b:Expr} {ta tb:TE} {pos:Pos}
def tB (t:TE):TT:=fun σ H Q=>t σ H fun x H1=>∃ c,x=.bl c∧Q c H1
theorem pt_val {e:Expr} {t:TE} (h:PE X e t) (he:∀ whole,isTrue e X.env whole=(do let v ← whole; standAt e.pos; holding [v] (truthy v)):=by intro _; rfl):PT X e (tB t):=by
 intro pins s σ H Q I hw
 refine isTrue_plain (thn (h pins s σ H _ I hw) fun v s1 ⟨x,H1,I1,r1,q1⟩=>?_) (he _)
 obtain ⟨d,rfl,q⟩:=q1
 cases r1
 exact wpAny_truthy_bool ⟨H1,I1,q⟩
variable {tA tB':TT} {rest:List Expr}
def tAnd (t u:TT):TT:=fun σ H Q=>t σ H fun c H1=>if c=true then u σ H1 Q else Q false H1
def tOr (t u:TT):TT:=fun σ H Q=>t σ H fun c H1=>if c=true then Q true H1 else u σ H1 Q
def tNot (t:TT):TT:=fun σ H Q=>t σ H fun c H1=>Q (!c) H1
theorem pw_and1 (ha:PT X a tA):PW X (.BoolOp .And [a] pos) tA:=by
 intro wh pins s σ H Q I h
 refine isTrue_and (thn (ha pins s σ H Q I h) fun c s1 e=>?_)
 cases c with
 | true=>exact isTrue_and_nil e
 | false=>exact e
theorem pw_or1 (ha:PT X a tA):PW X (.BoolOp .Or [a] pos) tA:=by
 intro wh pins s σ H Q I h
 refine isTrue_or (thn (ha pins s σ H Q I h) fun c s1 e=>?_)
 cases c with
 | false=>exact isTrue_or_nil e
 | true=>exact e
theorem pw_and (ha:PT X a tA) (hb:PW X (.BoolOp .And (b :: rest) pos) tB'):PW X (.BoolOp .And (a :: b :: rest) pos) (tAnd tA tB'):=by
 intro wh pins s σ H Q I h
 refine isTrue_and (thn (ha pins s σ H _ I h) fun c s1 ⟨H1,I1,q1⟩=>?_)
 cases c with
 | true=>exact hb wh pins s1 σ H1 Q I1 q1
 | false=>exact ⟨H1,I1,q1⟩
theorem pw_or (ha:PT X a tA) (hb:PW X (.BoolOp .Or (b :: rest) pos) tB'):PW X (.BoolOp .Or (a :: b :: rest) pos) (tOr tA tB'):=by
 intro wh pins s σ H Q I h
 refine isTrue_or (thn (ha pins s σ H _ I h) fun c s1 ⟨H1,I1,q1⟩=>?_)
 cases c with
 | true=>exact ⟨H1,I1,q1⟩
 | false=>exact hb wh pins s1 σ H1 Q I1 q1
theorem pt_not (ha:PT X a tA):PT X (.UnaryOp .Not a pos) (tNot tA):=by
 intro pins s σ H Q I h
 exact isTrue_not (ha pins s σ H (fun c H1=>Q (!c) H1) I h)
def tAndV (ta tb:TE):TE:=fun σ H Q=>ta σ H fun x H1=>∃ c,x=.bl c∧if c=true then tb σ H1 Q else Q (.bl false) H1
def tOrV (ta tb:TE):TE:=fun σ H Q=>ta σ H fun x H1=>∃ c,x=.bl c∧if c=true then Q (.bl true) H1 else tb σ H1 Q
def tNotV (ta:TE):TE:=fun σ H Q=>ta σ H fun x H1=>∃ c,x=.bl c∧Q (.bl (!c)) H1
theorem pe_one {op} {t:TE} (h:PE X a t):PE X (.BoolOp op [a] pos) t:=fun pins s σ H Q I hw=>BoolOp_one (h pins s σ H Q I hw)
theorem pe_and (ha:PE X a ta) (hb:PE X (.BoolOp .And (b :: rest) pos) tb):PE X (.BoolOp .And (a :: b :: rest) pos) (tAndV ta tb):=by
 intro pins s σ H Q I h
 refine BoolOp_and (thn (ha pins s σ H _ I h) fun v s1 ⟨x,H1,I1,r1,q1⟩=>?_)
 obtain ⟨c,rfl,q1⟩:=q1
 cases r1
 refine wpAny_truthy_bool ?_
 cases c with
 | true=>exact hb pins s1 σ H1 Q I1 q1
 | false=>exact ⟨.bl false,H1,I1,rfl,q1⟩
theorem pe_or (ha:PE X a ta) (hb:PE X (.BoolOp .Or (b :: rest) pos) tb):PE X (.BoolOp .Or (a :: b :: rest) pos) (tOrV ta tb):=by
 intro pins s σ H Q I h
 refine BoolOp_or (thn (ha pins s σ H _ I h) fun v s1 ⟨x,H1,I1,r1,q1⟩=>?_)
 obtain ⟨c,rfl,q1⟩:=q1
 cases r1
 refine wpAny_truthy_bool ?_
 cases c with
 | false=>exact hb pins s1 σ H1 Q I1 q1
 | true=>exact ⟨.bl true,H1,I1,rfl,q1⟩
theorem pe_not (ha:PE X a ta):PE X (.UnaryOp .Not a pos) (tNotV ta):=by
 intro pins s σ H Q I h
 refine UnaryOp_ (thn (ha pins s σ H _ I h) fun v s1 ⟨x,H1,I1,r1,q1⟩=>?_)
 obtain ⟨c,rfl,q1⟩:=q1
 cases r1
 exact not_of (wpAny_truthy_bool ⟨.bl (!c),H1,I1,rfl,q1⟩)
def tIf (t:TT) (ta tb:TE):TE:=fun σ H Q=>t σ H fun c H1=>if c=true then ta σ H1 Q else tb σ H1 Q
theorem pe_ifExp {c:Expr} (hc:PT X c tA) (ha:PE X a ta) (hb:PE X b tb):PE X (.IfExp c a b pos) (tIf tA ta tb):=by
 intro pins s σ H Q I h
 refine wpAny_IfExp (thn (hc pins s σ H _ I h) fun d s1 ⟨H1,I1,q1⟩=>?_)
 cases d with
 | true=>exact ha pins s1 σ H1 Q I1 q1
 | false=>exact hb pins s1 σ H1 Q I1 q1
end
end L2
namespace L2
open PySem PySem.Spec PyProof.Rows
def SqL (K:PySem.W.Frag) (H:Hp) (a:Addr) (xs:List V):Prop :=
 Rd H a (.lst xs) ∨
  ∃ (o:Obj) (its:Array Value) (n:Nat),K.lookup a=some o∧o.cls=.type "list" ∧ o.dict=none∧o.data=.seq its n∧its.size≤sizeLine∧Vals xs its.toList
def SqT (K:PySem.W.Frag) (H:Hp) (a:Addr) (xs:List V):Prop :=
 Rd H a (.tup xs) ∨
  ∃ (o:Obj) (its:Array Value) (n:Nat),K.lookup a=some o∧o.cls=.type "tuple" ∧ o.data=.seq its n∧its.size≤sizeLine∧Vals xs its.toList
def absV:Value→Option V
 | .none=>some .non
 | .bool b=>some (.bl b)
 | .int i _=>some (.int i)
 | .str x _=>some (.str x)
 | .bytes b _=>some (.byt b)
 | .float b _=>some (.flt b)
 | .ref a=>some (.ref a)
 | .type n=>some (.ty n)
 | _=>none
theorem RelV.abs {x:V} {u:Value} (r:RelV x u):absV u=some x:=by
 cases x with
 | non=>cases r; rfl
 | bl _=>cases r; rfl
 | int _=>obtain ⟨t,rfl⟩:=r; rfl
 | str _=>obtain ⟨t,rfl⟩:=r; rfl
 | byt _=>obtain ⟨t,rfl⟩:=r; rfl
 | flt _=>obtain ⟨t,rfl⟩:=r; rfl
 | ref _=>cases r; rfl
 | ty _=>cases r; rfl
theorem RelV.inj {x y:V} {u:Value} (r:RelV x u) (q:RelV y u):x=y:=Option.some.inj (r.abs.symm.trans q.abs)
theorem Vals.inj:∀ {xs ys:List V} {us:List Value},Vals xs us→Vals ys us→xs=ys
 | _,_,_,.nil,.nil=>rfl
 | _,_,_,.cons r t,.cons r' t'=>by rw [r.inj r',Vals.inj t t']
section
variable {X:Cx} {pins:List (Addr×Obj)} {σ:St} {H:Hp} {s:Shared} {a:Addr} {xs ys:List V}
theorem SqL.of {K:PySem.W.Frag} (h:H a=some (.lst xs)):SqL K H a xs:=.inl (.inl h)
theorem SqT.of {K:PySem.W.Frag} (h:H a=some (.tup xs)):SqT K H a xs:=.inl (.inl h)
theorem Inv.list (I:Inv X pins σ H s) (h:SqL X.K H a xs):∃ its:List Value,Vals xs its∧PlainL s.heap a its.toArray∧xs.length≤sizeLine:=by
 rcases h with h | ⟨o,its,n,hk,hc,hd,hs,hz,r⟩
 ·obtain ⟨z,its,n,r,e⟩:=h.ok I.hok
  exact ⟨its,r,⟨_,n,e,rfl,rfl,rfl⟩,z⟩
 ·refine ⟨its.toList,r,⟨o,n,I.kIn a o hk,hc,hd,by simpa using hs⟩,?_⟩
  have e:=r.length
  simp only [Array.length_toList] at e
  lia
theorem Inv.tuple (I:Inv X pins σ H s) (h:SqT X.K H a xs):∃ its:List Value,Vals xs its∧IsTup s.heap a its.toArray∧xs.length≤sizeLine:=by
 rcases h with h | ⟨o,its,n,hk,hc,hs,hz,r⟩
 ·obtain ⟨z,its,r,p⟩:=h.ok I.hok
  exact ⟨its,r,p,z⟩
 ·refine ⟨its.toList,r,⟨o,I.kIn a o hk,hc,n,by simpa using hs⟩,?_⟩
  have e:=r.length
  simp only [Array.length_toList] at e
  lia
theorem Inv.list_inj (I:Inv X pins σ H s) (h:SqL X.K H a xs) (h':SqL X.K H a ys):xs=ys:=by
 obtain ⟨its,r,⟨o,n,e,_,_,d⟩,_⟩:=I.list h
 obtain ⟨its',r',⟨o',n',e',_,_,d'⟩,_⟩:=I.list h'
 rw [e] at e'; cases e'
 rw [d] at d'
 injection d' with d1 _
 have:its=its':=by simpa using congrArg Array.toList d1
 subst this
 exact r.inj r'
end
abbrev Cx.wish (X:Cx) (E:Value→Shared→Prop):Cx:={ X with xe:=E }
abbrev Cx.nox (X:Cx):Cx:=X.wish fun _ _=>False
theorem Cx.Ok.wish {X:Cx} (ok:X.Ok) (E:Value→Shared→Prop):(X.wish E).Ok :=
 ⟨ok.mod,ok.kind,ok.glob,ok.blt,ok.above,ok.inj,ok.has,ok.cab,ok.hd,ok.frames,ok.stk,ok.exf,ok.bs,ok.bsz,ok.noex,ok.exfs,ok.funs,ok.frf,ok.tab⟩
theorem Cx.Ok.unwish {X:Cx} {E:Value→Shared→Prop} (ok:(X.wish E).Ok):X.Ok :=
 ⟨ok.mod,ok.kind,ok.glob,ok.blt,ok.above,ok.inj,ok.has,ok.cab,ok.hd,ok.frames,ok.stk,ok.exf,ok.bs,ok.bsz,ok.noex,ok.exfs,ok.funs,ok.frf,ok.tab⟩
section
variable {X:Cx} {pins:List (Addr×Obj)} {σ:St} {H:Hp} {s:Shared} {E:Value→Shared→Prop}
theorem Inv.wish (I:Inv X pins σ H s) (E:Value→Shared→Prop):Inv (X.wish E) pins σ H s:=⟨I.ok.wish E,I.os,I.bare,I.base,I.loc,I.cell,I.free,I.freeC,I.pin,I.hok,I.len⟩
theorem Inv.unwish (I:Inv (X.wish E) pins σ H s):Inv X pins σ H s:=⟨I.ok.unwish,I.os,I.bare,I.base,I.loc,I.cell,I.free,I.freeC,I.pin,I.hok,I.len⟩
theorem SP.unwish {D:Ends} {f:Flow} {s':Shared} (h:SP (X.wish E) pins D f s'):SP X pins D f s':=by
 cases f with
 | next=>obtain ⟨σ',H',I,q⟩:=h; exact ⟨σ',H',I.unwish,q⟩
 | brk=>obtain ⟨σ',H',I,q⟩:=h; exact ⟨σ',H',I.unwish,q⟩
 | cont=>obtain ⟨σ',H',I,q⟩:=h; exact ⟨σ',H',I.unwish,q⟩
 | ret u=>obtain ⟨v,σ',H',I,r,q⟩:=h; exact ⟨v,σ',H',I.unwish,r,q⟩
theorem PSs.nox {st:List Stmt} {t:TS} (h:PSs X.nox st t):PSs X st t:=fun pins s σ H D I hw =>
 wpAny_mono (h pins s σ H D (I.wish _) hw) (fun _ _ q=>q.unwish) fun _ _ z=>False.elim z
end
section
variable {X:Cx} {st:Stmt} {rest:List Stmt} {t u:TS} {e:Expr} {te:TE} {pos:Pos}
def tNext:TS:=fun D σ H=>D.nx σ H
def tSeq (t u:TS):TS:=fun D σ H=>t { D with nx:=u D } σ H
theorem pss_nil:PSs X [] tNext:=fun _ _ σ H _ I h=>wpAny_execs_nil ⟨σ,H,I,h⟩
theorem pss_cons (h1:PS X st t) (h2:PSs X rest u):PSs X (st :: rest) (tSeq t u):=by
 intro pins s σ H D I h
 refine wpAny_execs_cons (thn (h1 pins s σ H { D with nx:=u D } I h) fun f s1 q=>?_)
 cases f with
 | next =>
  obtain ⟨σ',H',I',q⟩:=q
  exact h2 pins s1 σ' H' D I' q
 | ret v=>exact q
 | brk=>exact q
 | cont=>exact q
theorem pss_one (h1:PS X st t):PSs X [st] t:=by
 intro pins s σ H D I h
 refine wpAny_execs_cons (thn (h1 pins s σ H D I h) fun f s1 q=>?_)
 cases f with
 | next=>exact wpAny_execs_nil q
 | ret v=>exact q
 | brk=>exact q
 | cont=>exact q
theorem Inv.quiet {pins:List (Addr×Obj)} {σ:St} {H:Hp} {s:Shared} (I:Inv X pins σ H s):interactive X.env=false:=by simp [interactive,I.ok.kind]
def tDrop (te:TE):TS:=fun D σ H=>te σ H fun _ H1=>D.nx σ H1
theorem ps_expr (he:PE X e te) (hs:swapsWith e none pos.line X.env=pure false:=by rfl):PS X (.Expr e pos) (tDrop te):=by
 intro pins s σ H D I h
 exact wpAny_Expr_any (thn (he pins s σ H _ I h) fun v s1 ⟨x,H1,I1,r1,q1⟩=>⟨σ,H1,I1,q1⟩) I.quiet hs
def tRet (te:TE):TS:=fun D σ H=>te σ H D.rt
theorem ps_ret (he:PE X e te):PS X (.Return (some e) pos) (tRet te):=by
 intro pins s σ H D I h
 exact wpAny_Return_some (thn (he pins s σ H _ I h) fun v s1 ⟨x,H1,I1,r1,q1⟩=>⟨x,σ,H1,I1,r1,q1⟩)
def tIfS (c:TT) (t u:TS):TS:=fun D σ H=>c σ H fun b H1=>if b=true then t D σ H1 else u D σ H1
theorem ps_if {c:Expr} {a b:List Stmt} {tc:TT} (hc:PT X c tc) (ha:PSs X a t) (hb:PSs X b u):PS X (.If c a b pos) (tIfS tc t u):=by
 intro pins s σ H D I h
 refine wpAny_If (thn (hc pins s σ H _ I h) fun d s1 ⟨H1,I1,q1⟩=>?_)
 cases d with
 | true=>exact ha pins s1 σ H1 D I1 q1
 | false=>exact hb pins s1 σ H1 D I1 q1
def tNever:TS:=fun _ _ _=>False
theorem ps_never:PS X st tNever:=fun _ _ _ _ _ _ h=>h.elim
end
abbrev TG:=V→St→Hp→(St→Hp→Prop)→Prop
abbrev TGs:=List V→St→Hp→(St→Hp→Prop)→Prop
def PG (X:Cx) (target:Expr) (t:TG):Prop :=
 ∀ (pins:List (Addr×Obj)) (s:Shared) (σ:St) (H:Hp) (v:V) (u:Value) (Q:St→Hp→Prop),Inv X pins σ H s→RelV v u→t v σ H Q →
  wpAny (model X.prog X.w) X.A (assign target X.env u) (fun _ s'=>∃ σ' H',Inv X pins σ' H' s'∧Q σ' H') X.xe s
def PGs (X:Cx) (ts:List Expr) (t:TGs):Prop :=
 ∀ (pins:List (Addr×Obj)) (s:Shared) (σ:St) (H:Hp) (vs:List V) (us:List Value) (Q:St→Hp→Prop),Inv X pins σ H s→Vals vs us→t vs σ H Q →
  wpAny (model X.prog X.w) X.A (assignInOrder ((assignEach ts X.env).map (·.2)) us) (fun _ s'=>∃ σ' H',Inv X pins σ' H' s'∧Q σ' H') X.xe s
abbrev TSet:=V→V→V→Hp→(Hp→Prop)→Prop
def PSet (X:Cx) (t:TSet):Prop :=
 ∀ (pins:List (Addr×Obj)) (s:Shared) (σ:St) (H:Hp) (o i v:V) (ov iv u:Value) (Q:Hp→Prop),Inv X pins σ H s→RelV o ov→RelV i iv→RelV v u→t o i v H Q →
  wpAny (model X.prog X.w) X.A (setItem ov iv u) (fun _ s'=>∃ H',Inv X pins σ H' s'∧Q H') X.xe s
section
variable {X:Cx} {pos:Pos}
def gName (i:Nat):TG:=fun v σ H Q=>Q (σ.set i (some v)) H
theorem pg_name {i:Nat} {x:Str} (hN:X.N.Nodup) (hi:X.N[i]?=some x) (hx:Loc X.env.scope x) (hf:X.fn x=true∨X.env.scope.names.lookup x=some .local:=by first | exact .inl rfl | exact .inr rfl | assumption):PG X (.Name x pos) (gName i):=by
 intro pins s σ H v u Q I r h
 exact wpAny_assign_Name (store_ok I hN hi hx r (fun s' I'=>⟨_,H,I',h⟩) hf)
def gNil:TGs:=fun vs σ H Q=>vs=[]∧Q σ H
def gCons (t:TG) (u:TGs):TGs:=fun vs σ H Q=>∃ v r,vs=v :: r∧t v σ H fun σ' H'=>u r σ' H' Q
theorem pgs_nil:PGs X [] gNil:=by
 intro pins s σ H vs us Q I r h
 obtain ⟨e,h⟩:=h
 subst e
 cases r
 exact assignInOrder_nil ⟨σ,H,I,h⟩
theorem pgs_cons {e:Expr} {es:List Expr} {t:TG} {u:TGs} (h1:PG X e t) (h2:PGs X es u)
  (hs:(assignEach (e :: es) X.env).map (·.2)=assign e X.env :: (assignEach es X.env).map (·.2):=by rfl):PGs X (e :: es) (gCons t u):=by
 intro pins s σ H vs us Q I r h
 obtain ⟨v,vr,e1,h⟩:=h
 subst e1
 cases r with
 | cons r rr =>
  rw [hs]
  refine assignInOrder_cons (thn (h1 pins s σ H _ _ _ I r h) fun _ s1 ⟨σ1,H1,I1,q1⟩=>?_)
  exact h2 pins s1 σ1 H1 _ _ Q I1 rr q1
def gTup (K:PySem.W.Frag) (n:Nat) (t:TGs):TG:=fun v σ H Q=>∃ a xs,v=.ref a∧SqT K H a xs∧xs.length=n∧t xs σ H Q
theorem pg_tup {es:List Expr} {k:Nat} {t:TGs} {n:Nat} (hc:X.calm=true) (h:PGs X es t)
  (hn:(assignEach es X.env).length=n:=by rfl) (hst:(assignEach es X.env).findIdx? (·.1)=none:=by rfl):PG X (.Tuple es k pos) (gTup X.K n t):=by
 intro pins s σ H v u Q I r hw
 obtain ⟨a,xs,e1,hq,hl,hw⟩:=hw
 subst e1
 cases r
 obtain ⟨its,rv,ht,hz⟩:=I.tuple hq
 refine assign_Tuple_tuple (I.ok.hd hc) ht (by simp [hn,← hl,rv.length]) hst fun h' hx=>?_
 have I1:Inv X pins σ H { s with heap:=h' }:=I.kept (t':=s.toks) fun b o e=>hx b o (Nat.ne_of_lt (Heap.lt_size e)) e
 exact h pins _ σ H xs _ Q I1 (by simpa using rv) hw
def gSub (to ti:TE) (t:TSet):TG:=fun v σ H Q=>to σ H fun o H1=>ti σ H1 fun i H2=>t o i v H2 fun H3=>Q σ H3
theorem pg_sub {o i:Expr} {to ti:TE} {t:TSet} (ho:PE X o to) (hi:PE X i ti) (hs:PSet X t)
  (ha:∀ v,assign (.Subscript o i pos) X.env v=(do
   let ov ← holding [v] (eval o X.env)
   let iv ← holding [v,ov] (eval i X.env)
   standAt pos
   holding [v,ov,iv] (setItem ov iv v)
   release [v,ov,iv] []):=by intro _; rfl):PG X (.Subscript o i pos) (gSub to ti t):=by
 intro pins s σ H v u Q I r h
 rw [ha]
 refine wpAny_bind (wpAny_holding (thn (ho pins s σ H _ I h) fun ov s1 ⟨x,H1,I1,r1,q1⟩=>?_))
 refine wpAny_bind (wpAny_holding (thn (hi pins s1 σ H1 _ I1 q1) fun iv s2 ⟨y,H2,I2,r2,q2⟩=>?_))
 refine wpAny_bind (wpAny_standAt (wpAny_bind (wpAny_holding (thn (hs pins s2 σ H2 x y v ov iv u _ I2 r1 r2 r q2) fun _ s3 ⟨H3,I3,q3⟩=>?_))))
 exact wpAny_release ⟨σ,H3,I3,q3⟩
def tAsg (te:TE) (g:TG):TS:=fun D σ H=>te σ H fun x H1=>g x σ H1 D.nx
theorem ps_asg {tg e:Expr} {te:TE} {g:TG} (he:PE X e te) (hg:PG X tg g) (hs:swapsWithSole [tg] e pos.line X.env=pure false:=by rfl) (hw:swappedStores [tg] e X.env=pure none:=by rfl)
  (h1:(assignEach [tg] X.env).map (·.2)=[assign tg X.env]:=by rfl):PS X (.Assign [tg] e pos) (tAsg te g):=by
 intro pins s σ H D I h
 refine wpAny_Assign_stores (thn (he pins s σ H _ I h) fun v s1 ⟨x,H1,I1,r1,q1⟩=>?_) hs hw
 rw [h1]
 exact thn (hg pins s1 σ H1 x v _ I1 r1 q1) fun _ s2 q=>q
theorem ps_set {i:Nat} {x:Str} {e:Expr} {te:TE} {pos':Pos} (hN:X.N.Nodup) (hi:X.N[i]?=some x) (hx:Loc X.env.scope x) (he:PE X e te) (hs:swapsWith e (some (.Name x pos')) pos.line X.env=pure false:=by rfl) (hf:X.fn x=true∨X.env.scope.names.lookup x=some .local:=by first | exact .inl rfl | exact .inr rfl | assumption) :
  PS X (.Assign [.Name x pos'] e pos) (tAsg te (gName i)):=by
 intro pins s σ H D I h
 refine wpAny_Assign_Name (thn (he pins s σ H _ I h) fun v s1 ⟨y,H1,I1,r1,q1⟩=>?_) hs
 exact store_ok I1 hN hi hx r1 (fun s2 I2=>⟨_,H1,I2,q1⟩) hf
def tPar (i j:Nat) (ta:TA):TS:=fun D σ H=>ta σ H fun vs H1=>∃ v w,vs=[v,w]∧D.nx ((σ.set i (some v)).set j (some w)) H1
theorem ps_par {i j:Nat} {x y:Str} {a b:Expr} {ta:TA} {px py pt:Pos} {kt k2 pt2} (hc:X.calm=true) (hN:X.N.Nodup) (hi:X.N[i]?=some x) (hj:X.N[j]?=some y) (hij:i≠j)
  (hx:X.env.scope.names.lookup x=some .local) (hy:X.env.scope.names.lookup y=some .local) (ha:PA X [a,b] ta)
  (hw:swappedStores [.Tuple [.Name x px,.Name y py] kt pt] (.Tuple [a,b] k2 pt2) X.env=pure (some [x,y]))
  (hs:swapsWithSole [.Tuple [.Name x px,.Name y py] kt pt] (.Tuple [a,b] k2 pt2) pos.line X.env=pure false:=by rfl) :
  PS X (.Assign [.Tuple [.Name x px,.Name y py] kt pt] (.Tuple [a,b] k2 pt2) pos) (tPar i j ta):=by
 intro pins s σ H D I h
 rw [exec_Assign_arm]
 refine wpAny_bind (wpAny_standAt ?_)
 rw [hs]
 refine wpAny_bind (wpAny_pure ?_)
 rw [if_neg (by decide)]
 refine wpAny_bind (Tuple_ (thn (ha _ pins s σ H _ I h) fun us s1 ⟨vs,H1,I1,r1,q1⟩=>?_))
 obtain ⟨v,w,e1,q1⟩:=q1
 subst e1
 obtain ⟨u1,u2,rfl,rv,rw'⟩:∃ u1 u2,us=[u1,u2]∧RelV v u1∧RelV w u2:=by
  cases r1 with
  | cons p q =>
   cases q with
   | cons p' q' =>
    cases q'
    exact ⟨_,_,rfl,p,p'⟩
 refine wpAny_newObj_type ?_ (by show 2≤sizeLine; decide)
 have I2:Inv X pins σ H1 { s1 with heap:=s1.heap.push { cls:=.type "tuple", data:=.seq [u1,u2].toArray } }:=I1.kept (t':=s1.toks) fun b o e=>Heap.get?_push_of_some _ e
 rw [hw]
 refine wpAny_bind (wpAny_pure ?_)
 show wpAny (model X.prog X.w) X.A (do rule "assign.swapped-stores"; let items ← unpackItems (.ref s1.heap.objs.size) 2 none; assignInOrder [fun v=>bindName X.env y v,fun v=>bindName X.env x v] items.reverse; pure Flow.next) _ _ _
 refine wpAny_bind (wpAny_rule (wpAny_bind (unpackItems_tuple (items := #[u1,u2]) (I.ok.hd hc) (IsTup.new s1.heap _) fun h' hx'=>?_)))
 have I3:=I2.kept (h':=h') (t':=s1.toks) fun b o e=>hx' b o (Nat.ne_of_lt (Heap.lt_size e)) e
 show wpAny _ _ (assignInOrder [fun v=>bindName X.env y v,fun v=>bindName X.env x v] [u2,u1] >>= fun _=>pure Flow.next) _ _ _
 refine wpAny_bind (assignInOrder_cons (wpAny_bindName (store_ok I3 hN hj (.inl hy) rw' (fun s2 I4=>?_) (.inr hy))))
 refine assignInOrder_cons (wpAny_bindName (store_ok I4 hN hi (.inl hx) rv (fun s3 I5=>assignInOrder_nil (wpAny_pure ?_)) (.inr hx)))
 rw [List.set_comm _ _ (Ne.symm hij)] at I5
 exact ⟨_,H1,I5,q1⟩
end
section
variable {X:Cx} {pos:Pos}
def tWhile (c:TT) (tb:TS):TS:=fun D σ H=>∃ W:Nat→St→Hp→Prop,(∃ m,W m σ H)∧∀ m σ H,W m σ H →
 c σ H fun b H1=>if b=true then ∃ N:St→Hp→Prop,(∀ σ' H',N σ' H'→∃ m',m' < m∧W m' σ' H')∧tb { D with nx:=N,ct:=N,bk:=D.nx } σ H1 else D.nx σ H1
theorem ps_while {c:Expr} {body:List Stmt} {tc:TT} {tb:TS} (hp:PassesOwn (model X.prog X.w) X.A X.env X.xe) (hc:PT X c tc) (hb:PSs X body tb):PS X (.While c body [] pos) (tWhile tc tb):=by
 intro pins s σ H D I h
 obtain ⟨W,⟨m0,w0⟩,turn⟩:=h
 refine wpAny_While (codeAny_whileLoop (fun n s'=>∃ σ' H',Inv X pins σ' H' s'∧W n σ' H') ?_ m0 ⟨σ,H,I,w0⟩)
 rintro n s1 ⟨σ1,H1,I1,w1⟩
 refine wpAny_passesOwn hp (thn (hc pins s1 σ1 H1 _ I1 (turn n σ1 H1 w1)) fun b s2 ⟨H2,I2,q2⟩=>?_)
 cases b with
 | true =>
  obtain ⟨N,hN,q2⟩:=q2
  rw [if_pos rfl]
  refine wpAny_passesOwn hp (thn (hb pins s2 σ1 H2 _ I2 q2) fun f s3 q3=>?_)
  cases f with
  | next =>
   obtain ⟨σ3,H3,I3,n3⟩:=q3
   obtain ⟨m',hm,w3⟩:=hN σ3 H3 n3
   exact ⟨m',hm,σ3,H3,I3,w3⟩
  | cont =>
   obtain ⟨σ3,H3,I3,n3⟩:=q3
   obtain ⟨m',hm,w3⟩:=hN σ3 H3 n3
   exact ⟨m',hm,σ3,H3,I3,w3⟩
  | brk=>exact q3
  | ret v=>exact q3
 | false =>
  rw [if_neg Bool.false_ne_true]
  exact wpAny_execs_nil ⟨σ1,H2,I2,q2⟩
end
structure It where
 go:Nat→Hp→Prop
 yld:Nat→Hp→V→Hp→Prop
 stop:Nat→Hp→Prop
def FpOk (X:Cx) (pins:List (Addr×Obj)) (H:Hp) (b:Addr):Prop :=
 H b=none∧b≠X.env.locals∧b ∉ X.fs∧(b∈X.ex∨X.s₀.heap.objs.size≤b)∧(∀ x c,X.env.cells.lookup x=some c→c≠b)∧∀ p∈X.pn ++ pins,p.1≠b
theorem Inv.fpOk {X:Cx} {pins:List (Addr×Obj)} {σ:St} {H H':Hp} {s:Shared} {b:Addr} (I:Inv X pins σ H s) (hb:s.heap.objs.size≤b) (hn:H' b=none):FpOk X pins H' b:=by
 refine ⟨hn,Nat.ne_of_gt (Nat.lt_of_lt_of_le I.lt hb),I.nofs hb,.inr (Nat.le_trans I.sz hb),fun x c e z=>?_,fun p hp z=>?_⟩
 ·obtain ⟨v,q⟩:=I.cell x c e
  exact absurd (Nat.lt_of_lt_of_le q.lt (by rw [z]; exact hb)) (Nat.lt_irrefl _)
 ·exact absurd (Nat.lt_of_lt_of_le (Heap.lt_size (I.pin p hp).1) (by rw [z]; exact hb)) (Nat.lt_irrefl _)
structure Turn (P:Program) (w:World) (K:PySem.W.Frag) (tg:Expr) (J:It) (fp:List Addr) (it:Addr) (tn:Nat→Heap→Prop):Prop where
 mem:it∈fp
 obj:∀ i h,tn i h→∀ b∈fp,∃ o,h.get? b=some o∧∀ v,o.data≠.cell v
 keep:∀ i h h',tn i h→(∀ b∈fp,∀ o,h.get? b=some o→h'.get? b=some o)→tn i h'
 item:∀ (X:Cx),X.prog=P→X.w=w→X.K=K→X.calm=true→∀ (i:Nat) (pins:List (Addr×Obj)) (s:Shared) (σ:St) (H:Hp) (E:Value→Shared→Prop),Inv X pins σ H s→(∀ b∈fp,FpOk X pins H b)→tn i s.heap→J.go i H →
  wpAny (model P w) X.A (pyNext (.ref it)) (fun r s1=>∃ u,r=some u ∧
   wpAny (model P w) X.A (letOwnedTupleGo tg (.ref it) u) (fun _ s2=>∃ x H',Inv X pins σ H' s2∧RelV x u∧J.yld i H x H'∧tn (i + 1) s2.heap∧∀ b∈fp,H' b=none) E s1) E s
 done:∀ (X:Cx),X.prog=P→X.w=w→X.K=K→X.calm=true→∀ (i:Nat) (pins:List (Addr×Obj)) (s:Shared) (σ:St) (H:Hp) (E:Value→Shared→Prop),Inv X pins σ H s→(∀ b∈fp,FpOk X pins H b)→tn i s.heap→J.stop i H →
  wpAny (model P w) X.A (pyNext (.ref it)) (fun r s1=>r=none∧Inv X pins σ H s1) E s
 self:∀ (A:Around) (i:Nat) (s:Shared) (Q:Value→Shared→Prop) (E:Value→Shared→Prop),tn i s.heap→Q (.ref it) s→wpAny (model P w) A (pyIter (.ref it)) Q E s
abbrev TI:=St→Hp→(It→Hp→Prop)→Prop
def PIE (X:Cx) (pins:List (Addr×Obj)) (σ:St) (tg:Expr) (R:It→Hp→Prop) (itv:Value) (s2:Shared):Prop :=
 ∃ (it:Addr) (fp:List Addr) (tn:Nat→Heap→Prop) (J:It) (H':Hp),itv=.ref it∧Inv X pins σ H' s2∧Turn X.prog X.w X.K tg J fp it tn∧tn 0 s2.heap∧(∀ b∈fp,FpOk X pins H' b)∧R J H'
def PI (X:Cx) (tg iter:Expr) (wi:TI):Prop :=
 ∀ (pins:List (Addr×Obj)) (s:Shared) (σ:St) (H:Hp) (R:It→Hp→Prop),Inv X pins σ H s→wi σ H R →
  wpAny (model X.prog X.w) X.A (eval iter X.env) (fun v s1=>wpAny (model X.prog X.w) X.A (pyIter v) (PIE X pins σ tg R) X.xe s1) X.xe s
theorem go_of {M : Model} {A : Around} {E : Value → Shared → Prop} {s : Shared} {tg : Expr} {it : Addr} {u : Value} {o : Obj} {n : String} {vs : Array Value} {Q : Unit → Shared → Prop} (ho : s.heap.get? it = some o) (hc : o.cls = .type n) (hd : o.data = .fields vs)
    (hn : ["enumerate", "zip", "dict_itemiterator", "dict_reverseitemiterator", "odict_iterator", "itertools.zip_longest", "itertools.pairwise"].contains n = false) (hQ : Q () s) : wpAny M A (letOwnedTupleGo tg (.ref it) u) Q E s := by
  unfold letOwnedTupleGo
  cases tg <;> first
    | exact wpAny_pure hQ
    | (cases u <;> first
        | exact wpAny_pure hQ
        | (refine wpAny_bind (wpAny_load ho ?_)
           rw [hc, hd]
           show wpAny M A (if (["enumerate", "zip", "dict_itemiterator", "dict_reverseitemiterator", "odict_iterator", "itertools.zip_longest", "itertools.pairwise"].contains n && vs[0]? == some (rawInt _)) = true then _ else _) Q E s
           rw [if_neg (by intro h; rw [hn, Bool.false_and] at h; cases h)]
           exact wpAny_pure hQ))
def Itl (K:PySem.W.Frag) (a:Addr):It :=
 ⟨fun i H=>∃ xs x,SqL K H a xs∧xs[i]?=some x,fun i H x H'=>H'=H∧∀ xs,SqL K H a xs→xs[i]?=some x,fun i H=>∃ xs,SqL K H a xs∧xs.length≤i⟩
def Itr (lo:Int) (n:Nat):It:=⟨fun i _=>i < n,fun i H x H'=>H'=H∧x=.int (lo + i),fun i _=>n≤i⟩
theorem turn_list {P:Program} {w:World} {K:PySem.W.Frag} {tg:Expr} (a it:Addr):Turn P w K tg (Itl K a) [it] it (fun i h=>h.IsListIter it a i) where
 mem:=by simp
 obj:=fun i h st b hb=>by
  have e:b=it:=by simpa using hb
  subst e
  obtain ⟨o,e,c,d⟩:=st
  exact ⟨o,e,fun v z=>by rw [d] at z; cases z⟩
 keep:=fun i h h' st k=>st.at fun o e=>k it (by simp) o e
 item:=by
  intro X hP hw hK hc i pins s σ H E I hf st hg
  subst hP hw hK
  obtain ⟨xs,x,hq,hx⟩:=hg
  obtain ⟨its,rv,p,hz⟩:=I.list hq
  obtain ⟨u,hu,ru⟩:=rv.get hx
  obtain ⟨f0,f1,f2,f3,f4,f5⟩:=hf it (by simp)
  refine wpAny_pyNext_list_item st p.isList (x:=u) (by simpa using hu) fun h' st' sb=>?_
  have I1:Inv X pins σ H { s with heap:=h' }:=I.turned (t':=s.toks) (fun b o hb e=>(sb.2 b hb).trans e) f0 f1 f3 f4 f5
  obtain ⟨o,e,c,d⟩:=id st'
  exact ⟨u,rfl,go_of (s:={ s with heap:=h' }) e c d (by decide) ⟨x,H,I1,ru,⟨rfl,fun ys hy=>by rw [I.list_inj hy hq]; exact hx⟩,st',fun b hb=>(hf b hb).1⟩⟩
 done:=by
  intro X hP hw hK hc i pins s σ H E I hf st hg
  subst hP hw hK
  obtain ⟨xs,hq,hx⟩:=hg
  obtain ⟨its,rv,p,hz⟩:=I.list hq
  obtain ⟨f0,f1,f2,f3,f4,f5⟩:=hf it (by simp)
  have hl:=rv.length
  exact wpAny_pyNext_list_end (I.ok.hd hc) st p.isList (by simp; lia) fun h' eb=>⟨rfl,I.turned (t':=s.toks) (fun b o hb e=>eb b o hb e) f0 f1 f3 f4 f5⟩
 self:=fun _ _ _ _ _ st h=>wpAny_pyIter_listiter st h
theorem turn_range {P:Program} {w:World} {K:PySem.W.Frag} {tg:Expr} (it:Addr) (lo:Int) (n:Nat):Turn P w K tg (Itr lo n) [it] it (fun i h=>IsRangeIter h it (lo + (i:Nat) * 1) ((n:Int) - (i:Nat)) 1) where
 mem:=by simp
 obj:=fun i h st b hb=>by
  have e:b=it:=by simpa using hb
  subst e
  exact ⟨_,st,fun v z=>by
   have z':Data.fields _=Data.cell v:=z
   cases z'⟩
 keep:=fun i h h' st k=>k it (by simp) _ st
 item:=by
  intro X hP hw hK hc i pins s σ H E I hf st hg
  subst hP hw hK
  obtain ⟨f0,f1,f2,f3,f4,f5⟩:=hf it (by simp)
  have W:=Walks.range (prog:=X.prog) (w:=X.w) (I.ok.hd hc) it lo 1 n
  refine W.item i s _ _ hg st fun v h' tk hv st' kk=>?_
  obtain ⟨t,rfl⟩:=hv
  have I1:Inv X pins σ H { s with heap:=h',toks:=tk }:=I.turned (fun b o hb e=>kk b o (by simpa using hb) e) f0 f1 f3 f4 f5
  refine ⟨_,rfl,go_of (s:={ s with heap:=h',toks:=tk }) (n := "range_iterator") st' rfl rfl (by decide) ⟨.int (lo + i),H,I1,⟨t,?_⟩,⟨rfl,rfl⟩,st',fun b hb=>(hf b hb).1⟩⟩
  rw [Int.mul_one]
 done:=by
  intro X hP hw hK hc i pins s σ H E I hf st hg
  subst hP hw hK
  obtain ⟨f0,f1,f2,f3,f4,f5⟩:=hf it (by simp)
  exact wpAny_pyNext_range_end (I.ok.hd hc) st (by have:n≤i:=hg; lia) fun h' eb=>⟨rfl,I.turned (t':=s.toks) (fun b o hb e=>eb b o hb e) f0 f1 f3 f4 f5⟩
 self:=fun _ _ _ _ _ st h=>wpAny_pyIter_rangeiter st h
end L2
namespace L2
open PySem PySem.Spec PyProof.Rows
section
variable {X:Cx} {tg:Expr}
def iList (K:PySem.W.Frag) (tl:TE):TI:=fun σ H R=>tl σ H fun x H1=>∃ a,x=.ref a∧(∃ xs,SqL K H1 a xs)∧R (Itl K a) H1
theorem pi_list {l:Expr} {tl:TE} (hl:PE X l tl):PI X tg l (iList X.K tl):=by
 intro pins s σ H R I h
 refine thn (hl pins s σ H _ I h) fun v s1 ⟨x,H1,I1,r1,q1⟩=>?_
 obtain ⟨a,e,⟨xs,hq⟩,q⟩:=q1
 subst e
 cases r1
 obtain ⟨its,rv,p,hz⟩:=I1.list hq
 refine wpAny_pyIter_list p.isList ?_
 refine ⟨s1.heap.objs.size,[s1.heap.objs.size],_,_,H1,rfl,I1.kept (t':=s1.toks) fun b o e=>Heap.get?_push_of_some _ e,turn_list a _,⟨_,Heap.get?_push_size _ rfl,rfl,rfl⟩,fun b hb=>?_,q⟩
 have e:b=s1.heap.objs.size:=by simpa using hb
 subst e
 exact I1.fpOk (Nat.le_refl _) (I1.hok.fresh (Nat.le_refl _))
theorem range_it {pins:List (Addr×Obj)} {σ:St} {H:Hp} {s:Shared} {R:It→Hp→Prop} {E:Value→Shared→Prop} {lo hi:Int} {t u v:Tok} {tk:Nat} (I:Inv X pins σ H s) (h1 : -(2 ^ 62)≤lo) (h2:lo < 2 ^ 62) (h3 : -(2 ^ 62)≤hi) (h4:hi < 2 ^ 62)
  (q:R (Itr lo (hi - lo).toNat) H):wpAny (model X.prog X.w) X.A (pyIter (.ref s.heap.objs.size)) (PIE X pins σ tg R) E { s with heap:=s.heap.push { cls:=.type "range", data:=.fields #[.int lo t,.int hi u,.int 1 v] },toks:=tk }:=by
 refine wpAny_pyIter_range (IsRange.new ..) (small_one h1 h2 h3 h4) ?_
 have I1:Inv X pins σ H { s with heap:=s.heap.push { cls:=.type "range", data:=.fields #[.int lo t,.int hi u,.int 1 v] },toks:=tk }:=I.kept fun b o e=>Heap.get?_push_of_some _ e
 refine ⟨(s.heap.push { cls:=.type "range", data:=.fields #[.int lo t,.int hi u,.int 1 v] }).objs.size,[(s.heap.push { cls:=.type "range", data:=.fields #[.int lo t,.int hi u,.int 1 v] }).objs.size],_,_,H,rfl,
  I1.kept (t':=tk) fun b o e=>Heap.get?_push_of_some _ e,turn_range _ lo (hi - lo).toNat,?_,fun b hb=>?_,q⟩
 ·have e1:lo + ((0:Nat):Int) * 1=lo:=by simp
  have e2:(((hi - lo).toNat:Nat):Int) - ((0:Nat):Int)=Builtin.Range.rangeSize lo hi 1:=by rw [rangeSize_one]; split <;> lia
  show IsRangeIter _ _ (lo + ((0:Nat):Int) * 1) ((((hi - lo).toNat:Nat):Int) - ((0:Nat):Int)) 1
  rw [e1,e2]
  exact Heap.get?_push_size _ rfl
 ·have e:b=(s.heap.push { cls:=.type "range", data:=.fields #[.int lo t,.int hi u,.int 1 v] }).objs.size:=by simpa using hb
  subst e
  exact I1.fpOk (Nat.le_refl _) (I1.hok.fresh (Nat.le_refl _))
def iRng1 (ta:TA):TI:=fun σ H R=>ta σ H fun vs H1=>∃ j:Int,vs=[.int j] ∧ -(2 ^ 62)≤j∧j < 2 ^ 62∧R (Itr 0 j.toNat) H1
def iRng2 (ta:TA):TI:=fun σ H R=>ta σ H fun vs H1=>∃ i j:Int,vs=[.int i,.int j]∧(-(2 ^ 62)≤i∧i < 2 ^ 62 ∧ -(2 ^ 62)≤j∧j < 2 ^ 62)∧R (Itr i (j - i).toNat) H1
theorem pi_range1 {a:Expr} {ta:TA} {p pos:Pos} (hg:Gl X "range") (hm:X.mg "range" = none) (ha:PA X [a] ta) (hs:starEach [a] X.env=[(false,eval a X.env)]:=by rfl):PI X tg (.Call (.Name "range" p) [a] [] pos) (iRng1 ta):=by
 intro pins s σ H R I h
 refine Call_ (ld_blt I hg hm boot_range (PyProof.Rows.callWith_type1 (thn (ha pos pins s σ H _ I h) fun us s1 ⟨vs,H1,I1,r1,q1⟩=>?_) hs rfl))
 obtain ⟨j,e,q1,q2,q⟩:=q1
 subst e
 cases r1 with
 | cons r rr =>
  cases rr
  obtain ⟨t,rfl⟩:=r
  exact call_range_1 (range_it I1 (by lia) (by lia) q1 q2 (by simpa using q))
theorem pi_range2 {a b:Expr} {ta:TA} {p pos:Pos} (hg:Gl X "range") (hm:X.mg "range" = none) (ha:PA X [a,b] ta) (hs:starEach [a,b] X.env=[(false,eval a X.env),(false,eval b X.env)]:=by rfl) (hs2:starEach [b] X.env=[(false,eval b X.env)]:=by rfl) :
  PI X tg (.Call (.Name "range" p) [a,b] [] pos) (iRng2 ta):=by
 intro pins s σ H R I h
 refine Call_ (ld_blt I hg hm boot_range (PyProof.Rows.callWith_type1 (thn (ha pos pins s σ H _ I h) fun us s1 ⟨vs,H1,I1,r1,q1⟩=>?_) (by rw [hs,hs2]) (by rw [hs2]; rfl)))
 obtain ⟨i,j,e,⟨q1,q2,q3,q4⟩,q⟩:=q1
 subst e
 cases r1 with
 | cons r rr =>
  cases rr with
  | cons r' rr =>
   cases rr
   obtain ⟨t,rfl⟩:=r
   obtain ⟨t',rfl⟩:=r'
   exact call_range_2 (range_it I1 q1 q2 q3 q4 q)
def tFor (wi:TI) (g:TG) (tb:TS):TS:=fun D σ H=>wi σ H fun J H1=>∃ W:Nat→Nat→St→Hp→Prop,(∃ m,W 0 m σ H1)∧∀ i m σ H,W i m σ H →
 (J.stop i H∧D.nx σ H)∨(J.go i H∧∃ N:St→Hp→Prop,(∀ σ' H',N σ' H'→∃ m',m' < m∧W (i + 1) m' σ' H')∧∀ x H',J.yld i H x H'→g x σ H' fun σ2 H2=>tb { D with nx:=N,ct:=N,bk:=D.nx } σ2 H2)
def pinsAt (fp:List Addr) (h:Heap):List (Addr×Obj):=fp.filterMap fun b=>(h.get? b).map fun o=>(b,o)
theorem mem_pinsAt {fp:List Addr} {h:Heap} {b:Addr} {o:Obj} (hb:b∈fp) (e:h.get? b=some o):(b,o)∈pinsAt fp h:=List.mem_filterMap.mpr ⟨b,hb,by rw [e]; rfl⟩
theorem of_pinsAt {fp:List Addr} {h:Heap} {p:Addr×Obj} (hp:p∈pinsAt fp h):p.1∈fp∧h.get? p.1=some p.2:=by
 obtain ⟨b,hb,e⟩:=List.mem_filterMap.mp hp
 cases q:h.get? b with
 | none=>rw [q] at e; cases e
 | some o =>
  rw [q] at e
  have e':(b,o)=p:=Option.some.inj e
  subst e'
  exact ⟨hb,q⟩
theorem Inv.pinned {pins:List (Addr×Obj)} {σ:St} {H:Hp} {s:Shared} {fp:List Addr} (I:Inv X pins σ H s) (hf:∀ b∈fp,FpOk X pins H b) (ho:∀ b∈fp,∃ o,s.heap.get? b=some o∧∀ v,o.data≠.cell v):Inv X (pins ++ pinsAt fp s.heap) σ H s :=
 I.pins_of fun p hp=>(List.mem_append.mp hp).elim (fun z=>I.pin p (List.mem_append_right _ z)) fun z=>by
  obtain ⟨hb,e⟩:=of_pinsAt z
  obtain ⟨f0,f1,f2,_⟩:=hf p.1 hb
  obtain ⟨o,e',d⟩:=ho p.1 hb
  rw [e] at e'; cases e'
  exact ⟨e,f0,f1,f2,d⟩
theorem Inv.unpinned {pins pl:List (Addr×Obj)} {σ:St} {H:Hp} {s:Shared} (I:Inv X (pins ++ pl) σ H s):Inv X pins σ H s:=I.pins_of fun p hp=>I.pin p (List.mem_append_right _ (List.mem_append_left _ hp))
theorem ps_for {iter:Expr} {body:List Stmt} {wi:TI} {g:TG} {tb:TS} {pos:Pos} (hp:PassesOwn (model X.prog X.w) X.A X.env X.xe) (hc:X.calm=true) (hi:PI X tg iter wi) (hg:PG X tg g) (hb:PSs X body tb)
  (hs:∀ x,foldedSetIterable iter X.env x=pure x:=by intro _; rfl):PS X (.For tg iter body [] pos) (tFor wi g tb):=by
 intro pins s σ H D I h
 refine wpAny_For (thn (hi pins s σ H _ I h) fun v s1 h1=>thn h1 fun itv s2 h2=>?_) hs
 obtain ⟨it,fp,tn,J,H2,e,I2,T,st2,f2,W,⟨m0,w0⟩,turn⟩:=h2
 subst e
 have stat:∀ {H':Hp},(∀ b∈fp,H' b=none)→∀ b∈fp,FpOk X pins H' b:=fun hn b hb=>⟨hn b hb,(f2 b hb).2⟩
 refine codeAny_forLoop_any (fun n s'=>∃ i σ' H',Inv X pins σ' H' s'∧tn i s'.heap∧(∀ b∈fp,H' b=none)∧W i n σ' H') ?_ m0 ⟨0,σ,H2,I2,st2,fun b hb=>(f2 b hb).1,w0⟩
 rintro n s3 ⟨i,σ3,H3,I3,st3,fr3,w3⟩
 rcases turn i n σ3 H3 w3 with ⟨stop,qn⟩ | ⟨go,N,hN,step⟩
 ·refine wpAny_passesOwn hp (thn (T.done X rfl rfl rfl hc i pins s3 σ3 H3 X.xe I3 (stat fr3) st3 stop) fun r s4 ⟨hr,I4⟩=>?_)
  subst hr
  exact wpAny_execs_nil ⟨σ3,H3,I4,qn⟩
 ·refine wpAny_passesOwn hp (thn (T.item X rfl rfl rfl hc i pins s3 σ3 H3 X.xe I3 (stat fr3) st3 go) fun r s4 ⟨u,hr,h4⟩=>?_)
  subst hr
  refine wpAny_passesOwn hp (thn h4 fun _ s5 ⟨x,H5,I5,r5,y5,st5,fr5⟩=>?_)
  have I5':=I5.pinned (stat fr5) (T.obj _ _ st5)
  refine wpAny_passesOwn hp (thn (hg _ s5 σ3 H5 x u _ I5' r5 (step x H5 y5)) fun _ s6 ⟨σ6,H6,I6,q6⟩=>?_)
  refine wpAny_passesOwn hp (thn (hb _ s6 σ6 H6 _ I6 q6) fun f s7 q7=>?_)
  have again:∀ {σ7:St} {H7:Hp},Inv X (pins ++ pinsAt fp s5.heap) σ7 H7 s7→N σ7 H7→∃ m,m < n∧∃ i σ' H',Inv X pins σ' H' s7∧tn i s7.heap∧(∀ b∈fp,H' b=none)∧W i m σ' H':=fun {σ7 H7} I7 n7=>by
   obtain ⟨m',hm,w7⟩:=hN σ7 H7 n7
   refine ⟨m',hm,i + 1,σ7,H7,I7.unpinned,T.keep _ _ _ st5 fun b hb o e=>(I7.pin (b,o) (List.mem_append_right _ (List.mem_append_right _ (mem_pinsAt hb e)))).1,fun b hb=>?_,w7⟩
   obtain ⟨o,e,d⟩:=T.obj _ _ st5 b hb
   exact (I7.pin (b,o) (List.mem_append_right _ (List.mem_append_right _ (mem_pinsAt hb e)))).2.1
  cases f with
  | next=>obtain ⟨σ7,H7,I7,n7⟩:=q7; exact again I7 n7
  | cont=>obtain ⟨σ7,H7,I7,n7⟩:=q7; exact again I7 n7
  | brk=>obtain ⟨σ7,H7,I7,q7⟩:=q7; exact ⟨σ7,H7,I7.unpinned,q7⟩
  | ret v=>obtain ⟨x7,σ7,H7,I7,r7,q7⟩:=q7; exact ⟨x7,σ7,H7,I7.unpinned,r7,q7⟩
end
end L2
namespace L2
open PySem PySem.Spec PyProof.Rows
abbrev R2:=V→V→Hp→VK→Prop
def OpR (X:Cx) (f:Value→Value→Sem Value) (r:R2):Prop :=
 ∀ (pins:List (Addr×Obj)) (s:Shared) (σ:St) (H:Hp) (x y:V) (v u:Value) (Q:VK),Inv X pins σ H s→RelV x v→RelV y u→r x y H Q →
  wpAny (model X.prog X.w) X.A (f v u) (EP X pins σ Q) X.xe s
def UnR (X:Cx) (f:Value→Sem Value) (r:V→Hp→VK→Prop):Prop :=
 ∀ (pins:List (Addr×Obj)) (s:Shared) (σ:St) (H:Hp) (x:V) (v:Value) (Q:VK),Inv X pins σ H s→RelV x v→r x H Q →
  wpAny (model X.prog X.w) X.A (f v) (EP X pins σ Q) X.xe s
def CallR (X:Cx) (f:Value) (r:List V→Hp→VK→Prop):Prop :=
 ∀ (pins:List (Addr×Obj)) (s:Shared) (σ:St) (H:Hp) (xs:List V) (us:List Value) (Q:VK),Inv X pins σ H s→Vals xs us→r xs H Q →
  wpAny (model X.prog X.w) X.A (call f us) (EP X pins σ Q) X.xe s
def tOp (r:R2) (ta tb:TE):TE:=fun σ H Q=>ta σ H fun x H1=>tb σ H1 fun y H2=>r x y H2 Q
def tUn (r:V→Hp→VK→Prop) (ta:TE):TE:=fun σ H Q=>ta σ H fun x H1=>r x H1 Q
def rI (C:Int→Int→Prop) (g:Int→Int→V):R2:=fun x y H Q=>∃ i j,x=.int i∧y=.int j∧C i j∧Q (g i j) H
def rI0 (g:Int→Int→V):R2:=fun x y H Q=>∃ i j,x=.int i∧y=.int j∧Q (g i j) H
def rU (g:Int→V):V→Hp→VK→Prop:=fun x H Q=>∃ i,x=.int i∧Q (g i) H
section
variable {X:Cx} {a b c:Expr} {ta tb tc:TE} {pos:Pos}
theorem binT (ha:PE X a ta) (hb:PE X b tb) {pins:List (Addr×Obj)} {s:Shared} {σ:St} {H:Hp} {R:V→V→Hp→Prop} (I:Inv X pins σ H s)
  (h:ta σ H fun x H1=>tb σ H1 fun y H2=>R x y H2) {Q:Value→Shared→Prop} {f:Value→Value→Sem Value}
  (hf:∀ v u s2 x y H2,Inv X pins σ H2 s2→RelV x v→RelV y u→R x y H2→wpAny (model X.prog X.w) X.A (f v u) Q X.xe s2) :
  wpAny (model X.prog X.w) X.A (eval a X.env) (fun v s₁=>wpAny (model X.prog X.w) X.A (eval b X.env) (fun u s₂=>wpAny (model X.prog X.w) X.A (f v u) Q X.xe s₂) X.xe s₁) X.xe s:=by
 refine thn (ha pins s σ H _ I h) fun v s1 ⟨x,H1,I1,r1,q1⟩=>?_
 refine thn (hb pins s1 σ H1 _ I1 q1) fun u s2 ⟨y,H2,I2,r2,q2⟩=>?_
 exact hf v u s2 x y H2 I2 r1 r2 q2
theorem pe_op {op:Operator} {r:R2} (ho:OpR X (binaryOp op) r) (ha:PE X a ta) (hb:PE X b tb):PE X (.BinOp a op b pos) (tOp r ta tb):=by
 intro pins s σ H Q I h
 exact wpAny_BinOp (binT ha hb I h fun v u s2 x y H2 I2 rx ry q=>ho pins s2 σ H2 x y v u Q I2 rx ry q)
theorem pe_un {op:UnaryOp} {r:V→Hp→VK→Prop} (ho:UnR X (unaryOp op) r) (ha:PE X a ta):PE X (.UnaryOp op a pos) (tUn r ta):=by
 intro pins s σ H Q I h
 exact UnaryOp_ (thn (ha pins s σ H _ I h) fun v s1 ⟨x,H1,I1,r1,q1⟩=>ho pins s1 σ H1 x v Q I1 r1 q1)
theorem opI {f:Value→Value→Sem Value} {C:Int→Int→Prop} {g:Int→Int→Int}
  (rule:∀ (i j:Int) (t u:Tok) (s:Shared) (Q:Value→Shared→Prop) (E:Value→Shared→Prop),C i j→Q (.int (g i j) s.toks) { s with toks:=s.toks + 1 }→wpAny (model X.prog X.w) X.A (f (.int i t) (.int j u)) Q E s) :
  OpR X f (rI C fun i j=>.int (g i j)):=by
 intro pins s σ H x y v u Q I rx ry h
 obtain ⟨i,j,rfl,rfl,hc,q⟩:=h
 obtain ⟨t,rfl⟩:=rx
 obtain ⟨t',rfl⟩:=ry
 exact rule i j t t' s _ _ hc ⟨.int (g i j),H,I.tok _,⟨_,rfl⟩,q⟩
theorem opI0 {f:Value→Value→Sem Value} {g:Int→Int→Int}
  (rule:∀ (i j:Int) (t u:Tok) (s:Shared) (Q:Value→Shared→Prop) (E:Value→Shared→Prop),Q (.int (g i j) s.toks) { s with toks:=s.toks + 1 }→wpAny (model X.prog X.w) X.A (f (.int i t) (.int j u)) Q E s) :
  OpR X f (rI0 fun i j=>.int (g i j)):=by
 intro pins s σ H x y v u Q I rx ry h
 obtain ⟨i,j,rfl,rfl,q⟩:=h
 obtain ⟨t,rfl⟩:=rx
 obtain ⟨t',rfl⟩:=ry
 exact rule i j t t' s _ _ ⟨.int (g i j),H,I.tok _,⟨_,rfl⟩,q⟩
theorem opB0 {f:Value→Value→Sem Value} {g:Int→Int→Bool}
  (rule:∀ (i j:Int) (t u:Tok) (s:Shared) (Q:Value→Shared→Prop) (E:Value→Shared→Prop),Q (.bool (g i j)) s→wpAny (model X.prog X.w) X.A (f (.int i t) (.int j u)) Q E s) :
  OpR X f (rI0 fun i j=>.bl (g i j)):=by
 intro pins s σ H x y v u Q I rx ry h
 obtain ⟨i,j,rfl,rfl,q⟩:=h
 obtain ⟨t,rfl⟩:=rx
 obtain ⟨t',rfl⟩:=ry
 exact rule i j t t' s _ _ ⟨.bl (g i j),H,I,rfl,q⟩
def CPow (i j:Int):Prop:=0≤j∧j≤1000000∧i.natAbs < 2 ^ 64
theorem op_add:OpR X (binaryOp .Add) (rI0 fun i j=>.int (i + j)):=opI0 fun _ _ _ _ _ _ _ q=>add_int q
theorem op_sub:OpR X (binaryOp .Sub) (rI0 fun i j=>.int (i - j)):=opI0 fun _ _ _ _ _ _ _ q=>sub_int q
theorem op_mod:OpR X (binaryOp .Mod) (rI (fun _ j=>0 < j) fun i j=>.int (i % j)):=opI fun i j _ _ _ _ _ hc q=>by
 have h1:(0:Int) < j:=hc
 exact mod_int' (by lia) (by rw [Int.fmod_eq_emod_of_nonneg i (by lia)]; exact q)
theorem op_pow:OpR X (binaryOp .Pow) (rI CPow fun i j=>.int (i ^ j.toNat)):=opI fun _ _ _ _ _ _ _ hc q=>pow_int_small hc.1 hc.2.1 hc.2.2 q
theorem unI {f:Value→Sem Value} {g:Int→Int}
  (rule:∀ (i:Int) (t:Tok) (s:Shared) (Q:Value→Shared→Prop) (E:Value→Shared→Prop),Q (.int (g i) s.toks) { s with toks:=s.toks + 1 }→wpAny (model X.prog X.w) X.A (f (.int i t)) Q E s) :
  UnR X f (rU fun i=>.int (g i)):=by
 intro pins s σ H x v Q I rx h
 obtain ⟨i,rfl,q⟩:=h
 obtain ⟨t,rfl⟩:=rx
 exact rule i t s _ _ ⟨.int (g i),H,I.tok _,⟨_,rfl⟩,q⟩
theorem un_neg:UnR X (unaryOp .USub) (rU fun i=>.int (-i)):=unI fun _ _ _ _ _ q=>neg_int q
end
section
variable {X:Cx} {a b c:Expr} {ta tb tc:TE} {pos:Pos}
theorem fin_bl {pins:List (Addr×Obj)} {σ:St} {H:Hp} {s:Shared} {Q:VK} {k k':Bool} (I:Inv X pins σ H s) (q:Q (.bl k) H) (e:k=k'):EP X pins σ Q (.bool k') s:=by
 subst e
 exact ⟨.bl k,H,I,rfl,q⟩
theorem op_lt:OpR X (compareOp .Lt) (rI0 fun i j=>.bl (decide (i < j))):=opB0 fun _ _ _ _ _ _ _ q=>lt_int q
theorem op_le:OpR X (compareOp .LtE) (rI0 fun i j=>.bl (decide (i≤j))):=opB0 fun _ _ _ _ _ _ _ q=>le_int q
theorem op_gt:OpR X (compareOp .Gt) (rI0 fun i j=>.bl (decide (j < i))):=opB0 fun _ _ _ _ _ _ _ q=>gt_int q
theorem op_ge:OpR X (compareOp .GtE) (rI0 fun i j=>.bl (decide (j≤i))):=opB0 fun _ _ _ _ _ _ _ q=>ge_int q
theorem nomark (b:Expr) {op:CmpOp} (h:op≠.In:=by decide) (h2:op≠.NotIn:=by decide):behindInMarks op b=false:=by
 have e1:(op == CmpOp.In)=false:=by cases op <;> first | rfl | exact absurd rfl h
 have e2:(op == CmpOp.NotIn)=false:=by cases op <;> first | rfl | exact absurd rfl h2
 cases b <;> simp [behindInMarks,e1,e2]
theorem pe_cmpR {op:CmpOp} {r:R2} (ho:OpR X (compareOp op) r) (ha:PE X a ta) (hb:PE X b tb) (hm:behindInMarks op b=false):PE X (.Compare a [op] [b] pos) (tOp r ta tb):=by
 intro pins s σ H Q I h
 exact wpAny_Compare1 (binT ha hb I h fun v u s2 x y H2 I2 rx ry q=>ho pins s2 σ H2 x y v u Q I2 rx ry q) hm
def tTest (t:TE):TT:=fun σ H Q=>t σ H fun x H'=>∃ k,x=.bl k∧Q k H'
theorem pt_cmpR {op:CmpOp} {r:R2} (ho:OpR X (compareOp op) r) (ha:PE X a ta) (hb:PE X b tb) (hm:behindInMarks op b=false):PT X (.Compare a [op] [b] pos) (tTest (tOp r ta tb)):=by
 intro pins s σ H Q I h
 refine wpAny_isTrue_Compare1 (thn (ha pins s σ H _ I h) fun v s1 ⟨x,H1,I1,r1,q1⟩=>thn (hb pins s1 σ H1 _ I1 q1) fun u s2 ⟨y,H2,I2,r2,q2⟩ =>
  thn (ho pins s2 σ H2 x y v u _ I2 r1 r2 q2) fun c s3 ⟨z,H3,I3,r3,k,e,q3⟩=>?_) hm
 subst e
 cases r3
 exact wpAny_truthy_bool ⟨H3,I3,q3⟩
def tChain (r r':R2) (ta tb tc:TE):TE:=fun σ H Q=>ta σ H fun x H1=>tb σ H1 fun y H2=>r x y H2 fun z H3=>∃ k,z=.bl k ∧
 (if k=true then tc σ H3 fun w' H4=>r' y w' H4 Q else Q (.bl false) H3)
theorem pe_chain {op op':CmpOp} {r r':R2} (ho:OpR X (compareOp op) r) (ho':OpR X (compareOp op') r') (ha:PE X a ta) (hb:PE X b tb) (hc:PE X c tc)
  (hm:lastMarks [op,op'] [b,c]=false:=by with_unfolding_all rfl):PE X (.Compare a [op,op'] [b,c] pos) (tChain r r' ta tb tc):=by
 intro pins s σ H Q I h
 refine Compare_chain (thn (ha pins s σ H _ I h) fun v s1 ⟨x,H1,I1,r1,q1⟩=>chain_link (thn (hb pins s1 σ H1 _ I1 q1) fun u s2 ⟨y,H2,I2,r2,q2⟩ =>
  thn (ho pins s2 σ H2 x y v u _ I2 r1 r2 q2) fun d s3 ⟨z,H3,I3,r3,k,e,q3⟩=>?_)) hm
 subst e
 cases r3
 refine wpAny_truthy_bool ?_
 cases k with
 | false=>exact ite_ff ⟨.bl false,H3,I3,rfl,q3⟩
 | true=>exact ite_tt (chain_last (thn (hc pins s3 σ H3 _ I3 q3) fun w' s4 ⟨z',H4,I4,r4,q4⟩=>ho' pins s4 σ H4 y z' u w' Q I4 r2 r4 q4))
theorem line63:(sizeLine:Nat) < 2 ^ 63:=by rw [sizeLine_eq]; decide
theorem vals1 {x:V} {us:List Value} (r:Vals [x] us):∃ u,us=[u]∧RelV x u:=by
 cases r with
 | cons r1 r2=>cases r2; exact ⟨_,rfl,r1⟩
theorem vals2 {x y:V} {us:List Value} (r:Vals [x,y] us):∃ u w',us=[u,w']∧RelV x u∧RelV y w':=by
 cases r with
 | cons r1 r2 =>
  cases r2 with
  | cons r3 r4=>cases r4; exact ⟨_,_,rfl,r1,r3⟩
theorem call_abs:CallR X (.builtin "abs") (fun xs H Q=>∃ i,xs=[.int i]∧Q (.int (if i < 0 then -i else i)) H):=by
 intro pins s σ H xs us Q I r h
 obtain ⟨i,rfl,q⟩:=h
 obtain ⟨u,rfl,t,rfl⟩:=vals1 r
 exact call_abs_int fun u tk=>⟨.int (if i < 0 then -i else i),H,I.tok _,⟨_,rfl⟩,q⟩
end
end L2
namespace L2
open PySem PySem.Spec PyProof.Rows
structure ObjM (h:Heap) (x dx C:Addr) (mA:Str→Option Value):Prop where
 obj:h.get? x=some (PySem.W.instObj C dx)
 ns:h.Ns1 dx mA
 ne:dx≠x
theorem lookIn_ns {h:Heap} {dx:Addr} {mA:Str→Option Value} (n:h.Ns1 dx mA):∃ od,h.get? dx=some od∧∀ name,PySem.W.lookIn name od=some (mA name):=by
 obtain ⟨o,es,ep,ho,hd,hk,_,hm⟩:=n
 refine ⟨o,ho,fun name=>?_⟩
 have e:=hm name
 unfold nsFind findBy at e
 rw [← Array.find?_toList] at e
 unfold PySem.W.lookIn
 rw [hd]
 dsimp only
 split
 ·rename_i y q
  rw [q] at e
  exact congrArg some e
 ·rename_i q
  rw [q] at e
  have a:es.toList.any (·.refKey)=false:=by
   rw [List.any_eq_false]
   intro y hy
   obtain ⟨z,t,hkey⟩:=hk y (Array.mem_toList_iff.mp hy)
   simp [DictEntry.refKey,hkey]
  have a':¬ es.toList.any (·.refKey)=true:=by rw [a]; exact Bool.false_ne_true
  rw [if_neg a']
  exact congrArg some e
theorem ObjM.look {h:Heap} {x dx C:Addr} {mA:Str→Option Value} (I:ObjM h x dx C mA):∃ od,PySem.W.InstAt h x (PySem.W.instObj C dx) C (some od)∧∀ name,PySem.W.lookIn name od=some (mA name) :=
 let ⟨od,ho,hl⟩:=lookIn_ns I.ns
 ⟨od,⟨I.obj,rfl,rfl,ho⟩,hl⟩
section
variable {P:Program} {w:World} {H H':Hp} {h h':Heap} {a C dx:Addr} {fs fs':List (Str×V)}
theorem ins_get (hok:HOk P w H h) (e:H a=some (.ins C dx fs)):∃ mA,ObjM h a dx C mA∧(∀ f,RelO (fs.lookup f) (mA f))∧PySem.Within mA (fs.map (·.1))∧fs.length≤1000∧H dx=some (.own a):=by
 obtain ⟨d,z,ne,ob,mA,n,r,q⟩:=(show ObjOk P w H h a (.ins C dx fs) from hok a _ e)
 exact ⟨mA,⟨ob,n,ne⟩,r,q,z,d⟩
end
structure Cls (K:PySem.W.Frag) (C:Addr):Prop where
 pg:PySem.W.plainGet K C Str.empty=true
 hd:PySem.W.hasDictIn K C=true
 po:PySem.W.plainOver K C=true
 sa:PySem.W.findIn K (.ref C) "__setattr__" = some (some (.builtin "object.__setattr__"))
theorem Cls.get {K:PySem.W.Frag} {C:Addr} (c:Cls K C) (f:Str):PySem.W.plainGet K C f=true:=c.pg
section
variable {X:Cx} {pins:List (Addr×Obj)} {σ:St} {H:Hp} {s:Shared} {A:Around} {E:Value→Shared→Prop} {Q:Value→Shared→Prop} {c:Value} {b:Bool}
inductive TyOf (K:PySem.W.Frag) (H:Hp):V→Value→Prop where
 | non:TyOf K H .non (.type "NoneType")
 | bl (x:Bool):TyOf K H (.bl x) (.type "bool")
 | int (i:Int):TyOf K H (.int i) (.type "int")
 | str (x:Str):TyOf K H (.str x) (.type "str")
 | flt (x:UInt64):TyOf K H (.flt x) (.type "float")
 | lst {a:Addr} {xs:List V} (e:H a=some (.lst xs)):TyOf K H (.ref a) (.type "list")
 | frz {a:Addr} {o:Obj} {xs:List V} (e:H a=some (.frz o (.lst xs))):TyOf K H (.ref a) (.type "list")
 | tup {a:Addr} {xs:List V} (e:H a=some (.tup xs)):TyOf K H (.ref a) (.type "tuple")
 | dK {a:Addr} {kvs:List (Key×V)} (e:H a=some (.dK kvs)):TyOf K H (.ref a) (.type "dict")
 | dT {a:Addr} {kvs:List (List Key×V)} (e:H a=some (.dT kvs)):TyOf K H (.ref a) (.type "dict")
 | ins {a C dx:Addr} {fs:List (Str×V)} (e:H a=some (.ins C dx fs)) (cl:Cls K C) (ha:PySem.W.findIn K (.ref C) "__class__" = some (some (.builtin "object.__class__")))
   (hn:PySem.W.specialIn K (.builtin "object.__class__") "__get__" = some (some (.builtin "getset_descriptor.__get__"))) (htk:PySem.W.takesIn K (.builtin "object.__class__")=some true)
   (hm:PySem.W.mroIn K C (.type "object")=some true):TyOf K H (.ref a) (.ref C)
theorem isinst_ok {x:V} {u t:Value} (I:Inv X pins σ H s) (rx:RelV x u) (ty:TyOf X.K H x t) (e:PySem.W.kitOne X.K t c=some b) (h:∀ tk,Q (.bool b) { s with toks:=tk }) :
  wpAny (model X.prog X.w) A (call (.builtin "isinstance") [u,c]) Q E s:=by
 cases ty with
 | non=>cases (show u=Value.none from rx); exact PySem.W.kia_one PySem.W.kitx_none I.kIn True.intro e (fun z=>nomatch z) h
 | bl y=>cases (show u=Value.bool y from rx); exact PySem.W.kia_one PySem.W.kitx_bool I.kIn True.intro e (fun z=>nomatch z) h
 | int i=>obtain ⟨t,q⟩:=(show ∃ t,u=Value.int i t from rx); cases q; exact PySem.W.kia_one PySem.W.kitx_int I.kIn True.intro e (fun z=>nomatch z) h
 | str y=>obtain ⟨t,q⟩:=(show ∃ t,u=Value.str y t from rx); cases q; exact PySem.W.kia_one PySem.W.kitx_str I.kIn True.intro e (fun z=>nomatch z) h
 | flt y=>obtain ⟨t,q⟩:=(show ∃ t,u=Value.float y t from rx); cases q; exact PySem.W.kia_one PySem.W.kitx_float I.kIn True.intro e (fun z=>nomatch z) h
 | @lst a xs ea =>
  cases (show u=Value.ref a from rx)
  obtain ⟨_,_,n,_,h1⟩:=(show ObjOk X.prog X.w H s.heap a (.lst xs) from I.hok a _ ea)
  exact PySem.W.kia_one PySem.W.kitx_list I.kIn ⟨_,h1,rfl⟩ e (fun z=>nomatch z) h
 | @frz a ob xs ea =>
  cases (show u=Value.ref a from rx)
  obtain ⟨_,_,_,n,_,h1⟩:=(show ObjOk X.prog X.w H s.heap a (.frz ob (.lst xs)) from I.hok a _ ea)
  exact PySem.W.kia_one PySem.W.kitx_list I.kIn ⟨_,h1,rfl⟩ e (fun z=>nomatch z) h
 | @tup a xs ea =>
  cases (show u=Value.ref a from rx)
  obtain ⟨_,_,_,p⟩:=(show ObjOk X.prog X.w H s.heap a (.tup xs) from I.hok a _ ea)
  obtain ⟨o,h1,h2,_⟩:=p
  exact PySem.W.kia_one PySem.W.kitx_tuple I.kIn ⟨o,h1,h2⟩ e (fun z=>nomatch z) h
 | @dK a kvs ea =>
  cases (show u=Value.ref a from rx)
  obtain ⟨_,_,vs,_,p⟩:=(show ObjOk X.prog X.w H s.heap a (.dK kvs) from I.hok a _ ea)
  obtain ⟨o,es,ep,h1,h2,_⟩:=p
  exact PySem.W.kia_one PySem.W.kitx_dict I.kIn ⟨o,h1,h2.1⟩ e (fun z=>nomatch z) h
 | @dT a kvs ea =>
  cases (show u=Value.ref a from rx)
  obtain ⟨_,_,xs,_,o,es,ep,h1,h2,_⟩:=(show ObjOk X.prog X.w H s.heap a (.dT kvs) from I.hok a _ ea)
  exact PySem.W.kia_one PySem.W.kitx_dict I.kIn ⟨o,h1,h2.1⟩ e (fun z=>nomatch z) h
 | @ins a C dx fs ea cl ha hn htk hm =>
  cases (show u=Value.ref a from rx)
  obtain ⟨mA,O,_⟩:=ins_get I.hok ea
  obtain ⟨od,J,_⟩:=O.look
  exact PySem.W.kia_one (PySem.W.kitx_own (cl.get _) cl.hd ha hn htk hm) I.kIn J e (fun z=>nomatch z) h
end
end L2
namespace L2
open PySem PySem.Spec PyProof.Rows
structure Room (k:Nat) (A:Around):Prop where
 hd:A.handled=none
 dp:A.depth + 3 * k + 5 < recursionLimit
 un:A.units + 16 * k + 200 < cLine
theorem Room.mono {j k:Nat} {A:Around} (r:Room k A) (h:j≤k):Room j A:=⟨r.hd,by have:=r.dp; lia,by have:=r.un; lia⟩
theorem Room.deeper {k:Nat} {A:Around} (r:Room (k + 1) A) (env:Env):Room k (A.deeper env) :=
 ⟨r.hd,by have:=r.dp; show A.depth + 1 + 3 * k + 5 < _; lia,by have:=r.un; show A.units + 3 + 16 * k + 200 < _; lia⟩
theorem Room.depth {k:Nat} {A:Around} (r:Room k A):A.depth < recursionLimit:=by have:=r.dp; lia
theorem Room.units {k:Nat} {A:Around} (r:Room k A):A.units + 64 < cLine:=by have:=r.un; lia
def tNil:TA:=fun _ H Q=>Q [] H
def tCons (ta:TE) (tr:TA):TA:=fun σ H Q=>ta σ H fun x H1=>tr σ H1 fun xs H2=>Q (x :: xs) H2
section
variable {X:Cx} {e:Expr} {es:List Expr} {te:TE} {t:TA} {pos:Pos}
theorem pa_nil:PA X [] tNil:=fun _ _ _ _ H Q I h=>Calls.spliced_nil ⟨[],H,I,.nil,h⟩
theorem pa_cons (ha:PE X e te) (hr:PA X es t) (hs:starEach (e :: es) X.env=(false,eval e X.env) :: starEach es X.env:=by rfl):PA X (e :: es) (tCons te t):=by
 intro pos pins s σ H Q I h
 rw [hs]
 show wpAny _ _ (spliced ((false,eval e X.env) :: backTo pos (starEach es X.env))) _ _ s
 refine Calls.spliced_cons (thn (ha pins s σ H _ I h) fun u s1 ⟨x,H1,I1,r1,q1⟩=>?_)
 exact thn (hr pos pins s1 σ H1 _ I1 q1) fun us s2 ⟨xs,H2,I2,r2,q2⟩=>⟨x :: xs,H2,I2,.cons r1 r2,q2⟩
def tTup (t:TA):TE:=fun σ H Q=>t σ H fun xs H1=>xs.length≤sizeLine∧∀ p,H1 p=none→Q (.ref p) (upd H1 p (.tup xs))
def tLst (t:TA):TE:=fun σ H Q=>t σ H fun xs H1=>xs.length≤sizeLine∧∀ p,H1 p=none→Q (.ref p) (upd H1 p (.lst xs))
theorem pe_tup {x1} (h:PA X es t):PE X (.Tuple es x1 pos) (tTup t):=by
 intro pins s σ H Q I hq
 refine wpAny_Tuple_spliced (thn (h pos pins s σ H _ I hq) fun us s1 ⟨xs,H1,I1,r,z,q⟩=>⟨by rw [← r.length]; exact z,?_⟩)
 have hf:H1 s1.heap.objs.size=none:=I1.hok.fresh (Nat.le_refl _)
 refine ⟨.ref s1.heap.objs.size,upd H1 s1.heap.objs.size (.tup xs),I1.laid (t':=s1.toks) (fun b u e=>Heap.get?_push_of_some _ e) (Nat.le_refl _) ?_,rfl,q _ hf⟩
 exact ⟨z,us,r,⟨_,Heap.get?_push_size _ rfl,rfl,_,rfl⟩⟩
theorem pe_lst (h:PA X es t):PE X (.List es pos) (tLst t):=by
 intro pins s σ H Q I hq
 refine wpAny_List_spliced (thn (h pos pins s σ H _ I hq) fun us s1 ⟨xs,H1,I1,r,z,q⟩=>⟨by rw [← r.length]; exact z,?_⟩)
 have hf:H1 s1.heap.objs.size=none:=I1.hok.fresh (Nat.le_refl _)
 refine ⟨.ref s1.heap.objs.size,upd H1 s1.heap.objs.size (.lst xs),I1.laid (t':=s1.toks) (fun b u e=>Heap.get?_push_of_some _ e) (Nat.le_refl _) ?_,rfl,q _ hf⟩
 exact ⟨z,us,0,r,Heap.get?_push_size _ rfl⟩
end
abbrev Sp:=List V→Hp→VK→XK→Prop
abbrev CXT:=List Env→Hp→Shared→XK→Value→Shared→Prop
structure Env0 (P:Program) (w:World) (K:PySem.W.Frag) (mg:Str→Option Value) (base:Heap) (A:Around) (outer:List Env) (s:Shared) (H:Hp):Prop where
 frames:A.frames=some outer
 mod:Mod K mg base
 bs:∀ b o,base.get? b=some o→s.heap.get? b=some o∧H b=none
 bsz:base.objs.size≤s.heap.objs.size
 funs:s.heap.FunFrames base outer
 frf:∀ b∈frs outer,H b=none
 hok:HOk P w H s.heap
 bare:AllBare s.gens
 tab:TabsIn K H
def CE (outer:List Env) (P:Program) (w:World) (H:Hp) (s:Shared) (Q:VK) (u:Value) (s':Shared):Prop :=
 ∃ v H',s'.os=s.os∧AllBare s'.gens∧Un (frs outer) [] H H' s.heap s'.heap∧HOk P w H' s'.heap∧RelV v u∧Q v H'
def CR (CX:CXT) (outer:List Env) (P:Program) (w:World) (H:Hp) (s:Shared) (Q:VK) (E:XK) (r:Result) (s':Shared):Prop :=
 match r with
 | .ok (.ret u)=>CE outer P w H s Q u s'
 | .ok _=>False
 | .error e=>CX outer H s E e s'
structure FnOk (P:Program) (w:World) (K:PySem.W.Frag) (mg:Str→Option Value) (base:Heap) (CX:CXT) (k:Nat) (f:Addr) (fd:FuncData) (ps:List Str) (sp:Sp):Prop where
 len:∀ vs H Q E,sp vs H Q E→vs.length=ps.length
 run:∀ (A:Around) (outer:List Env) (s:Shared) (H:Hp) (args:Args) (us:List Value) (vs:List V) (Q:VK) (E:XK),Room k A→Env0 P w K mg base A outer s H→BindsTo s fd args (ps.zip us)→Vals vs us→sp vs H Q E →
  codeAny (model P w) A (.call (.ref f) args) (CR CX outer P w H s Q E) s
theorem FnOk.imp {P:Program} {w:World} {K:PySem.W.Frag} {mg:Str→Option Value} {base:Heap} {CX:CXT} {k:Nat} {f:Addr} {fd:FuncData} {ps:List Str} {sp sp':Sp} (F:FnOk P w K mg base CX k f fd ps sp)
  (h:∀ vs H Q E,sp' vs H Q E→sp vs H Q E):FnOk P w K mg base CX k f fd ps sp' :=
 ⟨fun vs H Q E q=>F.len vs H Q E (h _ _ _ _ q),fun A outer s H args us vs Q E hr he hb hv hs=>F.run A outer s H args us vs Q E hr he hb hv (h _ _ _ _ hs)⟩
section
variable {X:Cx} {pins:List (Addr×Obj)} {σ:St} {H:Hp} {s s':Shared}
theorem Inv.env0 (I:Inv X pins σ H s):Env0 X.prog X.w X.K X.mg X.base X.A X.stack s H :=
 ⟨I.ok.frames,I.ok.mod,I.bs,Nat.le_trans I.ok.bsz I.sz,I.stack,I.stkFree,I.hok,I.bare,I.tabs⟩
theorem Inv.after {Q:VK} {u:Value} (I:Inv X pins σ H s) (h:CE X.stack X.prog X.w H s Q u s'):EP X pins σ Q u s':=by
 obtain ⟨v,H',os,bare,un,hok,r,q⟩:=h
 obtain ⟨hh,g,d,t,os'⟩:=s'
 obtain rfl:os'=s.os:=os
 exact ⟨v,H',I.call (h':=hh) (g':=g) (d':=d) (t':=t) (ch:=[]) un hok bare (fun b z=>absurd z (by simp)),r,q⟩
end
def tCall (sp:Sp) (dvs:List V) (E:XK) (t:TA):TE:=fun σ H Q=>t σ H fun vs H1=>sp (vs ++ dvs) H1 Q E
def Binds (K:PySem.W.Frag) (fd:FuncData) (ps:List Str) (ds:List Value):Prop :=
 ∀ (s:Shared) (us:List Value),K.In s.heap→(us ++ ds).length=ps.length→BindsTo s fd ⟨us,[]⟩ (ps.zip (us ++ ds))
theorem Binds.all {K:PySem.W.Frag} {fd:FuncData} {ps:List Str} (h:∀ us:List Value,us.length=ps.length→bindArgs fd ⟨us,[]⟩=pure (ps.zip us)):Binds K fd ps []:=fun s us _ hl=>by
 rw [List.append_nil] at hl ⊢
 exact .of_eq (h us hl)
def Passes (CX:CXT) (X:Cx) (E:XK):Prop:=∀ (pins:List (Addr×Obj)) (σ:St) (H:Hp) (s:Shared) (e:Value) (s':Shared),Inv X pins σ H s→CX X.stack H s E e s'→X.xe e s'
section
variable {X:Cx} {CX:CXT} {k:Nat} {f C:Addr} {fd:FuncData} {ps:List Str} {sp:Sp} {dvs:List V} {ds:List Value} {E:XK} {x m:Str} {p pos apos:Pos} {e o:Expr} {es:List Expr} {ta:TE} {t:TA}
theorem run_fn {pins:List (Addr×Obj)} {σ:St} {H:Hp} {s:Shared} {Q:VK} {us:List Value} {vs:List V} (F:FnOk X.prog X.w X.K X.mg X.base CX k f fd ps sp) (hr:Room k X.A) (hb:Binds X.K fd ps ds) (hd:Vals dvs ds) (hx:Passes CX X E)
  (I:Inv X pins σ H s) (r:Vals vs us) (h:sp (vs ++ dvs) H Q E):wpAny (model X.prog X.w) X.A (call (.ref f) us) (EP X pins σ Q) X.xe s:=by
 have r2:Vals (vs ++ dvs) (us ++ ds):=r.append hd
 have hl:(us ++ ds).length=ps.length:=by rw [← r2.length]; exact F.len _ _ _ _ h
 refine wpAny_call (codeAny_mono (F.run X.A X.stack s H ⟨us,[]⟩ (us ++ ds) (vs ++ dvs) Q E hr I.env0 (hb s us I.kIn hl) r2 h) fun r s' hq=>?_)
 cases r with
 | error e=>exact hx pins σ H s e s' I hq
 | ok fl =>
  cases fl with
  | ret u=>exact I.after hq
  | next=>exact False.elim hq
  | brk=>exact False.elim hq
  | cont=>exact False.elim hq
theorem pe_call (F:FnOk X.prog X.w X.K X.mg X.base CX k f fd ps sp) (hr:Room k X.A) (hg:Gl X x) (hm:X.mg x=some (.ref f)) (hk:PySem.W.keepIn X.K (.ref f)=true) (hb:Binds X.K fd ps ds) (hd:Vals dvs ds) (hx:Passes CX X E)
  (ha:PA X (e :: es) t) (hdb:(x == ("__debug__" : Str))=false:=by decide) (he:starEach (e :: es) X.env=(false,eval e X.env) :: starEach es X.env:=by rfl) (hpl:(backTo pos (starEach es X.env)).any (·.1)=false:=by rfl) :
  PE X (.Call (.Name x p) (e :: es) [] pos) (tCall sp dvs E t):=by
 intro pins s σ H Q I h
 refine wpAny_Call_Name_kw (ld_glob I hg hm ?_ hdb)
 refine PySem.W.callWith_K (h₀:=X.base) I.ok.mod.kin hk (thn (ha pos pins s σ H _ I h) fun us s1 ⟨vs,H1,I1,r,q⟩=>⟨I1.kIn,?_⟩) he hpl
 exact run_fn F hr hb hd hx I1 r q
end
structure FnScope (N P:List Str) (sc:Scope):Prop where
 kind:sc.kind=.function
 co:sc.isCoroutine=false
 gen:sc.isGenerator=false
 nd:N.Nodup
 pre:N.take P.length=P
 par:∀ x∈P,sc.names.lookup x=some .local∨sc.names.lookup x=some .cell
 nofree:∀ y∈sc.names,y.2≠.free
theorem bindL_out {kindOf:Str→Option NameKind} {x:Str}:∀ {binds:List (Str×Value)} {m:Str→Option Value},(∀ v,(x,v) ∉ binds)→bindL kindOf binds m x=m x
 | [],_,_=>rfl
 | (n,v) :: r,m,h=>by
  unfold bindL
  rw [bindL_out fun w hw=>h w (List.mem_cons_of_mem _ hw)]
  split
  ·have:x≠n:=by rintro rfl; exact h v List.mem_cons_self
   simp [this]
  ·rfl
theorem bindC_out {kindOf:Str→Option NameKind} {x:Str}:∀ {binds:List (Str×Value)} {m:Str→Option Value},(∀ v,(x,v) ∉ binds)→bindC kindOf binds m x=m x
 | [],_,_=>rfl
 | (n,v) :: r,m,h=>by
  unfold bindC
  rw [bindC_out fun w hw=>h w (List.mem_cons_of_mem _ hw)]
  split
  ·rfl
  ·have:x≠n:=by rintro rfl; exact h v List.mem_cons_self
   simp [this]
theorem bindL_get {kindOf:Str→Option NameKind} {x:Str} {v:Value}:∀ {P:List Str} {vs:List Value} {i:Nat} {m:Str→Option Value},P.Nodup→P[i]?=some x→vs[i]?=some v→kindOf x=some .local →
  bindL kindOf (P.zip vs) m x=some v
 | [],_,_,_,_,h,_,_=>by simp at h
 | _ :: _,[],_,_,_,_,h,_=>by simp at h
 | p :: P,w :: vs,0,m,nd,h1,h2,hk=>by
  simp at h1 h2; subst h1; subst h2
  show bindL kindOf ((p,w) :: P.zip vs) m p=_
  unfold bindL
  rw [bindL_out fun v hv=>(List.nodup_cons.mp nd).1 (List.of_mem_zip hv).1,if_pos hk]
  simp
 | p :: P,w :: vs,i + 1,m,nd,h1,h2,hk=>by
  show bindL kindOf ((p,w) :: P.zip vs) m x=_
  unfold bindL
  exact bindL_get (i:=i) (List.nodup_cons.mp nd).2 (by simpa using h1) (by simpa using h2) hk
theorem bindC_get {kindOf:Str→Option NameKind} {x:Str} {v:Value}:∀ {P:List Str} {vs:List Value} {i:Nat} {m:Str→Option Value},P.Nodup→P[i]?=some x→vs[i]?=some v→kindOf x≠some .local →
  bindC kindOf (P.zip vs) m x=some v
 | [],_,_,_,_,h,_,_=>by simp at h
 | _ :: _,[],_,_,_,_,h,_=>by simp at h
 | p :: P,w :: vs,0,m,nd,h1,h2,hk=>by
  simp at h1 h2; subst h1; subst h2
  show bindC kindOf ((p,w) :: P.zip vs) m p=_
  unfold bindC
  rw [bindC_out fun v hv=>(List.nodup_cons.mp nd).1 (List.of_mem_zip hv).1,if_neg hk]
  simp
 | p :: P,w :: vs,i + 1,m,nd,h1,h2,hk=>by
  show bindC kindOf ((p,w) :: P.zip vs) m x=_
  unfold bindC
  exact bindC_get (i:=i) (List.nodup_cons.mp nd).2 (by simpa using h1) (by simpa using h2) hk
def start (N:List Str) (vs:List V):St:=vs.map some ++ List.replicate (N.length - vs.length) none
def cxOf (CX:CXT) (P:Program) (w:World) (K:PySem.W.Frag) (mg:Str→Option Value) (base:Heap) (N:List Str) (qual:Str) (scope:Scope) (f:Addr) (cd:Value) (A:Around) (outer:List Env) (s:Shared) (H:Hp) (E:XK):Cx where
 prog:=P
 w:=w
 K:=K
 mg:=mg
 base:=base
 A:=A.deeper (envOfC qual scope s.heap.objs.size f cd)
 N:=N
 s₀:=s
 H₀:=H
 env:=envOfC qual scope s.heap.objs.size f cd
 outer:=outer
 stack:=envOfC qual scope s.heap.objs.size f cd :: outer
 ex:=[]
 calm:=true
 fn:=fun _=>true
 pn:=[]
 xe:=fun e s'=>wpAny (model P w) (A.deeper (envOfC qual scope s.heap.objs.size f cd)) (leaving (envOfC qual scope s.heap.objs.size f cd) e) (fun _ s''=>CX outer H s E e s'') (fun e' s''=>CX outer H s E e' s'') s'
theorem cell_has {sc:Scope} {n:Nat} {x:Str} (h:sc.names.lookup x=some .cell):∃ c,(cellsFrom n sc.names []).lookup x=some c:=by
 have q:=PySem.W.cellsFrom_some sc.names n [] (.inl h)
 exact Option.isSome_iff_exists.mp q
theorem inv_start {CX:CXT} {P:Program} {w:World} {K:PySem.W.Frag} {mg:Str→Option Value} {base:Heap} {N ps:List Str} {qual:Str} {scope:Scope} {f:Addr} {cd:Value} {A:Around} {outer:List Env} {s s1:Shared} {H:Hp} {E:XK} {us:List Value} {vs:List V}
  (S:FnScope N ps scope) (hd:A.handled=none) (e0:Env0 P w K mg base A outer s H) (hl:vs.length=ps.length) (r:Vals vs us)
  (x:InCallC s s.heap.objs.size (bindL (envOfC qual scope s.heap.objs.size f cd).kindOf (ps.zip us) fun _=>none) (cellsFrom (s.heap.objs.size + 1) scope.names []) (bindC (envOfC qual scope s.heap.objs.size f cd).kindOf (ps.zip us) fun _=>none) s1) :
  Inv (cxOf CX P w K mg base N qual scope f cd A outer s H E) [] (start N vs) H s1:=by
 have hpl:ps.length≤N.length:=by have:=congrArg List.length S.pre; rw [List.length_take] at this; lia
 obtain ⟨h1,tk,rfl,hk⟩:=x.done
 have noA:∀ b:Addr,b ∉ (cxOf CX P w K mg base N qual scope f cd A outer s H E).ex:=fun b z=>absurd (show b∈([]:List Addr) from z) (by simp)
 refine ⟨⟨e0.mod,S.kind,rfl,rfl,Nat.le_refl _,fun y z c h1 h2=>?_,fun y hy=>?_,fun y c _ h=>?_,fun _=>hd,Around.frames_deeper e0.frames,.inr ⟨rfl,rfl⟩,fun b z=>absurd z (noA b),e0.bs,e0.bsz,fun b _ _=>noA b,fun b z=>absurd z (noA b),e0.funs,e0.frf,e0.tab⟩,
  rfl,e0.bare,Un.kept hk,⟨_,x.toInCall.ns,fun i y v h1 h2 h3=>?_⟩,fun y c h=>⟨_,x.cell y c h⟩,e0.hok.fresh (Nat.le_refl _),fun y c h=>?_,fun p hp=>absurd (show p∈([]:List (Addr×Obj)) from hp) (by simp),e0.hok.kept hk,?_⟩
 ·exact name_of_addr x.apart (PySem.mem_of_lookup h1) (PySem.mem_of_lookup h2)
 ·have hy:scope.names.lookup y=some .cell∨scope.names.lookup y=some .free:=hy
  rcases hy with hy | hy
  ·exact cell_has hy
  ·exact absurd rfl (S.nofree _ (PySem.mem_of_lookup hy))
 ·exact Nat.le_of_lt (x.above y c (PySem.mem_of_lookup h))
 ·have hi:i < vs.length:=by
   unfold start at h2
   by_cases hi:i < vs.length
   ·exact hi
   ·rw [List.getElem?_append_right (by simpa using hi)] at h2
    rw [List.getElem?_replicate] at h2
    split at h2 <;> cases h2
  have ha:vs[i]?=some v:=by
   unfold start at h2
   rw [List.getElem?_append_left (by simpa using hi),List.getElem?_map] at h2
   cases e:vs[i]? with
   | none=>rw [e] at h2; cases h2
   | some a=>rw [e] at h2; cases h2; rfl
  obtain ⟨u,hu,rv⟩:=r.get ha
  have hp:ps[i]?=some y:=by
   rw [← S.pre,List.getElem?_take_of_lt (by lia)]; exact h1
  have ndP:ps.Nodup:=by rw [← S.pre]; exact S.nd.sublist (List.take_sublist _ _)
  refine ⟨u,rv,?_⟩
  rcases S.par y (List.mem_of_getElem? hp) with k | k
  ·exact .inl ⟨k,bindL_get ndP hp hu k⟩
  ·obtain ⟨c,e⟩:=cell_has (n:=s.heap.objs.size + 1) k
   refine .inr ⟨.inl k,c,e,?_⟩
   have q:=x.cell y c e
   rw [bindC_get ndP hp hu (by show scope.names.lookup y≠_; rw [k]; decide)] at q
   exact q
 ·exact e0.hok.fresh (Nat.le_of_lt (x.above y c (PySem.mem_of_lookup h)))
 ·unfold start
  show _=N.length
  rw [List.length_append,List.length_map,List.length_replicate]
  lia
theorem fn_of {CX:CXT} {P:Program} {w:World} {K:PySem.W.Frag} {mg:Str→Option Value} {base:Heap} {k:Nat} {f:Addr} {name qual:Str} {params:Arguments} {body:List Stmt} {scope:Scope} {dV kV doc pm cdv ct oc:Value} {an od:Option Addr}
  {osl:Array (Option Value)} {N ps:List Str} {sp:Sp} (lk:K.lookup f=some ⟨oc,od,.func (PySem.W.fnOf name qual params body scope dV kV doc pm an cdv ct),osl⟩) (hcd:PySem.W.codeIn K cdv qual=true) (S:FnScope N ps scope)
  (len:∀ vs H Q E,sp vs H Q E→vs.length=ps.length)
  (hbody:∀ (A:Around) (outer:List Env) (s:Shared) (H:Hp) (vs:List V) (Q:VK) (E:XK),Room k (A.deeper (envOfC qual scope s.heap.objs.size f cdv))→sp vs H Q E →
   ∃ t,PSs (cxOf CX P w K mg base N qual scope f cdv A outer s H E) body t∧t { nx:=fun _ H'=>Q .non H',rt:=Q } (start N vs) H) :
  FnOk P w K mg base CX (k + 1) f (PySem.W.fnOf name qual params body scope dV kV doc pm an cdv ct) ps sp:=by
 refine ⟨len,fun A outer s H args us vs Q E hr e0 hb r hsp=>?_⟩
 have hl:=len _ _ _ _ hsp
 have KX:K.In s.heap:=e0.mod.kin.keeps fun b o e=>(e0.bs b o e).1
 have lim:s.heap.NoLimit:=e0.mod.nolimit.keeps fun b o e=>(e0.bs b o e).1
 have hkind:∀ y∈ps.zip us,scope.names.lookup y.1=some .local∨(scope.names.lookup y.1=some .cell∧((cellsFrom (s.heap.objs.size + 1) scope.names []).lookup y.1).isSome=true):=fun ⟨n,v⟩ hy=>by
  rcases S.par n (List.of_mem_zip hy).1 with q | q
  ·exact .inl q
  ·exact .inr ⟨q,PySem.W.cellsFrom_some _ _ _ (.inl q)⟩
 refine codeAny_call_function hr.depth (KX _ _ lk) rfl S.co S.gen rfl (PySem.W.codeRec_of KX hcd) (hb _ _ _ _ ?_)
 refine wpAny_newFunctionEnv_cells S.kind hkind fun env he s1 x=>?_
 subst he
 refine ⟨lim.keeps x.toInCall.keep,codeAny_func ?_⟩
 obtain ⟨t,ht,hq⟩:=hbody A outer s H vs Q E (hr.deeper _) hsp
 have I:Inv (cxOf CX P w K mg base N qual scope f cdv A outer s H E) [] (start N vs) H s1:=inv_start S hr.hd e0 hl r x
 refine wpAny_mono (ht [] s1 (start N vs) H _ I hq) (fun fl s' hs=>?_) fun e s' hs=>hs
 have fin:∀ {σ':St} {H':Hp} {v:V} {u:Value},Inv (cxOf CX P w K mg base N qual scope f cdv A outer s H E) [] σ' H' s'→RelV v u→Q v H'→CE outer P w H s Q u s' :=
  fun {σ' H' v u} J rv q=>⟨v,H',J.os,J.bare,J.base,J.hok,rv,q⟩
 cases fl with
 | ret u =>
  obtain ⟨v,σ',H',J,rv,q⟩:=hs
  exact fin J rv q
 | next =>
  obtain ⟨σ',H',J,q⟩:=hs
  exact fin (v:=V.non) (u:=Value.none) J rfl q
 | brk =>
  obtain ⟨_,_,_,q⟩:=hs
  exact False.elim q
 | cont =>
  obtain ⟨_,_,_,q⟩:=hs
  exact False.elim q
end L2
namespace L2
open PySem PySem.Spec PyProof.Rows
section
variable {X:Cx} {x:Str} {p pos:Pos} {e:Expr} {es:List Expr} {t:TA} {id T:String} {r:List V→Hp→VK→Prop}
def tCB (r:List V→Hp→VK→Prop) (t:TA):TE:=fun σ H Q=>t σ H fun vs H1=>r vs H1 Q
theorem pe_callB (hc:CallR X (.builtin id) r) (hg:Gl X x) (hm:X.mg x=none) (hv:bootBuiltins x=some (.builtin id)) (ha:PA X (e :: es) t) (hn:x ≠ "__name__" := by decide) (hdb:(x == ("__debug__" : Str))=false:=by decide)
  (he:starEach (e :: es) X.env=(false,eval e X.env) :: starEach es X.env:=by rfl) (hpl:(backTo pos (starEach es X.env)).any (·.1)=false:=by rfl):PE X (.Call (.Name x p) (e :: es) [] pos) (tCB r t):=by
 intro pins s σ H Q I h
 refine wpAny_Call_Name_kw (ld_blt I hg hm hv ?_ hn hdb)
 exact PyProof.Rows.callWith_builtin1 (thn (ha pos pins s σ H _ I h) fun us s1 ⟨vs,H1,I1,r1,q1⟩=>hc pins s1 σ H1 vs us Q I1 r1 q1) he hpl
theorem pe_callTy (hc:CallR X (.type T) r) (hg:Gl X x) (hm:X.mg x=none) (hv:bootBuiltins x=some (.type T)) (ha:PA X (e :: es) t) (hn:x ≠ "__name__" := by decide) (hdb:(x == ("__debug__" : Str))=false:=by decide)
  (he:starEach (e :: es) X.env=(false,eval e X.env) :: starEach es X.env:=by rfl) (hpl:(backTo pos (starEach es X.env)).any (·.1)=false:=by rfl):PE X (.Call (.Name x p) (e :: es) [] pos) (tCB r t):=by
 intro pins s σ H Q I h
 refine wpAny_Call_Name_kw (ld_blt I hg hm hv ?_ hn hdb)
 exact PyProof.Rows.callWith_type1 (thn (ha pos pins s σ H _ I h) fun us s1 ⟨vs,H1,I1,r1,q1⟩=>hc pins s1 σ H1 vs us Q I1 r1 q1) he hpl
end
end L2
namespace HT
open PySem PyProof.Rows
theorem eqAt_int (A:Around) (s:Shared) (a:Int) (t:Tok) (c:Int) (u:Tok):∃ e,SeqAt.EqAt A s (.int a t) (.int c u) e∧(e=true↔a=c) :=
 ⟨(a == c),SeqAt.EqAt.int_int a t c u,by simp⟩
section
variable {prog:Program} {w:World} {A:Around} {E:Value→Shared→Prop} {s:Shared}
def sIx (n d:Nat):Option Int→Nat
 | none=>d
 | some v=>if v < 0 then (v + (n:Int)).toNat else min v.toNat n
end
end HT
namespace L2
open PySem PySem.Spec PyProof.Rows
abbrev TO:=St→Hp→(Option Int→Hp→Prop)→Prop
def PO (X:Cx) (e:Option Expr) (t:TO):Prop :=
 ∀ (pins:List (Addr×Obj)) (s:Shared) (σ:St) (H:Hp) (Q:Option Int→Hp→Prop),Inv X pins σ H s→t σ H Q →
  wpAny (model X.prog X.w) X.A (evalPart e X.env) (fun u s'=>∃ o H',Inv X pins σ H' s'∧IsPart u o∧Q o H') X.xe s
def tNoPart:TO:=fun _ H Q=>Q none H
def tPart (t:TE):TO:=fun σ H Q=>t σ H fun x H1=>∃ i,x=.int i∧Q (some i) H1
theorem intsAre_of {ns:List Int}:∀ {us:List Value},Vals (ns.map V.int) us→IntsAre us ns:=by
 induction ns with
 | nil=>intro us r; rw [List.map_nil] at r; cases r; exact .nil
 | cons n ns ih =>
  intro us r
  rw [List.map_cons] at r
  cases r with
  | cons r1 r2 =>
   obtain ⟨t,e⟩:=r1
   subst e
   exact .cons n t (ih r2)
section
variable {X:Cx} {e:Expr} {te:TE} {lo hi:Option Expr} {tl th:TO} {pos p2:Pos}
theorem po_none:PO X none tNoPart:=by
 intro pins s σ H Q I h
 rw [evalPart_none]
 exact wpAny_pure ⟨none,H,I,.none,h⟩
theorem po_some (h:PE X e te):PO X (some e) (tPart te):=by
 intro pins s σ H Q I hw
 rw [evalPart_some]
 refine thn (h pins s σ H _ I hw) fun u s1 ⟨x,H1,I1,r1,q1⟩=>?_
 obtain ⟨i,rfl,q⟩:=q1
 obtain ⟨t,rfl⟩:=r1
 exact ⟨some i,H1,I1,.int i t,q⟩
def SlR (X:Cx) (r:V→Option Int→Option Int→Hp→VK→Prop):Prop :=
 ∀ (pins:List (Addr×Obj)) (s:Shared) (σ:St) (H:Hp) (x:V) (v vl vu:Value) (lo hi:Option Int) (sl:Addr) (Q:VK),Inv X pins σ H s→RelV x v→s.heap.IsSliceOf sl vl vu .none→IsPart vl lo→IsPart vu hi→r x lo hi H Q →
  ∃ T id,typeLookup (.type T) "__getitem__" = pure (some (.builtin id))∧s.TypeIs v T∧wpAny (model X.prog X.w) X.A (getItem v (.ref sl)) (EP X pins σ Q) X.xe s
def tSl (r:V→Option Int→Option Int→Hp→VK→Prop) (te:TE) (tl th:TO):TE:=fun σ H Q=>te σ H fun x H1=>tl σ H1 fun l H2=>th σ H2 fun u H3=>r x l u H3 Q
theorem pe_slice {r:V→Option Int→Option Int→Hp→VK→Prop} (hr:SlR X r) (he:PE X e te) (hl:PO X lo tl) (hu:PO X hi th):PE X (.Subscript e (.Slice lo hi none p2) pos) (tSl r te tl th):=by
 intro pins s σ H Q I h
 refine Subscript_ (thn (he pins s σ H _ I h) fun v s1 ⟨x,H1,I1,r1,q1⟩=>?_)
 refine wpAny_Slice (thn (hl pins s1 σ H1 _ I1 q1) fun vl s2 ⟨l,H2,I2,pl,q2⟩=>thn (hu pins s2 σ H2 _ I2 q2) fun vu s3 ⟨u,H3,I3,pu,q3⟩=>?_)
 rw [evalPart_none]
 refine wpAny_pure ?_
 have I4:Inv X pins σ H3 { s3 with heap:=s3.heap.push { cls:=.type "slice", data:=.fields #[vl,vu,.none] } }:=I3.kept (t':=s3.toks) fun b ob q=>Heap.get?_push_of_some _ q
 obtain ⟨T,id,hT,ht,hg⟩:=hr pins { s3 with heap:=s3.heap.push { cls:=.type "slice", data:=.fields #[vl,vu,.none] } } σ H3 x v vl vu l u s3.heap.objs.size Q I4 r1 (Heap.IsSliceOf.new ..) pl pu q3
 show wpAny (model X.prog X.w) X.A (subscriptTail e (.Slice lo hi none p2) v (.ref s3.heap.objs.size)) (EP X pins σ Q) X.xe { s3 with heap:=s3.heap.push { cls:=.type "slice", data:=.fields #[vl,vu,.none] } }
 exact tail_any (ops:=[.ref s3.heap.objs.size,v]) ht hT hg (by with_unfolding_all rfl)
def cutV (xs:List V) (lo hi:Option Int):List V:=(xs.drop (HT.sIx xs.length 0 lo)).take (HT.sIx xs.length xs.length hi - HT.sIx xs.length 0 lo)
theorem cutV_length (xs:List V) (lo hi:Option Int):(cutV xs lo hi).length≤xs.length:=by
 unfold cutV
 rw [List.length_take,List.length_drop]
 lia
end
end L2
namespace L2
open PySem PySem.Spec PyProof.Rows
def ixN (n:Nat) (i:Int):Option Nat:=if 0≤i then (if i < n then some i.toNat else none) else if -(n:Int)≤i then some (i + n).toNat else none
def atI {α:Type} (xs:List α) (i:Int):Option α:=(ixN xs.length i).bind fun j=>xs[j]?
theorem ixN_seq {n:Nat} {i:Int} {j:Nat} (h:ixN n i=some j):seqIndex? i n=some j∧j < n ∧ -(n:Int)≤i∧i < n:=by
 unfold ixN at h
 by_cases h0:0≤i
 ·rw [if_pos h0] at h
  by_cases h1:i < n
  ·rw [if_pos h1] at h
   have e:i.toNat=j:=Option.some.inj h
   exact ⟨by rw [seqIndex_of h0 h1,e],by lia,by lia,h1⟩
  ·rw [if_neg h1] at h; cases h
 ·rw [if_neg h0] at h
  by_cases h1 : -(n:Int)≤i
  ·rw [if_pos h1] at h
   have e:(i + n).toNat=j:=Option.some.inj h
   exact ⟨by rw [seqIndex_neg (by lia) h1,e],by lia,h1,by lia⟩
  ·rw [if_neg h1] at h; cases h
theorem atI_get {α:Type} {xs:List α} {i:Int} {v:α} (h:atI xs i=some v):∃ j,seqIndex? i xs.length=some j∧xs[j]?=some v∧j < xs.length ∧ -(xs.length:Int)≤i∧i < xs.length:=by
 unfold atI at h
 cases e:ixN xs.length i with
 | none=>rw [e] at h; cases h
 | some j =>
  rw [e] at h
  obtain ⟨h1,h2,h3,h4⟩:=ixN_seq e
  exact ⟨j,h1,h,h2,h3,h4⟩
def PlainIx (b:Expr):Prop:=∀ o i,subscripted b false o i=operate [o,i] (getItem o i)
def IxR (X:Cx) (r:R2):Prop :=
 ∀ (value slice:Expr) (pins:List (Addr×Obj)) (s:Shared) (σ:St) (H:Hp) (x y:V) (v u:Value) (Q:VK),Inv X pins σ H s→RelV x v→RelV y u→r x y H Q →
  subscripted slice false v u=operate [v,u] (getItem v u)→wpAny (model X.prog X.w) X.A (subscriptTail value slice v u) (EP X pins σ Q) X.xe s
def MtR (X:Cx) (id:String) (r:V→List V→Hp→VK→Prop):Prop :=
 ∀ (pins:List (Addr×Obj)) (s:Shared) (σ:St) (H:Hp) (x:V) (xs:List V) (v:Value) (us:List Value) (Q:VK),Inv X pins σ H s→RelV x v→Vals xs us→r x xs H Q →
  wpAny (model X.prog X.w) X.A (call (.builtin id) (v :: us)) (EP X pins σ Q) X.xe s
section
variable {X:Cx} {a b:Expr} {ta tb:TE} {pos:Pos}
theorem pe_ix {r:R2} (hr:IxR X r) (ha:PE X a ta) (hb:PE X b tb) (hs:PlainIx b):PE X (.Subscript a b pos) (tOp r ta tb):=by
 intro pins s σ H Q I h
 exact Subscript_ (binT ha hb I h fun v u s2 x y H2 I2 rx ry q=>hr a b pins s2 σ H2 x y v u Q I2 rx ry q (hs _ _))
def rIxL (K:PySem.W.Frag):R2:=fun x y H Q=>∃ p xs i v,x=.ref p∧y=.int i∧SqL K H p xs∧atI xs i=some v∧Q v H
def rIxT (K:PySem.W.Frag):R2:=fun x y H Q=>∃ p xs i v,x=.ref p∧y=.int i∧SqT K H p xs∧atI xs i=some v∧Q v H
theorem ix_list:IxR X (rIxL X.K):=by
 intro value slice pins s σ H x y v u Q I rx ry h hs
 obtain ⟨p,xs,i,z,rfl,rfl,hq,he,q⟩:=h
 cases rx
 obtain ⟨t,rfl⟩:=ry
 obtain ⟨its,r,pl,hz⟩:=I.list hq
 obtain ⟨j,h1,h2,h3,h4,h5⟩:=atI_get he
 obtain ⟨w,ew,rw'⟩:=r.get h2
 have hl:=r.length
 have hn:=line63
 have fin:EP X pins σ Q w s:=⟨z,H,I,rw',q⟩
 by_cases h0:0≤i
 ·have hj:i.toNat=j:=by
   rw [seqIndex_of h0 h5] at h1
   exact Option.some.inj h1
  exact item_listR pl.isList h0 (by lia) (by rw [hj]; simpa using ew) fin hs
 ·have hj:(i + (its.toArray.size:Int)).toNat=j:=by
   rw [seqIndex_neg (by lia) h4] at h1
   rw [List.size_toArray,← hl]
   exact Option.some.inj h1
  exact subscriptTail_builtinR (x:=w) pl.isList.typeIs slot_list_getitem.lookup
   (wpAny_getItem_list_neg (Q:=fun r s'=>r=w∧EP X pins σ Q r s') pl.isList (by lia) (by rw [List.size_toArray] <;> lia) (by lia) (by rw [hj]; simpa using ew) ⟨rfl,fin⟩) hs
theorem ix_tup:IxR X (rIxT X.K):=by
 intro value slice pins s σ H x y v u Q I rx ry h hs
 obtain ⟨p,xs,i,z,rfl,rfl,hq,he,q⟩:=h
 cases rx
 obtain ⟨t,rfl⟩:=ry
 obtain ⟨its,r,pl,hz⟩:=I.tuple hq
 obtain ⟨j,h1,h2,h3,h4,h5⟩:=atI_get he
 obtain ⟨w,ew,rw'⟩:=r.get h2
 have hl:=r.length
 have hn:=line63
 have fin:EP X pins σ Q w s:=⟨z,H,I,rw',q⟩
 exact subscriptTail_builtinR (x:=w) pl.typeIs slot_tuple_getitem.lookup
  (getItem_tuple (j:=j) (Q:=fun r s'=>r=w∧EP X pins σ Q r s') pl (by lia) (by lia) (by rw [List.size_toArray,← hl]; exact h1) (by simpa using ew) ⟨rfl,fin⟩) hs
theorem mapSeq_set (its:List Value) (n j:Nat) (u:Value):Obj.mapSeq (·.setIfInBounds j u) { cls:=.type "list", data:=.seq its.toArray n }={ cls:=.type "list", data:=.seq (its.set j u).toArray n }:=by
 simp [Obj.mapSeq]
theorem Inv.lst {pins:List (Addr×Obj)} {σ:St} {H:Hp} {s:Shared} {p:Addr} {xs:List V} (I:Inv X pins σ H s) (h:H p=some (.lst xs)) :
  ∃ (its:List Value) (n:Nat),Vals xs its∧s.heap.get? p=some { cls:=.type "list", data:=.seq its.toArray n }∧xs.length≤sizeLine:=by
 obtain ⟨z,its,n,r,e⟩:=I.hok p _ h
 exact ⟨its,n,r,e,z⟩
theorem Inv.lstUpd {pins:List (Addr×Obj)} {σ:St} {H:Hp} {s:Shared} {p:Addr} {xs ys:List V} {its its':List Value} {n n':Nat} {f:Obj→Obj} (I:Inv X pins σ H s) (h:H p=some (.lst xs))
  (ho:s.heap.get? p=some { cls:=.type "list", data:=.seq its.toArray n }) (hf:f { cls:=.type "list", data:=.seq its.toArray n }={ cls:=.type "list", data:=.seq its'.toArray n' }) (r:Vals ys its') (hz:ys.length≤sizeLine) (t:Nat) :
  Inv X pins σ (upd H p (.lst ys)) { s with heap:=s.heap.update p f,toks:=t }:=by
 have e:(s.heap.update p f).get? p=some { cls:=.type "list", data:=.seq its'.toArray n' }:=by
  rw [Heap.get?_update_self f ho (by rw [hf] <;> rfl),hf]
 refine I.write (x:=p) (e:=p) (by rw [h]; trivial) (.inl rfl) (fun b u hb q=>(Heap.get?_update_other _ _ (Ne.symm hb)).trans q) ⟨_,e⟩ ?_
 exact ⟨hz,its',n',r,e⟩
def rSetL:V→V→V→Hp→(Hp→Prop)→Prop:=fun o i v H Q=>∃ p xs k j,o=.ref p∧i=.int k∧H p=some (.lst xs)∧ixN xs.length k=some j∧Q (upd H p (.lst (xs.set j v)))
theorem set_list:PSet X rSetL:=by
 intro pins s σ H o i v ov iv u Q I ro ri rv h
 obtain ⟨p,xs,k,j,rfl,rfl,hp,hj,q⟩:=h
 cases ro
 obtain ⟨t,rfl⟩:=ri
 obtain ⟨its,n,r,ho,hz⟩:=I.lst hp
 obtain ⟨h1,h2,h3,h4⟩:=ixN_seq hj
 have hl:=r.length
 have hn:=line63
 have I':Inv X pins σ (upd H p (.lst (xs.set j v))) { s with heap:=s.heap.update p (Obj.mapSeq (·.setIfInBounds j u)) } :=
  I.lstUpd hp ho (mapSeq_set its n j u) (r.set rv j) (by rw [List.length_set]; exact hz) s.toks
 by_cases h0:0≤k
 ·have hk:k.toNat=j:=by
   rw [seqIndex_of h0 h4] at h1
   exact Option.some.inj h1
  exact PySem.W.ki_setAt ho h0 (by lia) (by rw [List.size_toArray,← hl]; exact h4) (by rw [hk]; exact ⟨_,I',q⟩)
 ·have hk:(k + (its.toArray.size:Int)).toNat=j:=by
   rw [seqIndex_neg (by lia) h3] at h1
   rw [List.size_toArray,← hl]
   exact Option.some.inj h1
  exact PySem.W.ki_setBack ho (by lia) (by rw [List.size_toArray,← hl]; exact h3) (by lia) (by rw [hk]; exact ⟨_,I',q⟩)
theorem slice_bounds (lo hi:Option Int) (n:Nat):(sliceBounds lo hi none n).1=((HT.sIx n 0 lo:Nat):Int)∧(sliceBounds lo hi none n).2.1=((HT.sIx n n hi:Nat):Int)∧(sliceBounds lo hi none n).2.2=1:=by
 refine ⟨?_,?_,rfl⟩
 ·cases lo with
  | none=>simp [sliceBounds,HT.sIx]
  | some i =>
   simp only [sliceBounds,HT.sIx,Option.getD_none,show (1:Int) > 0 by decide,if_true]
   by_cases h:i < 0
   ·simp only [h,if_true] <;> lia
   ·simp only [h,if_false] <;> lia
 ·cases hi with
  | none=>simp [sliceBounds,HT.sIx]
  | some i =>
   simp only [sliceBounds,HT.sIx,Option.getD_none,show (1:Int) > 0 by decide,if_true]
   by_cases h:i < 0
   ·simp only [h,if_true] <;> lia
   ·simp only [h,if_false] <;> lia
theorem slicePick_cut (its:List Value) (lo hi:Option Int):slicePick its.toArray lo hi none=((its.drop (HT.sIx its.length 0 lo)).take (HT.sIx its.length its.length hi - HT.sIx its.length 0 lo)).toArray:=by
 obtain ⟨h1,h2,h3⟩:=slice_bounds lo hi its.toArray.size
 unfold slicePick
 rw [h1,h2,h3]
 simp only [sliceRange_one,pick_run,List.size_toArray] <;> rfl
def rSlL (K:PySem.W.Frag):V→Option Int→Option Int→Hp→VK→Prop:=fun x lo hi H Q=>∃ a xs,x=.ref a∧SqL K H a xs∧∀ p,H p=none→Q (.ref p) (upd H p (.lst (cutV xs lo hi)))
theorem sl_list:SlR X (rSlL X.K):=by
 intro pins s σ H x v vl vu lo hi sl Q I rx hs pl pu h
 obtain ⟨a,xs,rfl,hx,q⟩:=h
 cases rx
 obtain ⟨its,r,ht,hz⟩:=I.list hx
 have hlen:=r.length
 refine ⟨"list", _,slot_list_getitem.lookup,ht.isList.typeIs,?_⟩
 refine wpAny_getItem_list_slice ht.isList hs pl pu .none (by simp) ?_ (by rw [List.size_toArray] <;> lia)
 rw [slicePick_cut,← hlen]
 refine ⟨.ref s.heap.objs.size,_,I.laid (t':=s.toks) (o:=.lst (cutV xs lo hi)) (fun b ob q=>Heap.get?_push_of_some _ q) (Nat.le_refl _) ?_,rfl,q _ (I.hok.fresh (Nat.le_refl _))⟩
 exact ⟨Nat.le_trans (cutV_length xs lo hi) hz,_,0,(r.drop (HT.sIx xs.length 0 lo)).take (HT.sIx xs.length xs.length hi - HT.sIx xs.length 0 lo),Heap.get?_push_size _ rfl⟩
theorem call_len_seq:CallR X (.builtin "len") (fun xs H Q=>∃ p ys,xs=[.ref p]∧(SqL X.K H p ys∨SqT X.K H p ys)∧Q (.int ys.length) H):=by
 intro pins s σ H xs us Q I r h
 obtain ⟨p,ys,rfl,hq,q⟩:=h
 obtain ⟨u,rfl,rx⟩:=vals1 r
 cases rx
 have hn:=line63
 rcases hq with hq | hq
 ·obtain ⟨its,r',pl,hz⟩:=I.list hq
  have hlen:=r'.length
  exact Calls.call_len_list pl.isList (by simp only [List.size_toArray] <;> lia) ⟨.int ys.length,H,I.tok _,⟨s.toks + 1,by rw [List.size_toArray,hlen]⟩,q⟩
 ·obtain ⟨its,r',pl,hz⟩:=I.tuple hq
  have hlen:=r'.length
  exact len_tuple pl (by simp only [List.size_toArray] <;> lia) ⟨.int ys.length,H,I.tok _,⟨s.toks + 1,by rw [List.size_toArray,hlen]⟩,q⟩
theorem call_list_of:CallR X (.type "list") (fun xs H Q=>∃ p ys,xs=[.ref p]∧(SqL X.K H p ys∨SqT X.K H p ys)∧∀ l,H l=none→Q (.ref l) (upd H l (.lst ys))):=by
 intro pins s σ H xs us Q I r h
 obtain ⟨p,ys,rfl,hq,q⟩:=h
 obtain ⟨u,rfl,rx⟩:=vals1 r
 cases rx
 have fin:∀ (its:List Value),Vals ys its→ys.length≤sizeLine→∀ (h':Heap) (c':Nat),(∀ b o',s.heap.get? b=some o'→h'.get? b=some o') →
   h'.get? s.heap.objs.size=some { cls:=.type "list", dict:=none,data:=.seq its.toArray c',slots := #[] }→EP X pins σ Q (.ref s.heap.objs.size) { s with heap:=h' }:=fun its r' hz h' c' kp e =>
  ⟨.ref s.heap.objs.size,_,I.laid (t':=s.toks) kp (Nat.le_refl _) (show ObjOk X.prog X.w _ h' _ (.lst ys) from ⟨hz,its,c',r',e⟩),rfl,q _ (I.hok.fresh (Nat.le_refl _))⟩
 rcases hq with hq | hq
 ·obtain ⟨its,r',pl,hz⟩:=I.list hq
  have hlen:=r'.length
  obtain ⟨o,ho,hc,n,hd⟩:=pl.isList
  exact call_list_seq p (.inl rfl) ho hc hd (fun h' c' kp e=>fin its r' hz h' c' kp e) (by simp only [List.size_toArray] <;> lia)
 ·obtain ⟨its,r',pl,hz⟩:=I.tuple hq
  have hlen:=r'.length
  obtain ⟨o,ho,hc,n,hd⟩:=pl
  exact call_list_seq p (.inr rfl) ho hc hd (fun h' c' kp e=>fin its r' hz h' c' kp e) (by simp only [List.size_toArray] <;> lia)
def tyV (K:PySem.W.Frag) (T:String) (x:V) (H:Hp):Prop:=match x with
 | .str _=>T = "str"
 | .int _=>T = "int"
 | .ref p=>(T = "list" ∧ ∃ xs,SqL K H p xs)∨(T = "tuple" ∧ ∃ o,K.lookup p=some o∧o.cls=.type "tuple" ∧ o.dict=none) ∨
   (T = "dict" ∧ ((∃ kvs,H p=some (.dK kvs))∨∃ kvs,H p=some (.dT kvs)))∨(T = "set" ∧ ∃ S n,H p=some (.set S n))
 | _=>False
theorem tyV_is {pins:List (Addr×Obj)} {σ:St} {H:Hp} {s:Shared} {T:String} {x:V} {v:Value} (I:Inv X pins σ H s) (r:RelV x v) (ty:tyV X.K T x H) :
  s.TypeIs v T∧∀ a,v=.ref a→∃ ob,s.heap.get? a=some ob∧ob.dict=none:=by
 cases x with
 | str z =>
  obtain ⟨t,rfl⟩:=r
  cases (show T = "str" from ty)
  exact ⟨typeIs_str s z t,fun _ e=>nomatch e⟩
 | int i =>
  obtain ⟨t,rfl⟩:=r
  cases (show T = "int" from ty)
  exact ⟨typeIs_int s i t,fun _ e=>nomatch e⟩
 | ref p =>
  cases r
  rcases ty with ⟨rfl,xs,hq⟩ | ⟨rfl,o,hk,hc,hd⟩ | ⟨rfl,hk⟩ | ⟨rfl,S,n,hk⟩
  ·obtain ⟨its,_,pl,_⟩:=I.list hq
   refine ⟨pl.isList.typeIs,fun a e=>?_⟩
   cases e
   obtain ⟨o,n,e,c,hd,_⟩:=pl
   exact ⟨o,e,hd⟩
  ·refine ⟨⟨o,I.kIn p o hk,hc⟩,fun a e=>?_⟩
   cases e
   exact ⟨o,I.kIn _ o hk,hd⟩
  ·have z:∃ o,s.heap.get? p=some o∧o.ExactDict:=by
    rcases hk with ⟨kvs,hk⟩ | ⟨kvs,hk⟩
    ·obtain ⟨_,_,_,_,o,_,_,e,ex,_⟩:=I.hok p _ hk
     exact ⟨o,e,ex⟩
    ·obtain ⟨_,_,_,_,o,_,_,e,ex,_⟩:=I.hok p _ hk
     exact ⟨o,e,ex⟩
   obtain ⟨o,e,ex⟩:=z
   refine ⟨⟨o,e,ex.1⟩,fun a e2=>?_⟩
   cases e2
   exact ⟨o,e,ex.2.1⟩
  ·obtain ⟨o,_,_,_,e,ex,_⟩:=I.hok p _ hk
   refine ⟨⟨o,e,ex.1⟩,fun a e2=>?_⟩
   cases e2
   exact ⟨o,e,ex.2.1⟩
 | _=>exact False.elim ty
def tBM0 (K:PySem.W.Frag) (T:String) (r:V→List V→Hp→VK→Prop) (to:TE):TE:=fun σ H Q=>to σ H fun x H1=>tyV K T x H1∧r x [] H1 Q
def tBM (K:PySem.W.Frag) (T:String) (r:V→List V→Hp→VK→Prop) (to:TE) (t:TA):TE:=fun σ H Q=>to σ H fun x H1=>tyV K T x H1∧t σ H1 fun xs H2=>r x xs H2 Q
variable {o e:Expr} {es:List Expr} {to:TE} {t:TA} {name:Str} {apos cpos:Pos} {T id:String} {r:V→List V→Hp→VK→Prop}
theorem pe_bm0 (pa:PlainAttrs T) (slot:Slot T name id) (hty:typeOf (.builtin id)=pure (.type "method_descriptor")) (hm:MtR X id r) (ho:PE X o to)
  (hbase:attributeBase o name X.env (eval o X.env)=eval o X.env:=by rfl) (hline:(apos.endLine == cpos.line)=true:=by rfl):PE X (.Call (.Attribute o name apos) [] [] cpos) (tBM0 X.K T r to):=by
 intro pins s σ H Q I h
 refine wpAny_Call_method0_late hbase hline (thn (ho pins s σ H _ I h) fun v s1 ⟨x,H1,I1,r1,ty,q1⟩=>?_)
 obtain ⟨h1,h2⟩:=tyV_is I1 r1 ty
 exact ⟨T,id,pa,slot,hty,h1,h2,Calls.callWith_builtin rfl (PySem.evalArgs_none (hm pins s1 σ H1 x [] v [] Q I1 r1 .nil q1))⟩
theorem pe_bm (pa:PlainAttrs T) (slot:Slot T name id) (hty:typeOf (.builtin id)=pure (.type "method_descriptor")) (hm:MtR X id r) (ho:PE X o to) (ha:PA X (e :: es) t)
  (hbase:attributeBase o name X.env (eval o X.env)=eval o X.env:=by rfl)
  (hfew:((backTo cpos (starEach (e :: es) X.env)).all (fun x => !x.1) && (backToKw cpos (keywordEach [] X.env)).all (fun x=>x.1.isSome)
   && decide ((e :: es).length + ([]:List Keyword).length + (if ([]:List Keyword).isEmpty then 0 else 1) < 30))=true:=by rfl)
  (hline:(apos.endLine == cpos.line)=true:=by rfl) (hs:starEach (e :: es) X.env=(false,eval e X.env) :: starEach es X.env:=by rfl) (hplain:(backTo cpos (starEach es X.env)).any (·.1)=false:=by rfl) :
  PE X (.Call (.Attribute o name apos) (e :: es) [] cpos) (tBM X.K T r to t):=by
 intro pins s σ H Q I h
 refine wpAny_Call_method_late hbase hfew hline rfl (thn (ho pins s σ H _ I h) fun v s1 ⟨x,H1,I1,r1,ty,q1⟩=>?_)
 obtain ⟨h1,h2⟩:=tyV_is I1 r1 ty
 refine ⟨T,id,pa,slot,hty,h1,h2,?_⟩
 have hA:=ha cpos pins s1 σ H1 _ I1 q1
 rw [hs] at hA ⊢
 refine Calls.callWith_builtin (by show (false || (backTo cpos (starEach es X.env)).any (·.1))=false; rw [hplain] <;> rfl) (Calls.evalArgs_plain ?_)
 exact thn hA fun us s2 ⟨vs,H2,I2,r2,q2⟩=>hm pins s2 σ H2 x vs v us Q I2 r1 r2 q2
end
end L2
namespace L2
open PySem PySem.Spec PyProof.Rows
def MtM (X:Cx) (id:String) (r:V→List V→Hp→VK→Prop):Prop :=
 ∀ (pins:List (Addr×Obj)) (s:Shared) (σ:St) (H:Hp) (x:V) (xs:List V) (v:Value) (us:List Value) (Q:VK),Inv X pins σ H s→RelV x v→Vals xs us→r x xs H Q →
  wpAny (model X.prog X.w) X.A (call (.builtin id) (v :: us)) (EP X pins σ Q) X.xe s
theorem Vals.one:∀ {x:V} {us:List Value},Vals [x] us→∃ u,us=[u]∧RelV x u
 | _,_,.cons r .nil=>⟨_,rfl,r⟩
theorem Vals.zero:∀ {us:List Value},Vals [] us→us=[]
 | _,.nil=>rfl
theorem Vals.reverse {xs:List V} {us:List Value} (h:Vals xs us):Vals xs.reverse us.reverse:=by
 induction h with
 | nil=>exact .nil
 | cons r t ih=>rw [List.reverse_cons,List.reverse_cons]; exact Vals.append ih (.cons r .nil)
section
variable {X:Cx} {pins:List (Addr×Obj)} {σ:St} {H:Hp} {s:Shared} {l b:Addr} {xs ys zs:List V}
theorem Inv.lset {its its':List Value} {n:Nat} {f:Array Value→Array Value} {t':Nat} (I:Inv X pins σ H s) (hH:H l=some (.lst xs))
  (e:s.heap.get? l=some { cls:=.type "list", data:=.seq its.toArray n }) (hf:f its.toArray=its'.toArray) (hv:Vals ys its') (hz:ys.length≤sizeLine) :
  Inv X pins σ (upd H l (.lst ys)) { s with heap:=s.heap.update l (Obj.mapSeq f),toks:=t' }:=by
 have q:=PySem.IsL.update e f
 rw [hf] at q
 refine I.write (x:=l) (e:=l) (by rw [hH]; exact trivial) (.inl rfl) (fun b' u hb hu=>(Heap.get?_update_other s.heap (Obj.mapSeq f) (Ne.symm hb)).trans hu) ⟨_,q⟩ ?_
 exact ⟨hz,its',_,hv,q⟩
theorem Inv.lnew {its:List Value} {t':Nat} (I:Inv X pins σ H s) (hv:Vals ys its) (hz:ys.length≤sizeLine) :
  Inv X pins σ (upd H s.heap.objs.size (.lst ys)) { s with heap:=s.heap.push { cls:=.type "list", data:=.seq its.toArray },toks:=t' } :=
 I.laid (fun _ _ q=>Heap.get?_push_of_some _ q) (Nat.le_refl _) ⟨hz,its,0,hv,Heap.get?_push_size _ rfl⟩
theorem Inv.fresh (I:Inv X pins σ H s):H s.heap.objs.size=none:=I.hok.fresh (Nat.le_refl _)
theorem Inv.lstM (I:Inv X pins σ H s) (hH:H l=some (.lst xs)):xs.length≤sizeLine∧∃ (its:List Value) (n:Nat),Vals xs its∧xs.length=its.length∧s.heap.get? l=some { cls:=.type "list", data:=.seq its.toArray n }:=by
 obtain ⟨z,its,n,r,e⟩:=I.hok l _ hH
 exact ⟨z,its,n,r,r.length,e⟩
end
section
variable {X:Cx}
def rAppend:V→List V→Hp→VK→Prop:=fun x vs H Q=>∃ l xs y,x=.ref l∧vs=[y]∧H l=some (.lst xs)∧xs.length < sizeLine∧Q .non (upd H l (.lst (xs ++ [y])))
theorem mt_append:MtM X "list.append" rAppend:=by
 intro pins s σ H x vs v us Q I rx rv h
 obtain ⟨l,xs,y,rfl,rfl,hH,hz,q⟩:=h
 cases rx
 obtain ⟨u,rfl,ru⟩:=rv.one
 obtain ⟨z,its,n,r,hl,e⟩:=I.lstM hH
 refine call_meets F.slot_list_append ⟨_,e,rfl⟩ F.entry_list_append (F.args_list_append_2 _ _) (PySem.list_append l its.toArray n u (by rw [List.size_toArray]; lia)) ⟨e,?_⟩
 refine ⟨.non,_,I.lset (its':=its ++ [u]) hH e (by simp) (r.append (.cons ru .nil)) ?_,rfl,q⟩
 rw [List.length_append,List.length_singleton]
 lia
def rReverse:V→List V→Hp→VK→Prop:=fun x vs H Q=>∃ l xs,x=.ref l∧vs=[]∧H l=some (.lst xs)∧Q .non (upd H l (.lst xs.reverse))
theorem mt_reverse:MtM X "list.reverse" rReverse:=by
 intro pins s σ H x vs v us Q I rx rv h
 obtain ⟨l,xs,rfl,rfl,hH,q⟩:=h
 cases rx
 have hus:=rv.zero
 subst hus
 obtain ⟨z,its,n,r,hl,e⟩:=I.lstM hH
 refine call_meets F.slot_list_reverse ⟨_,e,rfl⟩ F.entry_list_reverse (F.args_list_reverse_1 _) (AutoSeq1.list_reverse_list_0 l its.toArray n (by rw [List.size_toArray]; lia)) ⟨e,?_⟩
 refine ⟨.non,_,I.lset (its':=its.reverse) hH e (by simp) r.reverse ?_,rfl,q⟩
 rw [List.length_reverse]
 lia
def rCat:R2:=fun x y H Q=>∃ l b xs zs,x=.ref l∧y=.ref b∧H l=some (.lst xs)∧H b=some (.lst zs)∧xs.length + zs.length≤sizeLine∧∀ p,H p=none→Q (.ref p) (upd H p (.lst (xs ++ zs)))
theorem op_cat:OpR X (binaryOp .Add) rCat:=by
 intro pins s σ H x y v u Q I rx ry h
 obtain ⟨l,b,xs,zs,rfl,rfl,hH,hB,hz,q⟩:=h
 cases rx
 cases ry
 obtain ⟨z,its,n,r,hl,e⟩:=I.lstM hH
 obtain ⟨z2,its2,n2,r2,hl2,e2⟩:=I.lstM hB
 refine PySem.P.add_list e e2 ?_ (by rw [List.size_toArray,List.size_toArray]; lia)
 have ea:its.toArray ++ its2.toArray=(its ++ its2).toArray:=by simp
 rw [ea]
 exact ⟨.ref _,_,I.lnew (t':=s.toks) (r.append r2) (by rw [List.length_append]; lia),rfl,q _ I.fresh⟩
end
section
variable {prog:Program} {w:World} {A:Around} {E:Value→Shared→Prop} {s:Shared}
set_option maxRecDepth 100000 in
end
end L2
namespace Att
open PySem PySem.W PySem.Calls PyProof.Rows
theorem ints_of_wellAll {P:Params} {h:Heap}:∀ (ns:List Int) (vs:List Value),WellAll P h vs (ns.map WData.int)→IntsAre vs ns:=by
 intro ns
 induction ns with
 | nil =>
  intro vs w
  rw [List.map_nil] at w
  cases w
  exact .nil
 | cons n ns ih =>
  intro vs w
  rw [List.map_cons] at w
  cases w with
  | cons a b =>
   cases a
   exact .cons _ _ (ih _ b)
theorem script_of {l:OpenLaw} {n:Nat} (hn:l.most=some n) {P:Params} {h:Heap} {args:List WData} {vals:List Value}
  (hpre:l.row.toRowW.claim.pre args=true) (hwl:WellAll P h vals args) :
  ∃ a vs ns,vals=[Value.ref a]∧args=[WData.list (ns.map WData.int)]∧h.get? a=some { cls:=.type "list", data:=.seq vs.toArray }∧IntsAre vs ns∧ns.length≤n:=by
 have hsh:WShape.hasAll [] args [.list .int]=true:=(pre_splitW hpre).1
 have hc:l.pre.holds [] { args:=args }=true:=(pre_splitW hpre).2
 obtain ⟨d,r,rfl,h1,h2⟩:=hasAllW_cons hsh
 obtain rfl:=hasAllW_nil h2
 obtain ⟨xs,rfl,h3⟩:=hasW_list h1
 obtain ⟨ns,rfl⟩:=items_int h3
 have hlen:ns.length≤n:=by
  unfold OpenLaw.pre at hc
  have h4:(WTm.not (.lt (.lit (.int (n:Int))) (.len (.arg 0)))).holds [] { args:=[.list (ns.map .int)] }=true:=by
   have h4:=(holds_andW hc).1
   rw [hn] at h4
   exact h4
  have h5:=condW_of h4 (w_not (w_lt w_lit (w_len_list (w_arg rfl))))
  rw [List.length_map] at h5
  refine Nat.le_of_not_lt fun q=>?_
  have q':(n:Int) < ((ns.length:Nat):Int):=by lia
  first
   | (rw [decide_eq_true q'] at h5; exact absurd h5 (by decide))
   | (simp at h5; lia)
 cases hwl with
 | cons w1 w2 =>
  cases w2
  cases w1 with
  | list ho hall=>exact ⟨_,_,ns,rfl,rfl,ho,ints_of_wellAll ns _ hall,hlen⟩
theorem post_true (l:OpenLaw) (args:List WData):l.row.toRowW.claim.post args (.bool true) args=true :=
 postW_of (r:=l.row.toRowW) (X:=(true == true))
  (show WShape.has [] (.bool true) .bool=true by first | rfl | decide | simp [WShape.has,WShape.arms,WShape.armsAll])
  (show (WTm.eq .res (.lit (.bool true))).value [] { args:=args,res:=some (.bool true),after:=args }=some (.bool (true == true)) from w_eq_bool (w_res rfl) w_lit) rfl
theorem attach_call {l:OpenLaw} {n:Nat} {q:Program} {loose:List Str} {XP:(Str→Option Value)→Heap→Prop} {YP:World→Heap→Prop} {d:DefRec}
  (hn:l.most=some n) (hdf:d.params.defaults=[])
  (call:∀ (w:World) (s₀ s₁:Shared) (mg mb:Str→Option Value) (fa:Addr) (o:Obj) (pm cd doc:Value) (a:Addr) (vs:List Value) (ns:List Int),
   Ground q loose [] XP w s₀ mg mb s₁.heap→YP w s₁.heap →
   s₁.heap.get? fa=some o→o.data=.func (docDef d.name d.params d.body d.scope pm cd doc)→s₁.heap.CodeRec cd d.name→mg d.name=some (.ref fa) →
   s₁.heap.get? a=some { cls:=.type "list", data:=.seq vs.toArray }→IntsAre vs ns→ns.length≤n→s₁.gens = #[] →
   codeAny (model l.prog w) callerA (.call (.ref fa) ⟨[.ref a],[]⟩) (fun r s'=>r=.ok (.ret (.bool true))∧OldK s₁.heap s'.heap∧s'.os=s₁.os∧AllBare s'.gens) s₁) :
  WalkO q loose XP YP l.row.toRowW d [] (fun f vs=>PySem.call f vs):=by
 intro w s₀ s₁ mg mb G Y fa o pm cd doc dV kV ho hd hcd hD hmg hg args vals as hpre hlay hrd hwl hlo
 obtain rfl:dV=.none:=Dflts.none hD hdf
 obtain rfl:kV=.none:=Dflts.noKw hD
 obtain ⟨a,vs,ns,rfl,rfl,hobj,hints,hlen⟩:=script_of hn hpre hwl
 refine enter_call (codeAny_mono (call w s₀ s₁ mg mb fa o pm cd doc a vs ns G Y ho (fd_plain hd) hcd hmg hobj hints hlen hg) fun r s' hq=>?_)
 obtain ⟨rfl,h2,h3,h4⟩:=hq
 exact ⟨.inl ⟨.bool true,.bool true,[],rfl,fun _=>rfl,.bool true,post_true l _,fun _=>⟨List.Pairwise.nil,fun _ hm=>(nomatch hm)⟩⟩,h2,h3,h4⟩
end Att
namespace L2
open PySem PySem.Spec PyProof.Rows
theorem vals_ints:∀ {vs:List Value} {ns:List Int},IntsAre vs ns→Vals (ns.map V.int) vs
 | _,_,.nil=>.nil
 | _,_,.cons n t h=>.cons ⟨t,rfl⟩ (vals_ints h)
def Only (H:Hp):Prop:=∀ b,H b=none∨(∃ o xs,H b=some (.frz o (.lst xs)))∨∃ ps,H b=some (.tbl ps)
theorem law_call {P:Program} {w:World} {K:PySem.W.Frag} {mg mb:Str→Option Value} {CX:CXT} {k:Nat} {fa a:Addr} {fd:FuncData} {x:Str} {sp:Sp} {s₁:Shared} {vs:List Value} {ns:List Int}
  (KX:K.In s₁.heap) (hns:s₁.heap.Ns mainGlobals mg) (hb:s₁.heap.Ns builtinsNs mb) (hbb:∀ x:Str,x ≠ "__name__" → mb x=bootBuiltins x) (hlim:s₁.heap.NoLimit) (hg:s₁.gens = #[])
  (ha:s₁.heap.get? a=some { cls:=.type "list", data:=.seq vs.toArray }) (hi:IntsAre vs ns) (hl:ns.length≤sizeLine) (hr:Room k callerA)
  (F:∀ base:Heap,K.In base→base.Ns mainGlobals mg→FnOk P w K mg base CX k fa fd [x] sp) (hbind:∀ (s:Shared) (u:Value),BindsTo s fd ⟨[u],[]⟩ [(x,u)])
  (T0:Hp) (hT:∀ b u,T0 b=some u→(∃ ps,u=HO.tbl ps)∧s₁.heap.get? b=some { cls:=.none,data:=.fields #[] }∧K.lookup b=none∧isCodeTable s₁.heap b) (tb:TabsIn K T0)
  (hsp:∀ H:Hp,Only H→SqL K H a (ns.map V.int)→sp [.ref a] H (fun v _=>v=.bl true) fun _ _ _=>False)
  (hCX:∀ H e s',CX [] H s₁ (fun _ _ _=>False) e s'→False) :
  codeAny (model P w) callerA (.call (.ref fa) ⟨[.ref a],[]⟩) (fun r s'=>r=.ok (.ret (.bool true))∧OldK s₁.heap s'.heap∧s'.os=s₁.os∧AllBare s'.gens) s₁:=by
 have rv:=vals_ints hi
 have lenV:=hi.length
 have core:∀ H:Hp,Only H→SqL K H a (ns.map V.int)→HOk P w H s₁.heap→(∀ b u,H b=some u→(b=a∧∃ o xs,u=.frz o (.lst xs))∨T0 b=some u)→(∀ b u,H b=some u→K.lookup b=none)→TabsIn K H →
   codeAny (model P w) callerA (.call (.ref fa) ⟨[.ref a],[]⟩) (fun r s'=>r=.ok (.ret (.bool true))∧OldK s₁.heap s'.heap∧s'.os=s₁.os∧AllBare s'.gens) s₁:=by
  intro H hO hS hok hA hK hB
  have base_of:∀ {b:Addr} {o:Obj},s₁.heap.get? b=some o→H b=none→(hidT s₁.heap H).get? b=some o:=fun e n=>hidT_get e n
  have noA:∀ {b:Addr} {o:Obj} {es:Array DictEntry} {ep:Nat},s₁.heap.get? b=some o→o.data=.dict es ep→H b=none:=fun {b o es ep} e d=>by
   cases q:H b with
   | none=>rfl
   | some u =>
    rcases hA b u q with ⟨e',_⟩ | e'
    ·subst e'
     rw [ha] at e; cases e
     cases d
    ·rw [(hT b u e').2.1] at e; cases e
     cases d
  have nsK:∀ {b:Addr} {m:Str→Option Value},s₁.heap.Ns b m→(hidT s₁.heap H).Ns b m:=fun {b m} ⟨o,es,ep,e,d,r⟩=>⟨o,es,ep,base_of e (noA e d),d,r⟩
  have hKb:K.In (hidT s₁.heap H):=fun b o e=>base_of (KX b o e) (by
   cases q:H b with
   | none=>rfl
   | some u=>rw [hK b u q] at e; cases e)
  have hM:Mod K mg (hidT s₁.heap H):=⟨hKb,nsK hns,⟨mb,nsK hb,hbb⟩,let ⟨mc,h1,h2⟩:=hlim; ⟨mc,nsK h1,h2⟩⟩
  have e0:Env0 P w K mg (hidT s₁.heap H) callerA [] s₁ H:=⟨rfl,hM,fun b o e=>of_hidT e,Nat.le_of_eq (hidT_size _ _),trivial,fun b hb=>absurd (show b∈([]:List Addr) from hb) (by simp),hok,.of_eq hg,hB⟩
  refine codeAny_mono ((F _ hKb (nsK hns)).run callerA [] s₁ H ⟨[.ref a],[]⟩ [.ref a] [.ref a] _ _ hr e0 (hbind s₁ (.ref a)) (.cons rfl .nil) (hsp H hO hS)) fun r s' h=>?_
  cases r with
  | error e=>exact (hCX H e s' h).elim
  | ok fl =>
   cases fl with
   | next=>exact False.elim h
   | brk=>exact False.elim h
   | cont=>exact False.elim h
   | ret u =>
    obtain ⟨v,H',os,bare,un,hok',r',q⟩:=h
    have q':v=.bl true:=q
    subst q'
    obtain rfl:u=Value.bool true:=r'
    have tabd:∀ b u,H b=some u→T0 b=some u→∃ qs,s'.heap.get? b=some { cls:=.none,data:=.fields qs }:=fun b u q z=>by
     obtain ⟨⟨ps,rfl⟩,_⟩:=hT b u z
     obtain ⟨more,z2⟩:=un.tbls b ps q
     obtain ⟨qs,e2,_⟩:=hok' b _ z2
     exact ⟨qs,e2⟩
    have frzd:∀ b o ob xs,s₁.heap.get? b=some o→H b=some (.frz ob (.lst xs))→s'.heap.get? b=some o:=fun b o ob xs e z=>by
     have z2:=un.frzs b ob _ z
     obtain ⟨e1,_⟩:=hok b _ z
     obtain ⟨e2,_⟩:=hok' b _ z2
     rw [e] at e1; cases e1
     exact e2
    have kep:∀ b o,s₁.heap.get? b=some o→H b=none→s'.heap.get? b=some o:=fun b o e q=>un.keep b o e q (by intro z; exact absurd (show b∈([]:List Addr) from z) (by simp)) (by simp)
    refine ⟨rfl,⟨fun b o e=>?_,fun b o e=>?_⟩,os,bare⟩
    ·cases q:H b with
     | none=>exact .inl (kep b o e q)
     | some u =>
      rcases hA b u q with ⟨_,ob,xs,rfl⟩ | z
      ·exact .inl (frzd b o ob xs e q)
      ·obtain ⟨qs,e2⟩:=tabd b u q z
       obtain ⟨_,e1,_,ct⟩:=hT b u z
       rw [e] at e1; cases e1
       exact .inr (.inl ⟨ct,rfl,#[],qs,rfl,by rw [e2]; simp⟩)
    ·cases q:H b with
     | none=>exact ⟨o,kep b o e q⟩
     | some u =>
      rcases hA b u q with ⟨_,ob,xs,rfl⟩ | z
      ·exact ⟨o,frzd b o ob xs e q⟩
      ·obtain ⟨qs,e2⟩:=tabd b u q z
       exact ⟨_,e2⟩
 have tok:∀ (H:Hp) b u,T0 b=some u→ObjOk P w H s₁.heap b u:=fun H b u z=>by
  obtain ⟨⟨ps,rfl⟩,e,_⟩:=hT b u z
  exact ⟨#[],e,trivial,fun pos cv hc=>by cases hc⟩
 have na:T0 a=none:=by
  cases z:T0 a with
  | none=>rfl
  | some u=>have:=(hT a u z).2.1; rw [ha] at this; cases this
 cases hk:K.lookup a with
 | some o =>
  have e:=KX a o hk
  rw [ha] at e
  cases e
  refine core T0 (fun b=>?_) (.inr ⟨_,vs.toArray,_,hk,rfl,rfl,rfl,by rw [List.size_toArray,lenV]; exact hl,by simpa using rv⟩) (fun b u z=>tok T0 b u z) (fun b u z=>.inr z) (fun b u z=>(hT b u z).2.2.1) tb
  cases z:T0 b with
  | none=>exact .inl rfl
  | some u=>obtain ⟨⟨ps,rfl⟩,_⟩:=hT b u z; exact .inr (.inr ⟨ps,rfl⟩)
 | none =>
  have at0:∀ b,b≠a→(if b=a then some (HO.frz { cls:=.type "list", data:=.seq vs.toArray } (.lst (ns.map V.int))) else T0 b)=T0 b:=fun b hb=>if_neg hb
  refine core (fun b=>if b=a then some (.frz { cls:=.type "list", data:=.seq vs.toArray } (.lst (ns.map V.int))) else T0 b) (fun b=>?_) (.inl (.inr ⟨{ cls:=.type "list", data:=.seq vs.toArray },if_pos rfl⟩)) (fun b u z=>?_) (fun b u z=>?_) (fun b u z=>?_) (fun p hp=>?_)
  ·by_cases hb:b=a
   ·exact .inr (.inl ⟨_,_,if_pos hb⟩)
   ·dsimp only
    rw [at0 b hb]
    cases z:T0 b with
    | none=>exact .inl rfl
    | some u=>obtain ⟨⟨ps,rfl⟩,_⟩:=hT b u z; exact .inr (.inr ⟨ps,rfl⟩)
  ·by_cases hb:b=a
   ·have z':=(if_pos hb).symm.trans z
    cases z'
    subst hb
    exact ⟨ha,by rw [List.length_map]; exact hl,vs,_,rv,ha⟩
   ·exact tok _ b u ((at0 b hb).symm.trans z)
  ·by_cases hb:b=a
   ·have z':=(if_pos hb).symm.trans z
    cases z'
    exact .inl ⟨hb,_,_,rfl⟩
   ·exact .inr ((at0 b hb).symm.trans z)
  ·by_cases hb:b=a
   ·rw [hb]; exact hk
   ·exact (hT b u ((at0 b hb).symm.trans z)).2.2.1
  ·obtain ⟨ps,t,e1,e2⟩:=tb p hp
   have hb:p.1≠a:=fun z=>by rw [z,na] at e1; cases e1
   exact ⟨ps,t,(at0 _ hb).trans e1,e2⟩
end L2
namespace L2
open PySem PySem.Spec PyProof.Rows
end L2
namespace L2
open PySem PySem.Spec PyProof.Rows
def defArgs (s:Stmt):Arguments:=match s with
 | .FunctionDef _ a _ _ _ _ _ _ _ _=>a
 | _=>{ posonlyargs:=[],args:=[],vararg:=none,kwonlyargs:=[],kw_defaults:=[],kwarg:=none,defaults:=[] }
def defBody (s:Stmt):List Stmt:=match s with
 | .FunctionDef _ _ b _ _ _ _ _ _ _=>b
 | _=>[]
def defScope (s:Stmt):Scope:=match s with
 | .FunctionDef _ _ _ _ _ _ sc _ _ _=>sc
 | _=>{ kind:=.function,names:=[],isGenerator:=false,isCoroutine:=false }
abbrev CX0:CXT:=fun _ _ _ _ _ _=>False
abbrev E0:XK:=fun _ _ _=>False
theorem pass0 {X:Cx}:Passes CX0 X E0:=fun _ _ _ _ _ _ _ h=>h.elim
structure Fun (K:PySem.W.Frag) (x qual:Str) (st:Stmt) (f:Addr) (fd:FuncData):Prop where
 ex:∃ (oc:Value) (od:Option Addr) (kV doc pm:Value) (an:Option Addr) (cdv ct:Value) (osl:Array (Option Value)),
  fd=PySem.W.fnOf x qual (defArgs st) (defBody st) (defScope st) .none kV doc pm an cdv ct∧K.lookup f=some ⟨oc,od,.func fd,osl⟩∧PySem.W.codeIn K cdv qual=true
 kp:PySem.W.keepIn K (.ref f)=true
section
variable {P:Program} {w:World} {K:PySem.W.Frag} {mg:Str→Option Value} {base:Heap}
theorem Fun.ok {x qual:Str} {st:Stmt} {f:Addr} {fd:FuncData} {N ps:List Str} {k:Nat} {sp:Sp} (F:Fun K x qual st f fd) (S:FnScope N ps (defScope st)) (len:∀ vs H Q E,sp vs H Q E→vs.length=ps.length)
  (hbody:∀ (cdv:Value) (A:Around) (outer:List Env) (s:Shared) (H:Hp) (vs:List V) (Q:VK) (E:XK),Room k (A.deeper (envOfC qual (defScope st) s.heap.objs.size f cdv))→sp vs H Q E →
   ∃ t,PSs (cxOf CX0 P w K mg base N qual (defScope st) f cdv A outer s H E).nox (defBody st) t∧t { nx:=fun _ H'=>Q .non H',rt:=Q } (start N vs) H):FnOk P w K mg base CX0 (k + 1) f fd ps sp:=by
 obtain ⟨oc,od,kV,doc,pm,an,cdv,ct,osl,rfl,lk,hcd⟩:=F.ex
 refine fn_of lk hcd S len fun A outer s H vs Q E hr hsp=>?_
 obtain ⟨t,h,q⟩:=hbody cdv A outer s H vs Q E hr hsp
 exact ⟨t,h.nox,q⟩
theorem Fun.binds {x qual:Str} {st:Stmt} {f:Addr} {fd:FuncData} {ps:List Str} (F:Fun K x qual st f fd)
  (h:∀ (kV doc pm:Value) (an:Option Addr) (cdv ct:Value) (us:List Value),us.length=ps.length→bindArgs (PySem.W.fnOf x qual (defArgs st) (defBody st) (defScope st) .none kV doc pm an cdv ct) ⟨us,[]⟩=pure (ps.zip us)):Binds K fd ps []:=by
 obtain ⟨oc,od,kV,doc,pm,an,cdv,ct,osl,rfl,lk,hcd⟩:=F.ex
 exact .all (h kV doc pm an cdv ct)
theorem fun_mk {x qual:Str} {st:Stmt} {f:Addr} {oc:Value} {od an:Option Addr} {osl:Array (Option Value)} {kV doc pm cdv ct:Value} (l:K.lookup f=some ⟨oc,od,.func (PySem.W.fnOf x qual (defArgs st) (defBody st) (defScope st) .none kV doc pm an cdv ct),osl⟩)
  (c:PySem.W.codeIn K cdv qual=true) (k:PySem.W.keepIn K (.ref f)=true):Fun K x qual st f (PySem.W.fnOf x qual (defArgs st) (defBody st) (defScope st) .none kV doc pm an cdv ct):=⟨⟨oc,od,kV,doc,pm,an,cdv,ct,osl,rfl,l,c⟩,k⟩
end
section
variable {X:Cx}
theorem pv (i:Nat) {x:Str} {pos:Pos} (hN:X.N[i]?=some x:=by rfl) (hv:Vis X.env.scope x:=by first | exact Or.inl rfl | exact Or.inr (Or.inl rfl) | exact Or.inr (Or.inr rfl)) (hd:(x == ("__debug__" : Str))=false:=by decide)
  (hcd:(x == ("__classdict__" : Str))=false:=by decide):PE X (.Name x pos) (tVar i):=pe_var hN hv hd hcd
end
def Same (H H':Hp):Prop:=∀ b o,H b=some o→H' b=some o
theorem Same.refl (H:Hp):Same H H:=fun _ _ h=>h
theorem Same.trans {H H1 H2:Hp} (a:Same H H1) (b:Same H1 H2):Same H H2:=fun c o h=>b c o (a c o h)
theorem Same.free {H H':Hp} (e:Same H H') {l:Addr} (h:H' l=Option.none):H l=Option.none:=by
 cases q:H l with
 | none=>rfl
 | some o =>
  rw [e l o q] at h
  cases h
theorem Same.seq {K:PySem.W.Frag} {H H':Hp} {a:Addr} {xs:List V} (e:Same H H') (h:SqL K H a xs):SqL K H' a xs:=by
 rcases h with (h | ⟨o,h⟩) | h
 ·exact .inl (.inl (e _ _ h))
 ·exact .inl (.inr ⟨o,e _ _ h⟩)
 ·exact .inr h
end L2
set_option maxHeartbeats 4000000
namespace L2
open PySem PySem.Spec PyProof.Rows
open PySem.Builtin.Int (intBits)
def CMulB (i j:Int):Prop:=intBits i≤9000∧intBits j≤9000
def CDivB (_ j:Int):Prop:=j≠0∧intBits j≤9000
theorem noPy_bits {x y:Int} (h:intBits y≤9000):Builtin.divisionGoesByPylong x y=false:=by
 by_cases h0:y=0
 ·subst h0; exact PyProof.noPylong_small (by decide)
 ·refine PyProof.noPylong_of_log2 ?_
  have q:=intBits_le_iff.mp h
  have hn:y.natAbs≠0:=by lia
  exact (Nat.log2_lt hn).mpr q
section
variable {X:Cx} {a b:Expr} {ta tb:TE} {pos:Pos}
theorem op_mulB:OpR X (binaryOp .Mult) (rI CMulB fun i j=>.int (i * j)):=opI fun _ _ _ _ _ _ _ hc q=>mul_int q (IntMulOk.of_le hc.1 hc.2 (by decide))
theorem op_fdivB:OpR X (binaryOp .FloorDiv) (rI CDivB fun i j=>.int (i.fdiv j)):=opI fun _ _ _ _ _ _ _ hc q=>floordiv_int hc.1 q (.inl (noPy_bits hc.2))
theorem op_eqI:OpR X (compareOp .Eq) (rI0 fun i j=>.bl (decide (i=j))):=opB0 fun _ _ _ _ _ _ _ q=>eq_int (by rw [Bool.beq_eq_decide_eq]; exact q)
theorem op_neI:OpR X (compareOp .NotEq) (rI0 fun i j=>.bl (!decide (i=j))):=opB0 fun _ _ _ _ _ _ _ q=>ne_int (by rw [bne,Bool.beq_eq_decide_eq]; exact q)
def ItsAt (H:Hp) (p:Addr) (xs:List V):Prop:=H p=some (.tup xs)∨H p=some (.lst xs)
def rIxF:R2:=fun x y H Q=>∃ p xs i v,x=.ref p∧y=.int i∧ItsAt H p xs∧atI xs i=some v∧Q v H
theorem ix_any:IxR X rIxF:=by
 intro value slice pins s σ H x y v u Q I rx ry h hs
 obtain ⟨p,xs,i,z,e1,e2,hq,he,q⟩:=h
 rcases hq with hq | hq
 ·exact ix_tup value slice pins s σ H x y v u Q I rx ry ⟨p,xs,i,z,e1,e2,SqT.of hq,he,q⟩ hs
 ·exact ix_list value slice pins s σ H x y v u Q I rx ry ⟨p,xs,i,z,e1,e2,SqL.of hq,he,q⟩ hs
theorem call_isinst:CallR X (.builtin "isinstance") (fun xs H Q=>∃ x t n b,xs=[x,.ty n]∧TyOf X.K H x t∧PySem.W.kitOne X.K t (.type n)=some b∧Q (.bl b) H):=by
 intro pins s σ H xs us Q I r h
 obtain ⟨x,t,n,b,rfl,ty,e,q⟩:=h
 obtain ⟨u,w',rfl,r1,r2⟩:=vals2 r
 cases r2
 exact isinst_ok I r1 ty e fun tk=>⟨.bl b,H,I.tok _,rfl,q⟩
structure Cal (P:Program) (w:World) (K:PySem.W.Frag) (mg:Str→Option Value) (base:Heap) (x:Str) (ps:List Str) (k:Nat) (sp:Sp):Prop where
 ex:∃ f fd,mg x=some (.ref f)∧PySem.W.keepIn K (.ref f)=true∧Binds K fd ps []∧FnOk P w K mg base CX0 k f fd ps sp
structure Fnd (K:PySem.W.Frag) (mg:Str→Option Value) (x:Str) (st:Stmt) (ps:List Str):Prop where
 ex:∃ f fd,mg x=some (.ref f)∧Fun K x x st f fd∧Binds K fd ps []
theorem Cal.imp {P:Program} {w:World} {K:PySem.W.Frag} {mg:Str→Option Value} {base:Heap} {x:Str} {ps:List Str} {k:Nat} {sp sp':Sp} (c:Cal P w K mg base x ps k sp) (h:∀ vs H Q E,sp' vs H Q E→sp vs H Q E):Cal P w K mg base x ps k sp':=by
 obtain ⟨f,fd,m,kp,b,F⟩:=c.ex
 exact ⟨f,fd,m,kp,b,F.imp h⟩
theorem pe_cal {x:Str} {ps:List Str} {j k:Nat} {sp:Sp} {p:Pos} {e:Expr} {es:List Expr} {t:TA} (c:Cal X.prog X.w X.K X.mg X.base x ps j sp) (hr:Room k X.A) (hg:Gl X x) (ha:PA X (e :: es) t) (hjk:j≤k:=by decide)
  (hdb:(x == ("__debug__" : Str))=false:=by decide) (he:starEach (e :: es) X.env=(false,eval e X.env) :: starEach es X.env:=by rfl) (hpl:(backTo pos (starEach es X.env)).any (·.1)=false:=by rfl) :
  PE X (.Call (.Name x p) (e :: es) [] pos) (tCall sp [] E0 t):=by
 obtain ⟨f,fd,m,kp,b,F⟩:=c.ex
 exact pe_call F (hr.mono hjk) hg m kp b .nil pass0 ha hdb he hpl
theorem Fnd.ok {P:Program} {w:World} {K:PySem.W.Frag} {mg:Str→Option Value} {base:Heap} {x:Str} {st:Stmt} {N ps:List Str} {k:Nat} {sp:Sp} (F:Fnd K mg x st ps) (S:FnScope N ps (defScope st)) (len:∀ vs H Q E,sp vs H Q E→vs.length=ps.length)
  (hbody:∀ (f:Addr) (cdv:Value) (A:Around) (outer:List Env) (s:Shared) (H:Hp) (vs:List V) (Q:VK) (E:XK),Room k (A.deeper (envOfC x (defScope st) s.heap.objs.size f cdv))→sp vs H Q E →
   ∃ t,PSs (cxOf CX0 P w K mg base N x (defScope st) f cdv A outer s H E).nox (defBody st) t∧t { nx:=fun _ H'=>Q .non H',rt:=Q } (start N vs) H):Cal P w K mg base x ps (k + 1) sp:=by
 obtain ⟨f,fd,m,Fu,b⟩:=F.ex
 exact ⟨f,fd,m,Fu.kp,b,Fu.ok S len (hbody f)⟩
end
theorem iteD {p:Prop} [Decidable p] {A B:Prop} (h1:p→A) (h2:¬ p→B):if decide p=true then A else B:=by
 by_cases h:p
 ·rw [decide_eq_true h]; exact h1 h
 ·rw [decide_eq_false h]; exact h2 h
theorem iteDn {p:Prop} [Decidable p] {A B:Prop} (h1:¬ p→A) (h2:p→B):if (!decide p)=true then A else B:=by
 by_cases h:p
 ·rw [decide_eq_true h]; exact h2 h
 ·rw [decide_eq_false h]; exact h1 h
def Ext (b:Addr) (H H':Hp):Prop:=∀ a o,a≠b→H a=some o→H' a=some o
theorem Ext.upd (b:Addr) (H:Hp) (o:HO):Ext b H (L2.upd H b o):=fun a u n h=>by rw [upd_ne n]; exact h
theorem same_new {H:Hp} {p:Addr} (h:H p=none) (o:HO):Same H (L2.upd H p o):=fun b u q=>by rw [upd_ne (ne_of_none q h)]; exact q
end L2
namespace L2
open PySem PySem.Spec PyProof.Rows
theorem HOk.but {P:Program} {w:World} {H:Hp} {h h':Heap} {C:Addr} (x:HOk P w H h) (n:H C=none) (k:∀ b u,b≠C→h.get? b=some u→h'.get? b=some u):HOk P w H h':=fun a o e =>
 (x a o e).stay (fun b u hb q=>k b u (by rcases hb with rfl | hb; exact ne_of_none e n; exact ne_of_none hb n) q) (fun _ q=>q) (fun _ _ q=>q) fun _ _ _ q=>q
theorem Un.but {fs ex:List Addr} {H H':Hp} {h h1 h2:Heap} {C:Addr} (u:Un fs ex H H' h h1) (hC:h.get? C=none) (k:∀ b u,b≠C→h1.get? b=some u→h2.get? b=some u):Un fs ex H H' h h2 where
 keep:=fun b o q n f e=>k b o (by rintro rfl; rw [hC] at q; cases q) (u.keep b o q n f e)
 slot:=fun b o q n f e=>by
  obtain ⟨sl,z⟩:=u.slot b o q n f e
  exact ⟨sl,k b _ (by rintro rfl; rw [hC] at q; cases q) z⟩
 free:=u.free
 there:=fun b o q e=>by
  obtain ⟨o',z⟩:=u.there b o q e
  exact ⟨o',k b _ (by rintro rfl; rw [hC] at q; cases q) z⟩
 tups:=u.tups
 frzs:=u.frzs
 tbls:=u.tbls
def compCx (X:Cx) (N:List Str) (scope:Scope) (cl:List (Str×Addr)) (C:Addr) (s:Shared) (H:Hp) (ex:List Addr):Cx :=
 { X with N:=N,s₀:=s,H₀:=H,env:=compEnvC scope cl C X.env,outer:=X.stack,ex:=ex,fn:=fun _=>false,pn:=[],xe:=fun _ _=>False }
def freeV (σ:St) (js:List Nat):St:=js.map fun j=>(σ[j]?).join
end L2
namespace L2
open PySem PySem.Spec PyProof.Rows
theorem Vals.getR:∀ {xs:List V} {us:List Value} {i:Nat} {u:Value},Vals xs us→us[i]?=some u→∃ x,xs[i]?=some x∧RelV x u
 | _,_,_,_,.nil,e=>by simp at e
 | _,_,0,_,.cons r _,e=>by simp at e; subst e; exact ⟨_,rfl,r⟩
 | _,_,i + 1,u,.cons _ t,e=>by
  obtain ⟨x,h1,h2⟩:=Vals.getR (i:=i) (u:=u) t (by simpa using e)
  exact ⟨x,by simpa using h1,h2⟩
section
variable {X:Cx}
theorem call_sum (hc:X.calm=true):CallR X (.builtin "sum") (fun xs H Q=>∃ (l:Addr) (ns:List Int),xs=[.ref l]∧H l=some (.lst (ns.map V.int))∧Q (.int ns.sum) H):=by
 intro pins s σ H xs us Q I r h
 obtain ⟨l,ns,rfl,hl,q⟩:=h
 obtain ⟨u,rfl,r1⟩:=vals1 r
 cases r1
 obtain ⟨its,rv,pl,hz⟩:=I.list (SqL.of hl)
 have hi:=intsAre_of rv
 obtain ⟨ws,hx⟩:=hi.allInts.items
 have hl':s.heap.IsList l (intItems ws):=hx ▸ pl.isList
 refine sum_intListG (I.ok.hd hc) hl' fun h' tk t' hk=>?_
 have e1:ns=ws.toList.map (·.1):=by
  rw [← nums_intItems,← hx]
  exact (show numsOf its.toArray.toList=ns from hi.numsOf).symm
 have e2:preSum (numAt ws) ws.size=ns.sum:=by
  rw [preSum_eq,List.take_of_length_le (by simp),e1]
 rw [e2]
 exact ⟨.int ns.sum,H,I.kept hk,⟨_,rfl⟩,q⟩
end
end L2
namespace L2
open PySem PySem.Spec PyProof.Rows PySem.W
end L2
namespace L2
open PySem PySem.Spec PyProof.Rows PySem.W
end L2
namespace L2
open PySem PySem.Spec PyProof.Rows PySem.W
end L2
namespace L2
open PySem PySem.Spec PyProof.Rows PySem.W
end L2
namespace PySem
open Sem (wp)
end PySem
namespace L2
open PySem PySem.Spec PyProof.Rows PySem.W
end L2
namespace Cut
open PySem
open PySem.Builtin.Int (intBits)
theorem bits_om {x:Int} (h1 : -(2 ^ 64) < x) (h2:x < 2 ^ 64):intBits x≤64:=intBits_le_64 h1 h2
theorem bits_of_abs {x t:Int} {n:Nat} (h:x.natAbs≤t.natAbs) (ht:intBits t≤n):intBits x≤n:=intBits_le_of_natAbs h ht
def Low (x y:Int):Prop:=0 < y∧Int.gcd x y=1
theorem gcd_step {x y:Int} (hx:0≤x) (hy:0 < y):Int.gcd y (x % y)=Int.gcd x y:=by
 obtain ⟨m,rfl⟩:=Int.eq_ofNat_of_zero_le hx
 obtain ⟨n,rfl⟩:=Int.eq_ofNat_of_zero_le (Int.le_of_lt hy)
 have e:((m:Int) % (n:Int))=((m % n:Nat):Int):=rfl
 rw [e]
 show Nat.gcd n (m % n)=Nat.gcd m n
 rw [Nat.gcd_comm m n,Nat.gcd_rec n m,Nat.gcd_comm]
theorem gcd_abs (a b:Int):Int.gcd (if a < 0 then -a else a) (if b < 0 then -b else b)=Int.gcd a b:=by
 have e:∀ z:Int,(if z < 0 then -z else z).natAbs=z.natAbs:=fun z=>by split <;> lia
 unfold Int.gcd
 rw [e,e]
theorem gcd_zero_left {x:Int} (h:0≤x):((Int.gcd x 0:Nat):Int)=x:=by
 rw [Int.gcd_zero_right]; lia
theorem gcd_pos {t b:Int} (hb:b≠0):0 < ((Int.gcd t b:Nat):Int):=by
 have:0 < Int.gcd t b:=Int.gcd_pos_of_ne_zero_right t hb
 lia
theorem low_of {t b g s:Int} (hb:b≠0) (hg:g=(Int.gcd t b:Nat)) (hs:s=g∧0 < b∨s = -g∧b < 0) :
  Low (t.fdiv s) (b.fdiv s)∧t.fdiv s * b=t * b.fdiv s∧(t.fdiv s).natAbs≤t.natAbs∧(b.fdiv s).natAbs≤b.natAbs:=by
 have gp:0 < g:=by rw [hg]; exact gcd_pos hb
 have d1:g ∣ t:=by rw [hg]; exact Int.gcd_dvd_left t b
 have d2:g ∣ b:=by rw [hg]; exact Int.gcd_dvd_right t b
 have s1:s ∣ t:=by rcases hs with ⟨h,_⟩ | ⟨h,_⟩ <;> rw [h]; exact d1; exact Int.neg_dvd.mpr d1
 have s2:s ∣ b:=by rcases hs with ⟨h,_⟩ | ⟨h,_⟩ <;> rw [h]; exact d2; exact Int.neg_dvd.mpr d2
 have s0:s≠0:=by rcases hs with ⟨h,_⟩ | ⟨h,_⟩ <;> lia
 obtain ⟨x,hx⟩:=s1
 obtain ⟨y,hy⟩:=s2
 have ex:t.fdiv s=x:=by rw [hx]; exact Int.mul_fdiv_cancel_left x s0
 have ey:b.fdiv s=y:=by rw [hy]; exact Int.mul_fdiv_cancel_left y s0
 have e1:(t.fdiv s).natAbs≤t.natAbs:=natAbs_fdiv_le t s
 have e2:(b.fdiv s).natAbs≤b.natAbs:=natAbs_fdiv_le b s
 refine ⟨⟨?_,?_⟩,?_,e1,e2⟩
 ·rw [ey]
  rcases hs with ⟨h,hp⟩ | ⟨h,hp⟩
  ·rw [hy,h] at hp
   exact Int.pos_of_mul_pos_right hp gp
  ·rw [hy,h] at hp
   have:0 < g * y:=by rw [Int.neg_mul] at hp; lia
   exact Int.pos_of_mul_pos_right this gp
 ·rw [ex,ey]
  have q:Int.gcd t b=s.natAbs * Int.gcd x y:=by
   rw [hx,hy,Int.gcd_mul_left]
  have sn:s.natAbs=g.toNat:=by rcases hs with ⟨h,_⟩ | ⟨h,_⟩ <;> lia
  have gn:g.toNat=Int.gcd t b:=by lia
  rw [sn,gn] at q
  have pos:0 < Int.gcd t b:=Int.gcd_pos_of_ne_zero_right t hb
  have:Int.gcd t b * Int.gcd x y=Int.gcd t b * 1:=by lia
  exact Nat.eq_of_mul_eq_mul_left pos this
 ·rw [ex,ey]
  have:x * b=x * (s * y):=by rw [← hy]
  have h2:t * y=s * x * y:=by rw [← hx]
  rw [this,h2,← Int.mul_assoc,Int.mul_comm x s]
theorem dvd_co {k n m:Int} (h:k ∣ n * m) (g:Int.gcd k n=1):k ∣ m:=by
 have q:=Int.dvd_gcd_mul_iff_dvd_mul.mpr h
 rw [g] at q
 simpa using q
theorem low_uniq {x y x' y':Int} (h:Low x y) (h':Low x' y') (e:x * y'=x' * y):x=x'∧y=y':=by
 obtain ⟨p,g⟩:=h
 obtain ⟨p',g'⟩:=h'
 have d1:y ∣ y':=by
  have:y ∣ x * y':=⟨x',by rw [e,Int.mul_comm]⟩
  exact dvd_co this (by rw [Int.gcd_comm]; exact g)
 have d2:y' ∣ y:=by
  have:y' ∣ x' * y:=⟨x,by rw [← e,Int.mul_comm]⟩
  exact dvd_co this (by rw [Int.gcd_comm]; exact g')
 have ey:y=y':=Int.dvd_antisymm (Int.le_of_lt p) (Int.le_of_lt p') d1 d2
 refine ⟨?_,ey⟩
 rw [ey] at e
 exact Int.eq_of_mul_eq_mul_right (by lia) e
end Cut
namespace Cut
end Cut
namespace Cut
def Pt (x y z:Int):Prop:=0 < z∧Int.gcd (Int.gcd x y:Nat) z=1
theorem gcd3 (a b n:Int):Int.gcd (Int.gcd a n:Nat) b=Nat.gcd (Nat.gcd a.natAbs b.natAbs) n.natAbs:=by
 show Nat.gcd (Nat.gcd a.natAbs n.natAbs) b.natAbs=_
 rw [Nat.gcd_assoc,Nat.gcd_comm n.natAbs,← Nat.gcd_assoc]
theorem gcd3' (a b n:Int):Int.gcd (Int.gcd a b:Nat) n=Nat.gcd (Nat.gcd a.natAbs b.natAbs) n.natAbs:=rfl
theorem gcd3_pos {a b n:Int} (hn:n≠0):0 < ((Int.gcd (Int.gcd a n:Nat) b:Nat):Int):=by
 rw [gcd3]
 have:0 < Nat.gcd (Nat.gcd a.natAbs b.natAbs) n.natAbs:=Nat.gcd_pos_of_pos_right _ (by lia)
 lia
theorem gcd3_dvd (a b n:Int):((Int.gcd (Int.gcd a n:Nat) b:Nat):Int) ∣ a∧((Int.gcd (Int.gcd a n:Nat) b:Nat):Int) ∣ b∧((Int.gcd (Int.gcd a n:Nat) b:Nat):Int) ∣ n:=by
 rw [gcd3]
 have h1:=Nat.gcd_dvd_left (Nat.gcd a.natAbs b.natAbs) n.natAbs
 have h2:=Nat.gcd_dvd_right (Nat.gcd a.natAbs b.natAbs) n.natAbs
 refine ⟨?_,?_,?_⟩
 ·exact Int.ofNat_dvd_left.mpr (Nat.dvd_trans h1 (Nat.gcd_dvd_left _ _))
 ·exact Int.ofNat_dvd_left.mpr (Nat.dvd_trans h1 (Nat.gcd_dvd_right _ _))
 ·exact Int.ofNat_dvd_left.mpr h2
theorem pt_of {a b n g s:Int} (hn:n≠0) (hg:g=(Int.gcd (Int.gcd a n:Nat) b:Nat)) (hs:s=g∧0 < n∨s = -g∧n < 0) :
  Pt (a.fdiv s) (b.fdiv s) (n.fdiv s)∧a.fdiv s * n=a * n.fdiv s∧b.fdiv s * n=b * n.fdiv s∧(a.fdiv s).natAbs≤a.natAbs∧(b.fdiv s).natAbs≤b.natAbs∧(n.fdiv s).natAbs≤n.natAbs:=by
 have gp:0 < g:=by rw [hg]; exact gcd3_pos hn
 obtain ⟨d1,d2,d3⟩:=gcd3_dvd a b n
 rw [← hg] at d1 d2 d3
 have s0:s≠0:=by rcases hs with ⟨h,_⟩ | ⟨h,_⟩ <;> lia
 have dv:∀ z:Int,g ∣ z→s ∣ z:=fun z hz=>by
  rcases hs with ⟨h,_⟩ | ⟨h,_⟩ <;> rw [h]
  ·exact hz
  ·exact Int.neg_dvd.mpr hz
 obtain ⟨x,hx⟩:=dv a d1
 obtain ⟨y,hy⟩:=dv b d2
 obtain ⟨z,hz⟩:=dv n d3
 have ex:a.fdiv s=x:=by rw [hx]; exact Int.mul_fdiv_cancel_left x s0
 have ey:b.fdiv s=y:=by rw [hy]; exact Int.mul_fdiv_cancel_left y s0
 have ez:n.fdiv s=z:=by rw [hz]; exact Int.mul_fdiv_cancel_left z s0
 refine ⟨⟨?_,?_⟩,?_,?_,PySem.natAbs_fdiv_le a s,PySem.natAbs_fdiv_le b s,PySem.natAbs_fdiv_le n s⟩
 ·rw [ez]
  rcases hs with ⟨h,hp⟩ | ⟨h,hp⟩
  ·rw [hz,h] at hp
   exact Int.pos_of_mul_pos_right hp gp
  ·rw [hz,h] at hp
   have:0 < g * z:=by rw [Int.neg_mul] at hp; lia
   exact Int.pos_of_mul_pos_right this gp
 ·rw [ex,ey,ez,gcd3']
  rw [gcd3,hx,hy,hz,Int.natAbs_mul,Int.natAbs_mul,Int.natAbs_mul,Nat.gcd_mul_left,Nat.gcd_mul_left] at hg
  have sn:s.natAbs=g.toNat:=by rcases hs with ⟨h,_⟩ | ⟨h,_⟩ <;> lia
  have pos:0 < s.natAbs:=by lia
  have q:s.natAbs * Nat.gcd (Nat.gcd x.natAbs y.natAbs) z.natAbs=s.natAbs * 1:=by lia
  exact Nat.eq_of_mul_eq_mul_left pos q
 ·rw [ex,ez]
  have h1:x * n=x * (s * z):=by rw [← hz]
  have h2:a * z=s * x * z:=by rw [← hx]
  rw [h1,h2,← Int.mul_assoc,Int.mul_comm x s]
 ·rw [ey,ez]
  have h1:y * n=y * (s * z):=by rw [← hz]
  have h2:b * z=s * y * z:=by rw [← hy]
  rw [h1,h2,← Int.mul_assoc,Int.mul_comm y s]
theorem pt_dvd {x y z x' y' z':Int} (g:Int.gcd (Int.gcd x y:Nat) z=1) (e1:x * z'=x' * z) (e2:y * z'=y' * z):z ∣ z':=by
 have d1:z.natAbs ∣ x.natAbs * z'.natAbs:=⟨x'.natAbs,by rw [← Int.natAbs_mul,e1,Int.natAbs_mul,Nat.mul_comm]⟩
 have d2:z.natAbs ∣ y.natAbs * z'.natAbs:=⟨y'.natAbs,by rw [← Int.natAbs_mul,e2,Int.natAbs_mul,Nat.mul_comm]⟩
 have d3:z.natAbs ∣ z.natAbs * z'.natAbs:=⟨z'.natAbs,rfl⟩
 have q:=Nat.dvd_gcd (Nat.dvd_gcd d1 d2) d3
 rw [Nat.gcd_mul_right,Nat.gcd_mul_right] at q
 rw [gcd3'] at g
 rw [g,Nat.one_mul] at q
 exact Int.natAbs_dvd_natAbs.mp q
theorem pt_uniq {x y z x' y' z':Int} (h:Pt x y z) (h':Pt x' y' z') (e1:x * z'=x' * z) (e2:y * z'=y' * z):x=x'∧y=y'∧z=z':=by
 have d1:=pt_dvd h.2 e1 e2
 have d2:=pt_dvd h'.2 e1.symm e2.symm
 have ez:z=z':=Int.dvd_antisymm (Int.le_of_lt h.1) (Int.le_of_lt h'.1) d1 d2
 subst ez
 have nz:z≠0:=Int.ne_of_gt h.1
 exact ⟨Int.eq_of_mul_eq_mul_right nz e1,Int.eq_of_mul_eq_mul_right nz e2,rfl⟩
theorem gcd3_bits {a b n:Int} {k:Nat} (hn:n≠0) (h:PySem.Builtin.Int.intBits n≤k):PySem.Builtin.Int.intBits ((Int.gcd (Int.gcd a n:Nat) b:Nat):Int)≤k:=by
 refine PySem.intBits_le_of_natAbs ?_ h
 exact Nat.le_of_dvd (by lia) (Int.natAbs_dvd_natAbs.mpr (gcd3_dvd a b n).2.2)
theorem one_ne {u v:Int} (hu:0 < u) (hv:0 < v):u * v≠0:=Int.ne_of_gt (Int.mul_pos hu hv)
end Cut
namespace Cut
theorem pt_neg {x y z:Int} (h:Pt x y z):Pt (-x) (-y) z:=by
 refine ⟨h.1,?_⟩
 have g:=h.2
 rw [gcd3'] at g ⊢
 rw [Int.natAbs_neg,Int.natAbs_neg]
 exact g
end Cut
namespace L3
open PySem L2
open PySem.Builtin.Int (intBits)
inductive D where
 | non | bl (b:Bool) | int (i:Int) | str (x:Str) | ty (n:String) | tup (xs:List D) | lst (xs:List D) | scr (ns:List Int) | ktup (xs:List D) | kfn (f:Addr) | dct (b:Bool) (ks:List (List (List Int))) (ds:List D)
inductive Cn where
 | l (ds:List D) | d (b:Bool) (t:Option Addr) (ks:List (List (List Int))) (ds:List D)
instance:Coe (List D) Cn:=⟨Cn.l⟩
inductive Dp where
 | ll (a:Addr) (as:List Addr) (dss:List (List D)) | dl (b:Bool) (a:Addr) (ks:List (List (List Int))) (as:List Addr) (dss:List (List D)) | nl (a:Addr) (ds:List D)
def Dp.adr:Dp→Addr
 | .ll a _ _=>a
 | .dl _ a _ _ _=>a
 | .nl a _=>a
def Dp.ins:Dp→List Addr
 | .ll _ as _=>as
 | .dl _ _ _ as _=>as
 | .nl _ _=>[]
def Dp.dss:Dp→List (List D)
 | .ll _ _ x=>x
 | .dl _ _ _ _ x=>x
 | .nl _ _=>[]
inductive Sl where
 | no | val (d:D) | own (c:Cn) | bag | new (d:D) | pin (v:V) (d:D) | deep (c:Dp)
def hashK (b:Bool) (k:List (List Int)):Int :=
 if b then reduceHash (Builtin.Tuple.tupleHashOf (k.map fun ks=>reduceHash (Builtin.Tuple.tupleHashOf (ks.map hashInt)))) else reduceHash (Builtin.Tuple.tupleHashOf ((k.headD []).map hashInt))
def keyD (b:Bool) (k:List (List Int)):D:=if b then .tup (k.map fun ks=>.tup (ks.map D.int)) else .tup ((k.headD []).map D.int)
def entK (b:Bool):List (List (List Int))→List Addr→List Value→List DictEntry
 | k :: ks,a :: as,u :: us=>⟨hashK b k,.ref a,u⟩ :: entK b ks as us
 | _,_,_=>[]
def DicO (b:Bool) (a:Addr) (ep:Nat) (ks:List (List (List Int))) (as:List Addr) (vs:List V):HO:=.ext fun h=>ks.length≤sizeLine∧as.length=ks.length∧vs.length=ks.length∧(a == sysModules)=false ∧
 ∃ us:List Value,Vals vs us∧∃ o es,h.get? a=some o∧o.ExactDict∧o.data=.dict es ep∧es.toList=entK b ks as us∧ks.Nodup
mutual
inductive Rep (K:PySem.W.Frag) (B:Hp):V→D→Prop where
 | non:Rep K B .non .non
 | bl (b:Bool):Rep K B (.bl b) (.bl b)
 | int (i:Int):Rep K B (.int i) (.int i)
 | str (x:Str):Rep K B (.str x) (.str x)
 | ty (n:String):Rep K B (.ty n) (.ty n)
 | tup {a:Addr} {vs:List V} {ds:List D} (h:B a=some (.tup vs)) (r:Reps K B vs ds):Rep K B (.ref a) (.tup ds)
 | lst {a:Addr} {vs:List V} {ds:List D} (h:B a=some (.lst vs)) (r:Reps K B vs ds):Rep K B (.ref a) (.lst ds)
 | scr {a:Addr} {ns:List Int} (h:SqL K B a (ns.map V.int)):Rep K B (.ref a) (.scr ns)
 | ktup {a:Addr} {vs:List V} {ds:List D} (h:SqT K B a vs) (r:Reps K B vs ds):Rep K B (.ref a) (.ktup ds)
 | kfn (f:Addr):Rep K B (.ref f) (.kfn f)
 | dct {a:Addr} {b:Bool} {ep:Nat} {ks:List (List (List Int))} {as:List Addr} {vs:List V} {ds:List D} (h:B a=some (DicO b a ep ks as vs)) (hk:Reps K B (as.map V.ref) (ks.map (keyD b))) (hb:b=false→∀ k∈ks,∃ l,k=[l]) (r:Reps K B vs ds):Rep K B (.ref a) (.dct b ks ds)
inductive Reps (K:PySem.W.Frag) (B:Hp):List V→List D→Prop where
 | nil:Reps K B [] []
 | cons {v:V} {d:D} {vs:List V} {ds:List D} (h:Rep K B v d) (r:Reps K B vs ds):Reps K B (v :: vs) (d :: ds)
end
theorem sameT {K:PySem.W.Frag} {H H':Hp} {a:Addr} {xs:List V} (e:Same H H') (h:SqT K H a xs):SqT K H' a xs:=by
 rcases h with (h | ⟨o,h⟩) | h
 ·exact .inl (.inl (e _ _ h))
 ·exact .inl (.inr ⟨o,e _ _ h⟩)
 ·exact .inr h
section
variable {K:PySem.W.Frag} {B B':Hp}
mutual
theorem Rep.mono (s:Same B B'):∀ {v:V} {d:D},Rep K B v d→Rep K B' v d
 | _,_,.non=>.non
 | _,_,.bl b=>.bl b
 | _,_,.int i=>.int i
 | _,_,.str x=>.str x
 | _,_,.ty n=>.ty n
 | _,_,.tup h r=>.tup (s _ _ h) (Reps.mono s r)
 | _,_,.lst h r=>.lst (s _ _ h) (Reps.mono s r)
 | _,_,.scr h=>.scr (s.seq h)
 | _,_,.ktup h r=>.ktup (sameT s h) (Reps.mono s r)
 | _,_,.kfn f=>.kfn f
 | _,_,.dct h hk hb r=>.dct (s _ _ h) (Reps.mono s hk) hb (Reps.mono s r)
theorem Reps.mono (s:Same B B'):∀ {vs:List V} {ds:List D},Reps K B vs ds→Reps K B' vs ds
 | _,_,.nil=>.nil
 | _,_,.cons h r=>.cons (Rep.mono s h) (Reps.mono s r)
end
theorem Reps.length:∀ {vs:List V} {ds:List D},Reps K B vs ds→vs.length=ds.length
 | _,_,.nil=>rfl
 | _,_,.cons _ r=>by rw [List.length_cons,List.length_cons,r.length]
theorem Reps.get:∀ {vs:List V} {ds:List D} {i:Nat} {d:D},Reps K B vs ds→ds[i]?=some d→∃ v,vs[i]?=some v∧Rep K B v d
 | _,_,_,_,.nil,e=>by simp at e
 | _,_,0,_,.cons h _,e=>by simp at e; subst e; exact ⟨_,rfl,h⟩
 | _,_,i + 1,d,.cons _ r,e=>by
  obtain ⟨v,h1,h2⟩:=Reps.get (i:=i) (d:=d) r (by simpa using e)
  exact ⟨v,by simpa using h1,h2⟩
theorem Reps.getV:∀ {vs:List V} {ds:List D} {i:Nat} {v:V},Reps K B vs ds→vs[i]?=some v→∃ d,ds[i]?=some d∧Rep K B v d
 | _,_,_,_,.nil,e=>by simp at e
 | _,_,0,_,.cons h _,e=>by simp at e; subst e; exact ⟨_,rfl,h⟩
 | _,_,i + 1,v,.cons _ r,e=>by
  obtain ⟨d,h1,h2⟩:=Reps.getV (i:=i) (v:=v) r (by simpa using e)
  exact ⟨d,by simpa using h1,h2⟩
theorem Reps.append:∀ {vs ws:List V} {ds es:List D},Reps K B vs ds→Reps K B ws es→Reps K B (vs ++ ws) (ds ++ es)
 | _,_,_,_,.nil,s=>s
 | _,_,_,_,.cons h r,s=>.cons h (Reps.append r s)
theorem Reps.take:∀ {vs:List V} {ds:List D} (n:Nat),Reps K B vs ds→Reps K B (vs.take n) (ds.take n)
 | _,_,0,_=>.nil
 | _,_,_ + 1,.nil=>.nil
 | _,_,n + 1,.cons h r=>.cons h (Reps.take n r)
theorem Reps.drop:∀ {vs:List V} {ds:List D} (n:Nat),Reps K B vs ds→Reps K B (vs.drop n) (ds.drop n)
 | _,_,0,r=>r
 | _,_,_ + 1,.nil=>.nil
 | _,_,n + 1,.cons _ r=>Reps.drop n r
theorem Reps.ints:∀ (ns:List Int),Reps K B (ns.map V.int) (ns.map D.int)
 | []=>.nil
 | n :: r=>.cons (.int n) (Reps.ints r)
end
def Bag (H:Hp) (b:Addr):Prop:=∃ x y:Int,H b=some (.lst [.int x,.int y])∧0≤x∧0≤y∧y < 2147483647
def MutAt (σ:St) (ρ:List Sl) (i:Nat) (a:Addr):Prop:=(σ[i]?=some (some (.ref a))∧(ρ[i]?=some .bag∨∃ ds,ρ[i]?=some (.own ds)))∨∃ c,ρ[i]?=some (.deep c)∧a∈c.adr :: c.ins
structure Wd (R:Hp) (W:Addr→Prop) (B H:Hp):Prop where
 fr:∀ a o,R a=some o→¬ W a→H a=some o
 bh:Same B H
 wb:∀ a,W a→B a=none
 wh:∀ a,W a→Bag H a
 wr:∀ a,W a→R a≠none
open Classical in
noncomputable def mixB (R:Hp) (W:Addr→Prop) (B:Hp):Hp:=fun a=>match R a with
 | some (.lst vs)=>if W a then B a else some (.lst vs)
 | _=>B a
theorem mixB_mono {R:Hp} {W:Addr→Prop} {B B':Hp} (s:Same B B'):Same (mixB R W B) (mixB R W B'):=fun a o h=>by
 unfold mixB at h ⊢
 split at h
 ·split at h
  ·rename_i z; rw [if_pos z]; exact s a o h
  ·rename_i z; rw [if_neg z]; exact h
 ·exact s a o h
def CnOk (K:PySem.W.Frag) (B H:Hp) (a:Addr):Cn→Prop
 | .l ds=>∃ vs,H a=some (.lst vs)∧Reps K B vs ds
 | .d b t ks ds=>∃ ep as vs,(∀ c,t=some c→c=a)∧H a=some (DicO b a ep ks as vs)∧Reps K B (as.map V.ref) (ks.map (keyD b))∧(b=false→∀ k∈ks,∃ l,k=[l])∧Reps K B vs ds
theorem CnOk.mono {K:PySem.W.Frag} {B B' H H':Hp} {a:Addr} {c:Cn} (h:CnOk K B H a c) (s:Same B B') (e:H' a=H a):CnOk K B' H' a c:=by
 cases c with
 | l ds=>obtain ⟨vs,h1,h2⟩:=h; exact ⟨vs,by rw [e]; exact h1,h2.mono s⟩
 | d b t ks ds=>obtain ⟨ep,as,vs,h0,h1,h2,h3,h4⟩:=h; exact ⟨ep,as,vs,h0,by rw [e]; exact h1,h2.mono s,h3,h4.mono s⟩
theorem CnOk.ne {K:PySem.W.Frag} {B H:Hp} {a:Addr} {c:Cn} (h:CnOk K B H a c):H a≠none:=by
 cases c with
 | l ds=>obtain ⟨vs,h1,h2⟩:=h; rw [h1]; simp
 | d b t ks ds=>obtain ⟨ep,as,vs,_,h1,_⟩:=h; rw [h1]; simp
structure InOk (K:PySem.W.Frag) (B H:Hp) (as:List Addr) (dss:List (List D)):Prop where
 len:as.length=dss.length
 at_:∀ (i:Nat) (a:Addr) (ds:List D),as[i]?=some a→dss[i]?=some ds→∃ vs,H a=some (.lst vs)∧Reps K B vs ds
theorem InOk.mono {K:PySem.W.Frag} {B B' H H':Hp} {as:List Addr} {dss:List (List D)} (h:InOk K B H as dss) (s:Same B B') (e:∀ a∈as,H' a=H a):InOk K B' H' as dss :=
 ⟨h.len,fun i a ds h1 h2=>by
  obtain ⟨vs,q1,q2⟩:=h.at_ i a ds h1 h2
  exact ⟨vs,by rw [e a (List.mem_of_getElem? h1)]; exact q1,q2.mono s⟩⟩
theorem InOk.ne {K:PySem.W.Frag} {B H:Hp} {as:List Addr} {dss:List (List D)} (h:InOk K B H as dss) {a:Addr} (m:a∈as):H a≠none:=by
 obtain ⟨i,hi⟩:=List.getElem?_of_mem m
 have lt:i < as.length:=by
  by_cases z:i < as.length
  ·exact z
  ·rw [List.getElem?_eq_none (by lia)] at hi; cases hi
 obtain ⟨vs,q1,_⟩:=h.at_ i a _ hi (List.getElem?_eq_getElem (by rw [← h.len]; exact lt))
 rw [q1]; simp
def newL (R B:Hp):Hp:=fun a=>match B a with
 | some (.lst vs)=>if (R a).isNone then some (.lst vs) else none
 | o=>o
theorem newL_sub {R B:Hp}:Same (newL R B) B:=fun a o h=>by
 unfold newL at h
 split at h
 ·rename_i vs e
  split at h
  ·rw [e]; exact h
  ·cases h
 ·exact h
theorem newL_mono {R B B':Hp} (s:Same B B'):Same (newL R B) (newL R B'):=fun a o h=>by
 have hB:=s a o (newL_sub a o h)
 unfold newL at h ⊢
 rw [hB]
 split at h
 ·rename_i vs e
  split at h
  ·rename_i z
   have:=Option.some.inj h
   subst this
   dsimp only
   rw [if_pos z]
  ·cases h
 ·rename_i ne
  cases o with
  | lst vs=>exact absurd h (ne vs)
  | _=>rfl
def dpB (R B:Hp):Dp→Hp
 | .nl _ _=>newL R B
 | _=>B
theorem dpB_mono {R B B':Hp} (s:Same B B') (c:Dp):Same (dpB R B c) (dpB R B' c):=by
 cases c with
 | nl a ds=>exact newL_mono s
 | _=>exact s
def DpO (K:PySem.W.Frag) (B H:Hp):Dp→Prop
 | .ll a as dss=>H a=some (.lst (as.map V.ref))∧InOk K B H as dss
 | .dl b a ks as dss=>∃ ep kas,H a=some (DicO b a ep ks kas (as.map V.ref))∧Reps K B (kas.map V.ref) (ks.map (keyD b))∧(b=false→∀ k∈ks,∃ l,k=[l])∧InOk K B H as dss
 | .nl a ds=>∃ vs,H a=some (.lst vs)∧Reps K B vs ds
structure DpOk (K:PySem.W.Frag) (R B H:Hp) (c:Dp):Prop where
 fr:∀ a∈c.adr :: c.ins,R a=none∧B a=none
 nd:(c.adr :: c.ins).Nodup
 ok:DpO K (dpB R B c) H c
theorem DpO.mono {K:PySem.W.Frag} {B B' H H':Hp} {c:Dp} (h:DpO K B H c) (s:Same B B') (e:∀ a∈c.adr :: c.ins,H' a=H a):DpO K B' H' c:=by
 cases c with
 | ll a as dss=>exact ⟨by rw [e a List.mem_cons_self]; exact h.1,h.2.mono s fun x m=>e x (List.mem_cons_of_mem _ m)⟩
 | dl b a ks as dss =>
  obtain ⟨ep,kas,h1,h2,h3,h4⟩:=h
  exact ⟨ep,kas,by rw [e a List.mem_cons_self]; exact h1,h2.mono s,h3,h4.mono s fun x m=>e x (List.mem_cons_of_mem _ m)⟩
 | nl a ds=>obtain ⟨vs,h1,h2⟩:=h; exact ⟨vs,by rw [e a List.mem_cons_self]; exact h1,h2.mono s⟩
theorem DpO.ne {K:PySem.W.Frag} {B H:Hp} {c:Dp} (h:DpO K B H c) {a:Addr} (m:a∈c.adr :: c.ins):H a≠none:=by
 cases c with
 | ll b as dss =>
  rcases List.mem_cons.mp m with e | m
  ·rw [show a=b from e,h.1]; simp
  ·exact h.2.ne m
 | dl b p ks as dss =>
  obtain ⟨ep,kas,h1,h2,h3,h4⟩:=h
  rcases List.mem_cons.mp m with e | m
  ·rw [show a=p from e,h1]; simp
  ·exact h4.ne m
 | nl b ds =>
  obtain ⟨vs,h1,h2⟩:=h
  rcases List.mem_cons.mp m with e | m
  ·rw [show a=b from e,h1]; simp
  ·simp [Dp.ins] at m
def SlOk (K:PySem.W.Frag) (R:Hp) (W:Addr→Prop) (B H:Hp) (o:Option V):Sl→Prop
 | .no=>True
 | .val d=>∃ v,o=some v∧Rep K B v d
 | .own c=>∃ a,o=some (.ref a)∧R a=none∧B a=none∧CnOk K B H a c
 | .bag=>∃ b,o=some (.ref b)∧(W b∨R b=none)∧B b=none∧Bag H b
 | .new d=>∃ v,o=some v∧Rep K (mixB R W B) v d
 | .pin v d=>o=some v∧Rep K (mixB R W B) v d
 | .deep c=>o=some (.ref c.adr)∧DpOk K R B H c
structure Ev (K:PySem.W.Frag) (R:Hp) (W:Addr→Prop) (B H:Hp) (σ:St) (ρ:List Sl):Prop extends Wd R W B H where
 len:σ.length=ρ.length
 ok:∀ (i:Nat) (k:Sl),ρ[i]?=some k→SlOk K R W B H (σ[i]?).join k
 sep:∀ (i j:Nat) (a:Addr),MutAt σ ρ i a→MutAt σ ρ j a→i=j
structure Grow (R B B':Hp):Prop where
 s:Same B B'
 n:∀ a o,B' a=some o→B a=some o∨R a=none
theorem Grow.refl (R B:Hp):Grow R B B:=⟨Same.refl _,fun _ _ h=>.inl h⟩
theorem Grow.trans {R B B' B'':Hp} (g:Grow R B B') (h:Grow R B' B''):Grow R B B'':=⟨g.s.trans h.s,fun a o e=>(h.n a o e).elim (g.n a o) .inr⟩
theorem Wd.fresh {R:Hp} {W:Addr→Prop} {B H:Hp} (w:Wd R W B H) {p:Addr} (h:H p=none):R p=none∧¬ W p∧B p=none:=by
 have nw:¬ W p:=fun z=>by
  obtain ⟨x,y,e,_⟩:=w.wh p z
  rw [h] at e; cases e
 refine ⟨?_,nw,w.bh.free h⟩
 cases q:R p with
 | none=>rfl
 | some o=>rw [w.fr p o q nw] at h; cases h
theorem join_some {α:Type} {o:Option (Option α)} {v:α} (h:o.join=some v):o=some (some v):=by
 cases o with
 | none=>cases h
 | some x=>exact congrArg some h
section
variable {K:PySem.W.Frag} {R:Hp} {W:Addr→Prop} {B B' H H':Hp} {σ:St} {ρ:List Sl}
theorem Ev.val (e:Ev K R W B H σ ρ) {i:Nat} {d:D} (h:ρ[i]?=some (.val d)):∃ v,σ[i]?=some (some v)∧Rep K B v d:=by
 obtain ⟨v,h1,h2⟩:=e.ok i _ h
 exact ⟨v,join_some h1,h2⟩
theorem Ev.ownAt (e:Ev K R W B H σ ρ) {i:Nat} {ds:List D} (h:ρ[i]?=some (.own ds)):∃ a vs,σ[i]?=some (some (.ref a))∧R a=none∧B a=none∧H a=some (.lst vs)∧Reps K B vs ds:=by
 obtain ⟨a,h1,h2,h3,vs,h4,h5⟩:=e.ok i _ h
 exact ⟨a,vs,join_some h1,h2,h3,h4,h5⟩
theorem Ev.ownC (e:Ev K R W B H σ ρ) {i:Nat} {c:Cn} (h:ρ[i]?=some (.own c)):∃ a,σ[i]?=some (some (.ref a))∧R a=none∧B a=none∧CnOk K B H a c:=by
 obtain ⟨a,h1,h2⟩:=e.ok i _ h
 exact ⟨a,join_some h1,h2⟩
theorem Ev.bagAt (e:Ev K R W B H σ ρ) {i:Nat} (h:ρ[i]?=some .bag):∃ b,σ[i]?=some (some (.ref b))∧(W b∨R b=none)∧B b=none∧Bag H b:=by
 obtain ⟨a,h1,h2⟩:=e.ok i _ h
 exact ⟨a,join_some h1,h2⟩
theorem Ev.deepAt (e:Ev K R W B H σ ρ) {i:Nat} {c:Dp} (h:ρ[i]?=some (.deep c)):σ[i]?=some (some (.ref c.adr))∧DpOk K R B H c:=by
 obtain ⟨h1,h2⟩:=e.ok i _ h
 exact ⟨join_some h1,h2⟩
theorem Ev.mutOk (e:Ev K R W B H σ ρ) {i:Nat} {a:Addr} (m:MutAt σ ρ i a):B a=none∧H a≠none:=by
 rcases m with ⟨h1,h2 | ⟨ds,h2⟩⟩ | ⟨c,h1,h2⟩
 ·obtain ⟨b,e1,_,e3,x,y,e4,_⟩:=e.bagAt h2
  rw [h1] at e1; cases e1
  exact ⟨e3,by rw [e4]; simp⟩
 ·obtain ⟨b,e1,_,e3,e4⟩:=e.ownC h2
  rw [h1] at e1; cases e1
  exact ⟨e3,e4.ne⟩
 ·have q:=(e.deepAt h1).2
  exact ⟨(q.fr a h2).2,q.ok.ne h2⟩
theorem mut_in {i:Nat} {a:Addr} (m:MutAt σ ρ i a) (n:∀ c,ρ[i]?≠some (.deep c)):σ[i]?=some (some (.ref a))∧(ρ[i]?=some .bag∨∃ ds,ρ[i]?=some (.own ds)):=by
 rcases m with m | ⟨c,h,_⟩
 ·exact m
 ·exact absurd h (n c)
theorem mut_bag {i:Nat} {a:Addr} (m:MutAt σ ρ i a) (h:ρ[i]?=some .bag):σ[i]?=some (some (.ref a)):=(mut_in m fun c z=>by rw [h] at z; cases z).1
theorem mut_own {i:Nat} {a:Addr} {c:Cn} (m:MutAt σ ρ i a) (h:ρ[i]?=some (.own c)):σ[i]?=some (some (.ref a)):=(mut_in m fun c z=>by rw [h] at z; cases z).1
theorem Ev.move (e:Ev K R W B H σ ρ) (w:Wd R W B' H') (s:Same B B') (m:∀ i a,MutAt σ ρ i a→B' a=none∧(ρ[i]?=some .bag→Bag H' a)∧(ρ[i]?≠some .bag→H' a=H a)):Ev K R W B' H' σ ρ:=by
 refine ⟨w,e.len,fun i k h=>?_,e.sep⟩
 cases k with
 | no=>trivial
 | new d =>
  obtain ⟨v,h1,h2⟩:=e.ok i _ h
  exact ⟨v,h1,h2.mono (mixB_mono s)⟩
 | pin v d =>
  obtain ⟨h1,h2⟩:=e.ok i _ h
  exact ⟨h1,h2.mono (mixB_mono s)⟩
 | val d =>
  obtain ⟨v,h1,h2⟩:=e.ok i _ h
  exact ⟨v,h1,h2.mono s⟩
 | own ds =>
  obtain ⟨a,h1,h2,h3,h4⟩:=e.ok i _ h
  obtain ⟨m1,m2,m3⟩:=m i a (.inl ⟨join_some h1,.inr ⟨ds,h⟩⟩)
  exact ⟨a,h1,h2,m1,h4.mono s (m3 (by rw [h]; simp))⟩
 | deep c =>
  obtain ⟨h1,h2⟩:=e.ok i _ h
  have mm:∀ a∈c.adr :: c.ins,B' a=none∧H' a=H a:=fun a ma=>by
   obtain ⟨m1,m2,m3⟩:=m i a (.inr ⟨c,h,ma⟩)
   exact ⟨m1,m3 (by rw [h]; simp)⟩
  exact ⟨h1,fun a ma=>⟨(h2.fr a ma).1,(mm a ma).1⟩,h2.nd,h2.ok.mono (dpB_mono s c) fun a ma=>(mm a ma).2⟩
 | bag =>
  obtain ⟨b,h1,h2,h3,h4⟩:=e.ok i _ h
  obtain ⟨m1,m2,m3⟩:=m i b (.inl ⟨join_some h1,.inl h⟩)
  exact ⟨b,h1,h2,m1,m2 h⟩
theorem Bag.upd {H:Hp} {b p:Addr} {o:HO} (h:Bag H b) (n:b≠p):Bag (L2.upd H p o) b:=by
 obtain ⟨x,y,e,q⟩:=h
 exact ⟨x,y,by rw [upd_ne n]; exact e,q⟩
theorem Wd.alloc (w:Wd R W B H) {p:Addr} (h:H p=none) (o:HO):Wd R W (upd B p o) (upd H p o):=by
 obtain ⟨f1,f2,f3⟩:=w.fresh h
 refine ⟨fun a u q nw=>?_,fun a u q=>?_,fun a z=>?_,fun a z=>?_,w.wr⟩
 ·rw [upd_ne (by rintro rfl; rw [f1] at q; cases q)]; exact w.fr a u q nw
 ·unfold L2.upd at q ⊢
  split
  ·rename_i z; rw [if_pos z] at q; exact q
  ·rename_i z; rw [if_neg z] at q; exact w.bh a u q
 ·rw [upd_ne (by rintro rfl; exact f2 z)]; exact w.wb a z
 ·exact (w.wh a z).upd (by rintro rfl; exact f2 z)
theorem Wd.allocH (w:Wd R W B H) {p:Addr} (h:H p=none) (o:HO):Wd R W B (upd H p o):=by
 obtain ⟨f1,f2,f3⟩:=w.fresh h
 refine ⟨fun a u q nw=>?_,fun a u q=>?_,w.wb,fun a z=>?_,w.wr⟩
 ·rw [upd_ne (by rintro rfl; rw [f1] at q; cases q)]; exact w.fr a u q nw
 ·rw [upd_ne (by rintro rfl; rw [f3] at q; cases q)]; exact w.bh a u q
 ·exact (w.wh a z).upd (by rintro rfl; exact f2 z)
theorem Ev.notNew (e:Ev K R W B H σ ρ) {p:Addr} (h:H p=none) {i:Nat} {a:Addr} (m:MutAt σ ρ i a):a≠p:=by
 rintro rfl
 exact (e.mutOk m).2 h
theorem Ev.alloc (e:Ev K R W B H σ ρ) {p:Addr} (h:H p=none) (o:HO):Ev K R W (upd B p o) (upd H p o) σ ρ:=by
 obtain ⟨f1,f2,f3⟩:=e.toWd.fresh h
 refine e.move (e.toWd.alloc h o) (same_new f3 o) fun i a m=>?_
 have n:=e.notNew h m
 refine ⟨by rw [upd_ne n]; exact (e.mutOk m).1,fun z=>?_,fun _=>upd_ne n⟩
 obtain ⟨b,e1,_,_,e4⟩:=e.bagAt z
 rw [mut_bag m z] at e1; cases e1
 exact e4.upd n
theorem Ev.allocH (e:Ev K R W B H σ ρ) {p:Addr} (h:H p=none) (o:HO):Ev K R W B (upd H p o) σ ρ:=by
 refine e.move (e.toWd.allocH h o) (Same.refl _) fun i a m=>?_
 have n:=e.notNew h m
 refine ⟨(e.mutOk m).1,fun z=>?_,fun _=>upd_ne n⟩
 obtain ⟨b,e1,_,_,e4⟩:=e.bagAt z
 rw [mut_bag m z] at e1; cases e1
 exact e4.upd n
theorem Ev.grow (e:Ev K R W B H σ ρ) {p:Addr} (h:H p=none) (o:HO):Grow R B (upd B p o):=by
 obtain ⟨f1,f2,f3⟩:=e.toWd.fresh h
 refine ⟨same_new f3 o,fun a u q=>?_⟩
 by_cases z:a=p
 ·subst z; exact .inr f1
 ·rw [upd_ne z] at q; exact .inl q
theorem Ev.freezeO (e:Ev K R W B H σ ρ) {a:Addr} {o:HO} (h:H a=some o) (hr:R a=none) (hb:B a=none) (hm:∀ i,¬ MutAt σ ρ i a):Ev K R W (upd B a o) H σ ρ∧Grow R B (upd B a o):=by
 have nw:¬ W a:=fun z=>e.wr a z hr
 refine ⟨e.move ⟨e.fr,fun b u q=>?_,fun b z=>?_,e.wh,e.wr⟩ (same_new hb _) (fun i b m=>?_),⟨same_new hb _,fun b u q=>?_⟩⟩
 ·by_cases z:b=a
  ·subst z; rw [upd_same] at q; cases q; exact h
  ·rw [upd_ne z] at q; exact e.bh b u q
 ·rw [upd_ne (by rintro rfl; exact nw z)]; exact e.wb b z
 ·have n:b≠a:=by rintro rfl; exact hm i m
  refine ⟨by rw [upd_ne n]; exact (e.mutOk m).1,fun z=>?_,fun _=>rfl⟩
  obtain ⟨c,e1,_,_,e4⟩:=e.bagAt z
  rw [mut_bag m z] at e1; cases e1
  exact e4
 ·by_cases z:b=a
  ·subst z; exact .inr hr
  ·rw [upd_ne z] at q; exact .inl q
theorem Ev.freeze (e:Ev K R W B H σ ρ) {a:Addr} {vs:List V} (h:H a=some (.lst vs)) (hr:R a=none) (hb:B a=none) (hm:∀ i,¬ MutAt σ ρ i a):Ev K R W (upd B a (.lst vs)) H σ ρ∧Grow R B (upd B a (.lst vs)):=e.freezeO h hr hb hm
theorem getElem?_set_some {α:Type} {l:List α} {i j:Nat} {x y:α} (h:(l.set i x)[j]?=some y):(j=i∧y=x)∨(j≠i∧l[j]?=some y):=by
 by_cases e:i=j
 ·subst e
  rw [List.getElem?_set_self'] at h
  cases q:l[i]? with
  | none=>rw [q] at h; cases h
  | some z=>rw [q] at h; exact .inl ⟨rfl,(Option.some.inj h).symm⟩
 ·rw [List.getElem?_set_ne e] at h
  exact .inr ⟨fun z=>e z.symm,h⟩
def Sl.adrs:Sl→List Addr
 | .deep c=>c.adr :: c.ins
 | _=>[]
theorem mut_set {i j:Nat} {v:V} {k:Sl} {a:Addr} (m:MutAt (σ.set i (some v)) (ρ.set i k) j a):(j=i∧((v=.ref a∧(k=.bag∨∃ ds,k=.own ds))∨a∈k.adrs))∨(j≠i∧MutAt σ ρ j a):=by
 rcases m with ⟨h1,h2⟩ | ⟨c,h1,h2⟩
 ·rcases getElem?_set_some h1 with ⟨e,h1⟩ | ⟨e,h1⟩
  ·refine .inl ⟨e,.inl ⟨(Option.some.inj h1).symm,?_⟩⟩
   rcases h2 with h2 | ⟨ds,h2⟩
   ·rcases getElem?_set_some h2 with ⟨_,h2⟩ | ⟨n,_⟩
    ·exact .inl h2.symm
    ·exact absurd e n
   ·rcases getElem?_set_some h2 with ⟨_,h2⟩ | ⟨n,_⟩
    ·exact .inr ⟨ds,h2.symm⟩
    ·exact absurd e n
  ·refine .inr ⟨e,.inl ⟨h1,?_⟩⟩
   rcases h2 with h2 | ⟨ds,h2⟩
   ·rcases getElem?_set_some h2 with ⟨n,_⟩ | ⟨_,h2⟩
    ·exact absurd n e
    ·exact .inl h2
   ·rcases getElem?_set_some h2 with ⟨n,_⟩ | ⟨_,h2⟩
    ·exact absurd n e
    ·exact .inr ⟨ds,h2⟩
 ·rcases getElem?_set_some h1 with ⟨e,h1⟩ | ⟨e,h1⟩
  ·exact .inl ⟨e,.inr (by rw [← h1]; exact h2)⟩
  ·exact .inr ⟨e,.inr ⟨c,h1,h2⟩⟩
theorem mut_setV {i j:Nat} {v:V} {k:Sl} {a:Addr} (m:MutAt (σ.set i (some v)) (ρ.set i k) j a) (n1:k≠.bag) (n2:∀ c,k≠.own c) (n3:k.adrs=[]):j≠i∧MutAt σ ρ j a:=by
 rcases mut_set m with ⟨_,⟨_,z | ⟨c,z⟩⟩ | z⟩ | m
 ·exact absurd z n1
 ·exact absurd z (n2 c)
 ·rw [n3] at z; cases z
 ·exact m
theorem Ev.set (e:Ev K R W B H σ ρ) (i:Nat) {v:V} {k:Sl} (hk:SlOk K R W B H (some v) k) (hm:∀ a,v=.ref a→(k=.bag∨∃ ds,k=.own ds)→∀ j,j≠i→¬ MutAt σ ρ j a) (hd:∀ a∈k.adrs,∀ j,j≠i→¬ MutAt σ ρ j a:=by intro _ z; cases z):Ev K R W B H (σ.set i (some v)) (ρ.set i k):=by
 refine ⟨e.toWd,by rw [List.length_set,List.length_set]; exact e.len,fun j k' h=>?_,fun x y a hx hy=>?_⟩
 ·rcases getElem?_set_some h with ⟨rfl,rfl⟩ | ⟨n,h⟩
  ·have lt:j < σ.length:=by
    rw [e.len]
    by_cases z:j < ρ.length
    ·exact z
    ·rw [List.getElem?_eq_none (by rw [List.length_set]; lia)] at h; cases h
   have q:((σ.set j (some v))[j]?).join=some v:=by rw [List.getElem?_set_self lt]; rfl
   rw [q]; exact hk
  ·rw [List.getElem?_set_ne (fun z=>n z.symm)]
   exact e.ok j k' h
 ·rcases mut_set hx with ⟨e1,z1⟩ | ⟨n1,m1⟩
  ·rcases mut_set hy with ⟨e2,_⟩ | ⟨n2,m2⟩
   ·rw [e1,e2]
   ·rcases z1 with ⟨v1,k1⟩ | z1
    ·exact absurd m2 (hm a v1 k1 y n2)
    ·exact absurd m2 (hd a z1 y n2)
  ·rcases mut_set hy with ⟨e2,z2⟩ | ⟨n2,m2⟩
   ·rcases z2 with ⟨v2,k2⟩ | z2
    ·exact absurd m1 (hm a v2 k2 x n1)
    ·exact absurd m1 (hd a z2 x n1)
   ·exact e.sep x y a m1 m2
theorem Ev.setV (e:Ev K R W B H σ ρ) (i:Nat) {v:V} {d:D} (r:Rep K B v d):Ev K R W B H (σ.set i (some v)) (ρ.set i (.val d)) :=
 e.set i ⟨v,rfl,r⟩ fun _ _ z=>by rcases z with z | ⟨_,z⟩ <;> cases z
theorem Ev.setO (e:Ev K R W B H σ ρ) (i:Nat) {a:Addr} {vs:List V} {ds:List D} (hr:R a=none) (hb:B a=none) (hh:H a=some (.lst vs)) (r:Reps K B vs ds) (hm:∀ j,j≠i→¬ MutAt σ ρ j a):Ev K R W B H (σ.set i (some (.ref a))) (ρ.set i (.own ds)) :=
 e.set i ⟨a,rfl,hr,hb,vs,hh,r⟩ fun b z _=>by cases z; exact hm
theorem Ev.writeC (e:Ev K R W B H σ ρ) {i:Nat} {a:Addr} {c c':Cn} {o:HO} (h:σ[i]?=some (some (.ref a))) (ho:ρ[i]?=some (.own c)) (r:CnOk K B (upd H a o) a c'):Ev K R W B (upd H a o) σ (ρ.set i (.own c')):=by
 obtain ⟨a',e1,e2,e3,e4⟩:=e.ownC ho
 rw [h] at e1; cases e1
 have nw:¬ W a:=fun z=>e.wr a z e2
 have me:MutAt σ ρ i a:=.inl ⟨h,.inr ⟨c,ho⟩⟩
 refine ⟨⟨fun b u q z=>?_,fun b u q=>?_,e.wb,fun b z=>?_,e.wr⟩,by rw [List.length_set]; exact e.len,fun j k q=>?_,fun x y b hx hy=>?_⟩
 ·rw [upd_ne (by rintro rfl; rw [e2] at q; cases q)]; exact e.fr b u q z
 ·rw [upd_ne (by rintro rfl; rw [e3] at q; cases q)]; exact e.bh b u q
 ·exact (e.wh b z).upd (by rintro rfl; exact nw z)
 ·rcases getElem?_set_some q with ⟨rfl,rfl⟩ | ⟨n,q⟩
  ·exact ⟨a,by rw [h]; rfl,e2,e3,r⟩
  ·have z:=e.ok j k q
   cases k with
   | no=>trivial
   | new d=>exact z
   | pin v d=>exact z
   | val d=>exact z
   | own es =>
    obtain ⟨b,z1,z2,z3,z4⟩:=z
    exact ⟨b,z1,z2,z3,z4.mono (Same.refl _) (upd_ne (by rintro rfl; exact n (e.sep j i b (.inl ⟨join_some z1,.inr ⟨es,q⟩⟩) me)))⟩
   | deep d =>
    exact ⟨z.1,z.2.fr,z.2.nd,z.2.ok.mono (Same.refl _) fun b mb=>upd_ne (by rintro rfl; exact n (e.sep j i b (.inr ⟨d,q,mb⟩) me))⟩
   | bag =>
    obtain ⟨b,z1,z2,z3,z4⟩:=z
    exact ⟨b,z1,z2,z3,z4.upd (by rintro rfl; exact n (e.sep j i b (.inl ⟨join_some z1,.inl q⟩) me))⟩
 ·have back:∀ x,MutAt σ (ρ.set i (.own c')) x b→MutAt σ ρ x b:=fun x m=>by
   rcases m with ⟨m1,m2⟩ | ⟨d,m1,m2⟩
   ·by_cases z:x=i
    ·subst z; exact .inl ⟨m1,.inr ⟨c,ho⟩⟩
    ·refine .inl ⟨m1,?_⟩
     rw [List.getElem?_set_ne (fun w=>z w.symm)] at m2
     exact m2
   ·rcases getElem?_set_some m1 with ⟨_,z⟩ | ⟨_,m1⟩
    ·cases z
    ·exact .inr ⟨d,m1,m2⟩
  exact e.sep x y b (back x hx) (back y hy)
theorem Ev.write (e:Ev K R W B H σ ρ) {i:Nat} {a:Addr} {ds ds':List D} {vs:List V} (h:σ[i]?=some (some (.ref a))) (ho:ρ[i]?=some (.own ds)) (r:Reps K B vs ds'):Ev K R W B (upd H a (.lst vs)) σ (ρ.set i (.own ds')) :=
 e.writeC h ho ⟨vs,upd_same,r⟩
theorem Ev.fz (e:Ev K R W B H σ ρ) {i:Nat} {ds:List D} (ho:ρ[i]?=some (.own ds)):∃ B',Ev K R W B' H σ (ρ.set i (.val (.lst ds)))∧Grow R B B':=by
 obtain ⟨a,vs,e1,e2,e3,e4,e5⟩:=e.ownAt ho
 have me:MutAt σ ρ i a:=.inl ⟨e1,.inr ⟨ds,ho⟩⟩
 have f:=(e.setV (d:=.non) i (v:=.non) .non)
 have f2:=f.freeze e4 e2 e3 (fun j m=>by
  obtain ⟨n,m⟩:=mut_setV m (by simp) (by simp) rfl
  exact n (e.sep j i a m me))
 refine ⟨_,?_,f2.2⟩
 have g:=f2.1.setV i (v:=.ref a) (d:=.lst ds) (.lst upd_same (e5.mono f2.2.s))
 rw [List.set_set,List.set_set] at g
 have q:σ.set i (some (.ref a))=σ:=by
  apply List.ext_getElem?
  intro j
  by_cases z:i=j
  ·subst z
   have lt:i < σ.length:=by
    by_cases z:i < σ.length
    ·exact z
    ·rw [List.getElem?_eq_none (by lia)] at e1; cases e1
   rw [List.getElem?_set_self lt,e1]
  ·rw [List.getElem?_set_ne z]
 rw [q] at g
 exact g
end
end L3
namespace L3
open PySem L2
open PySem.Builtin.Int (intBits)
abbrev UE:=List Sl→(D→Prop)→Prop
abbrev UL:=List Sl→(List D→Prop)→Prop
abbrev UT:=List Sl→(Bool→Prop)→Prop
inductive Arg where
 | val (d:D) | bag (i:Nat)
abbrev UA:=List Sl→(List Arg→Prop)→Prop
structure UEnds where
 nx:List Sl→Prop
 rt:Sl→Prop
 bk:List Sl→Prop:=fun _=>False
 ct:List Sl→Prop:=fun _=>False
abbrev US:=UEnds→List Sl→Prop
abbrev UG:=D→List Sl→(List Sl→Prop)→Prop
abbrev UGs:=List D→List Sl→(List Sl→Prop)→Prop
section
variable (K:PySem.W.Frag)
def RefE (t:TE) (u:UE):Prop:=∀ (ρ:List Sl) (k:D→Prop),u ρ k→∀ (R:Hp) (W:Addr→Prop) (B H:Hp) (σ:St) (Q:VK),Ev K R W B H σ ρ →
 (∀ d v B' H',k d→Ev K R W B' H' σ ρ→Grow R B B'→Rep K B' v d→Q v H')→t σ H Q
def RefO (t:TE) (u:UL):Prop:=∀ (ρ:List Sl) (k:List D→Prop),u ρ k→∀ (R:Hp) (W:Addr→Prop) (B H:Hp) (σ:St) (Q:VK),Ev K R W B H σ ρ →
 (∀ ds a vs B' H',k ds→Ev K R W B' H' σ ρ→Grow R B B'→R a=none→B' a=none→H' a=some (.lst vs)→Reps K B' vs ds→(∀ i,¬ MutAt σ ρ i a)→Q (.ref a) H')→t σ H Q
def RefT (t:TT) (u:UT):Prop:=∀ (ρ:List Sl) (k:Bool→Prop),u ρ k→∀ (R:Hp) (W:Addr→Prop) (B H:Hp) (σ:St) (Q:Bool→Hp→Prop),Ev K R W B H σ ρ →
 (∀ b B' H',k b→Ev K R W B' H' σ ρ→Grow R B B'→Q b H')→t σ H Q
def RefL (t:TA) (u:UL):Prop:=∀ (ρ:List Sl) (k:List D→Prop),u ρ k→∀ (R:Hp) (W:Addr→Prop) (B H:Hp) (σ:St) (Q:List V→Hp→Prop),Ev K R W B H σ ρ →
 (∀ ds vs B' H',k ds→Ev K R W B' H' σ ρ→Grow R B B'→Reps K B' vs ds→Q vs H')→t σ H Q
inductive ArgsOk (B:Hp) (σ:St) (ρ:List Sl):List V→List Arg→Prop where
 | nil:ArgsOk B σ ρ [] []
 | val {v:V} {d:D} {vs:List V} {as:List Arg} (h:Rep K B v d) (r:ArgsOk B σ ρ vs as):ArgsOk B σ ρ (v :: vs) (.val d :: as)
 | bag {v:V} {i:Nat} {vs:List V} {as:List Arg} (h:σ[i]?=some (some v)) (hb:ρ[i]?=some .bag) (r:ArgsOk B σ ρ vs as):ArgsOk B σ ρ (v :: vs) (.bag i :: as)
def RefA (t:TA) (u:UA):Prop:=∀ (ρ:List Sl) (k:List Arg→Prop),u ρ k→∀ (R:Hp) (W:Addr→Prop) (B H:Hp) (σ:St) (Q:List V→Hp→Prop),Ev K R W B H σ ρ →
 (∀ as vs B' H',k as→Ev K R W B' H' σ ρ→Grow R B B'→ArgsOk K B' σ ρ vs as→Q vs H')→t σ H Q
def rsB (R B:Hp):Dp→Hp
 | .dl _ _ _ _ _=>newL R B
 | _=>B
def ResOk (R:Hp) (B H:Hp) (v:V):Sl→Prop
 | .no=>False
 | .val d=>Rep K B v d
 | .own c=>∃ a,v=.ref a∧R a=none∧B a=none∧CnOk K B H a c
 | .bag=>∃ b,v=.ref b∧R b=none∧B b=none∧Bag H b
 | .new d=>Rep K (newL R B) v d
 | .pin _ _=>False
 | .deep c=>v=.ref c.adr∧H c.adr=some (.tup (c.ins.map V.ref))∧InOk K (rsB R B c) H c.ins c.dss∧(∀ a∈c.ins,R a=none∧B a=none)∧c.ins.Nodup
structure Sim (R:Hp) (W:Addr→Prop) (B:Hp) (U:UEnds) (D:Ends):Prop where
 nx:∀ ρ σ B' H',U.nx ρ→Ev K R W B' H' σ ρ→Grow R B B'→D.nx σ H'
 bk:∀ ρ σ B' H',U.bk ρ→Ev K R W B' H' σ ρ→Grow R B B'→D.bk σ H'
 ct:∀ ρ σ B' H',U.ct ρ→Ev K R W B' H' σ ρ→Grow R B B'→D.ct σ H'
 rt:∀ r v B' H',U.rt r→Wd R W B' H'→Grow R B B'→ResOk K R B' H' v r→D.rt v H'
def RefS (t:TS) (u:US):Prop:=∀ (U:UEnds) (ρ:List Sl),u U ρ→∀ (R:Hp) (W:Addr→Prop) (B H:Hp) (σ:St) (D:Ends),Ev K R W B H σ ρ→Sim K R W B U D→t D σ H
def RefG (g:TG) (u:UG):Prop:=∀ (d:D) (ρ:List Sl) (k:List Sl→Prop),u d ρ k→∀ (R:Hp) (W:Addr→Prop) (B H:Hp) (σ:St) (v:V) (Q:St→Hp→Prop),Ev K R W B H σ ρ→Rep K B v d →
 (∀ ρ' σ',k ρ'→Ev K R W B H σ' ρ'→(∀ j a,MutAt σ' ρ' j a→MutAt σ ρ j a)→Q σ' H)→g v σ H Q
def RefGs (g:TGs) (u:UGs):Prop:=∀ (ds:List D) (ρ:List Sl) (k:List Sl→Prop),u ds ρ k→∀ (R:Hp) (W:Addr→Prop) (B H:Hp) (σ:St) (vs:List V) (Q:St→Hp→Prop),Ev K R W B H σ ρ→Reps K B vs ds →
 (∀ ρ' σ',k ρ'→Ev K R W B H σ' ρ'→(∀ j a,MutAt σ' ρ' j a→MutAt σ ρ j a)→Q σ' H)→g vs σ H Q
def ItOk (B:Hp) (J:It) (ds:List D):Prop:=∀ (H:Hp),Same B H→∀ i,(i < ds.length→J.go i H)∧(ds.length≤i→J.stop i H)∧∀ x H',i < ds.length→J.yld i H x H'→H'=H∧∃ d,ds[i]?=some d∧Rep K B x d
def RefI (t:TI) (u:UL):Prop:=∀ (ρ:List Sl) (k:List D→Prop),u ρ k→∀ (R:Hp) (W:Addr→Prop) (B H:Hp) (σ:St) (Q:It→Hp→Prop),Ev K R W B H σ ρ →
 (∀ ds J B' H',k ds→Ev K R W B' H' σ ρ→Grow R B B'→ItOk K B' J ds→Q J H')→t σ H Q
end
theorem Sim.grow {K:PySem.W.Frag} {R:Hp} {W:Addr→Prop} {B B':Hp} {U:UEnds} {D:Ends} (s:Sim K R W B U D) (g:Grow R B B'):Sim K R W B' U D :=
 ⟨fun ρ σ C H h e q=>s.nx ρ σ C H h e (g.trans q),fun ρ σ C H h e q=>s.bk ρ σ C H h e (g.trans q),fun ρ σ C H h e q=>s.ct ρ σ C H h e (g.trans q),fun r v C H h e q z=>s.rt r v C H h e (g.trans q) z⟩
section
variable (X:Cx)
def PE3 (e:Expr) (u:UE):Prop:=∃ t,PE X e t∧RefE X.K t u
def PO3 (e:Expr) (u:UL):Prop:=∃ t,PE X e t∧RefO X.K t u
def PT3 (e:Expr) (u:UT):Prop:=∃ t,PT X e t∧RefT X.K t u
def PW3 (e:Expr) (u:UT):Prop:=∃ t,PW X e t∧RefT X.K t u
def PL3 (es:List Expr) (u:UL):Prop:=∃ t,PA X es t∧RefL X.K t u
def PA3 (es:List Expr) (u:UA):Prop:=∃ t,PA X es t∧RefA X.K t u
def PS3 (s:Stmt) (u:US):Prop:=∃ t,PS X s t∧RefS X.K t u
def PSs3 (s:List Stmt) (u:US):Prop:=∃ t,PSs X s t∧RefS X.K t u
def PG3 (e:Expr) (u:UG):Prop:=∃ t,PG X e t∧RefG X.K t u
def PGs3 (e:List Expr) (u:UGs):Prop:=∃ t,PGs X e t∧RefGs X.K t u
def PI3 (tg e:Expr) (u:UL):Prop:=∃ t,PI X tg e t∧RefI X.K t u
end
def uVar (i:Nat):UE:=fun ρ k=>∃ d,ρ[i]?=some (.val d)∧k d
def uC (d:D):UE:=fun _ k=>k d
def uI (C:Int→Int→Prop) (g:Int→Int→D) (ua ub:UE):UE:=fun ρ k=>ua ρ fun x=>ub ρ fun y=>∃ i j,x=.int i∧y=.int j∧C i j∧k (g i j)
def uI0 (g:Int→Int→D) (ua ub:UE):UE:=fun ρ k=>ua ρ fun x=>ub ρ fun y=>∃ i j,x=.int i∧y=.int j∧k (g i j)
def uNeg (ua:UE):UE:=fun ρ k=>ua ρ fun x=>∃ i,x=.int i∧k (.int (-i))
section
variable {K:PySem.W.Frag} {X:Cx}
theorem refVar (i:Nat):RefE K (tVar i) (uVar i):=by
 intro ρ k h R W B H σ Q e q
 obtain ⟨d,h,z⟩:=h
 obtain ⟨v,e1,r⟩:=e.val h
 exact ⟨v,e1,q d v B H z e (Grow.refl _ _) r⟩
theorem refC {v:V} {d:D} (h:∀ B,Rep K B v d):RefE K (tC v) (uC d):=fun ρ k z R W B H σ Q e q=>q d v B H z e (Grow.refl _ _) (h B)
theorem ref2 {ta tb:TE} {ua ub:UE} {r:R2} {f:D→D→(D→Prop)→Prop} (ha:RefE K ta ua) (hb:RefE K tb ub)
  (hr:∀ (x y:D) (k:D→Prop),f x y k→∀ (R:Hp) (W:Addr→Prop) (B H:Hp) (σ:St) (ρ:List Sl) (v w:V) (Q:VK),Ev K R W B H σ ρ→Rep K B v x→Rep K B w y→(∀ d v B' H',k d→Ev K R W B' H' σ ρ→Grow R B B'→Rep K B' v d→Q v H')→r v w H Q) :
  RefE K (tOp r ta tb) (fun ρ k=>ua ρ fun x=>ub ρ fun y=>f x y k):=by
 intro ρ k h R W B H σ Q e q
 refine ha ρ _ h R W B H σ _ e fun x v B1 H1 h1 e1 g1 r1=>?_
 refine hb ρ _ h1 R W B1 H1 σ _ e1 fun y w B2 H2 h2 e2 g2 r2=>?_
 exact hr x y k h2 R W B2 H2 σ ρ v w Q e2 (r1.mono g2.s) r2 fun d u B3 H3 h3 e3 g3 r3=>q d u B3 H3 h3 e3 ((g1.trans g2).trans g3) r3
theorem ref1 {ta:TE} {ua:UE} {r:V→Hp→VK→Prop} {f:D→(D→Prop)→Prop} (ha:RefE K ta ua)
  (hr:∀ (x:D) (k:D→Prop),f x k→∀ (R:Hp) (W:Addr→Prop) (B H:Hp) (σ:St) (ρ:List Sl) (v:V) (Q:VK),Ev K R W B H σ ρ→Rep K B v x→(∀ d v B' H',k d→Ev K R W B' H' σ ρ→Grow R B B'→Rep K B' v d→Q v H')→r v H Q) :
  RefE K (tUn r ta) (fun ρ k=>ua ρ fun x=>f x k):=by
 intro ρ k h R W B H σ Q e q
 refine ha ρ _ h R W B H σ _ e fun x v B1 H1 h1 e1 g1 r1=>?_
 exact hr x k h1 R W B1 H1 σ ρ v Q e1 r1 fun d u B3 H3 h3 e3 g3 r3=>q d u B3 H3 h3 e3 (g1.trans g3) r3
theorem Rep.intV {B:Hp} {v:V} {i:Int} (r:Rep K B v (.int i)):v=.int i:=by cases r; rfl
theorem Rep.blV {B:Hp} {v:V} {b:Bool} (r:Rep K B v (.bl b)):v=.bl b:=by cases r; rfl
theorem Rep.nonV {B:Hp} {v:V} (r:Rep K B v .non):v=.non:=by cases r; rfl
theorem Rep.tupV {B:Hp} {v:V} {ds:List D} (r:Rep K B v (.tup ds)):∃ a vs,v=.ref a∧B a=some (.tup vs)∧Reps K B vs ds:=by
 cases r with | tup h r=>exact ⟨_,_,rfl,h,r⟩
theorem Rep.lstV {B:Hp} {v:V} {ds:List D} (r:Rep K B v (.lst ds)):∃ a vs,v=.ref a∧B a=some (.lst vs)∧Reps K B vs ds:=by
 cases r with | lst h r=>exact ⟨_,_,rfl,h,r⟩
theorem Rep.scrV {B:Hp} {v:V} {ns:List Int} (r:Rep K B v (.scr ns)):∃ a,v=.ref a∧SqL K B a (ns.map V.int):=by
 cases r with | scr h=>exact ⟨_,rfl,h⟩
theorem refI {C:Int→Int→Prop} {f:Int→Int→V} {g:Int→Int→D} {ta tb:TE} {ua ub:UE} (hg:∀ B i j,Rep K B (f i j) (g i j)) (ha:RefE K ta ua) (hb:RefE K tb ub):RefE K (tOp (rI C f) ta tb) (uI C g ua ub) :=
 ref2 ha hb fun x y k h R W B H σ ρ v w Q e rx ry q=>by
  obtain ⟨i,j,rfl,rfl,hc,hk⟩:=h
  exact ⟨i,j,rx.intV,ry.intV,hc,q _ _ B H hk e (Grow.refl _ _) (hg B i j)⟩
theorem refI0 {f:Int→Int→V} {g:Int→Int→D} {ta tb:TE} {ua ub:UE} (hg:∀ B i j,Rep K B (f i j) (g i j)) (ha:RefE K ta ua) (hb:RefE K tb ub):RefE K (tOp (rI0 f) ta tb) (uI0 g ua ub) :=
 ref2 ha hb fun x y k h R W B H σ ρ v w Q e rx ry q=>by
  obtain ⟨i,j,rfl,rfl,hk⟩:=h
  exact ⟨i,j,rx.intV,ry.intV,q _ _ B H hk e (Grow.refl _ _) (hg B i j)⟩
theorem refNeg {ta:TE} {ua:UE} (ha:RefE K ta ua):RefE K (tUn (rU fun i=>.int (-i)) ta) (uNeg ua) :=
 ref1 (f:=fun x k=>∃ i,x=.int i∧k (.int (-i))) ha fun x k h R W B H σ ρ v Q e rx q=>by
  obtain ⟨i,rfl,hk⟩:=h
  exact ⟨i,rx.intV,q _ _ B H hk e (Grow.refl _ _) (.int _)⟩
variable {a b:Expr} {ua ub:UE} {pos:Pos}
theorem v3 (i:Nat) {x:Str} {pos:Pos} (hN:X.N[i]?=some x:=by rfl) (hv:Vis X.env.scope x:=by first | exact Or.inl rfl | exact Or.inr (Or.inl rfl) | exact Or.inr (Or.inr rfl)) (hd:(x == ("__debug__" : Str))=false:=by decide)
  (hcd:(x == ("__classdict__" : Str))=false:=by decide):PE3 X (.Name x pos) (uVar i):=⟨_,pe_var hN hv hd hcd,refVar i⟩
theorem e_int {i j pos}:PE3 X (.Constant (.int i) j pos) (uC (.int i)):=⟨_,pe_int,refC fun _=>.int _⟩
theorem e_bl {b j pos}:PE3 X (.Constant (.bool b) j pos) (uC (.bl b)):=⟨_,pe_bl,refC fun _=>.bl _⟩
theorem e_add (ha:PE3 X a ua) (hb:PE3 X b ub):PE3 X (.BinOp a .Add b pos) (uI0 (fun i j=>.int (i + j)) ua ub):=by
 obtain ⟨_,h1,r1⟩:=ha; obtain ⟨_,h2,r2⟩:=hb
 exact ⟨_,pe_op op_add h1 h2,refI0 (fun _ _ _=>.int _) r1 r2⟩
theorem e_sub (ha:PE3 X a ua) (hb:PE3 X b ub):PE3 X (.BinOp a .Sub b pos) (uI0 (fun i j=>.int (i - j)) ua ub):=by
 obtain ⟨_,h1,r1⟩:=ha; obtain ⟨_,h2,r2⟩:=hb
 exact ⟨_,pe_op op_sub h1 h2,refI0 (fun _ _ _=>.int _) r1 r2⟩
theorem e_mul (ha:PE3 X a ua) (hb:PE3 X b ub):PE3 X (.BinOp a .Mult b pos) (uI CMulB (fun i j=>.int (i * j)) ua ub):=by
 obtain ⟨_,h1,r1⟩:=ha; obtain ⟨_,h2,r2⟩:=hb
 exact ⟨_,pe_op op_mulB h1 h2,refI (fun _ _ _=>.int _) r1 r2⟩
theorem e_fdiv (ha:PE3 X a ua) (hb:PE3 X b ub):PE3 X (.BinOp a .FloorDiv b pos) (uI CDivB (fun i j=>.int (i.fdiv j)) ua ub):=by
 obtain ⟨_,h1,r1⟩:=ha; obtain ⟨_,h2,r2⟩:=hb
 exact ⟨_,pe_op op_fdivB h1 h2,refI (fun _ _ _=>.int _) r1 r2⟩
theorem e_mod (ha:PE3 X a ua) (hb:PE3 X b ub):PE3 X (.BinOp a .Mod b pos) (uI (fun _ j=>0 < j) (fun i j=>.int (i % j)) ua ub):=by
 obtain ⟨_,h1,r1⟩:=ha; obtain ⟨_,h2,r2⟩:=hb
 exact ⟨_,pe_op op_mod h1 h2,refI (fun _ _ _=>.int _) r1 r2⟩
theorem e_pow (ha:PE3 X a ua) (hb:PE3 X b ub):PE3 X (.BinOp a .Pow b pos) (uI CPow (fun i j=>.int (i ^ j.toNat)) ua ub):=by
 obtain ⟨_,h1,r1⟩:=ha; obtain ⟨_,h2,r2⟩:=hb
 exact ⟨_,pe_op op_pow h1 h2,refI (fun _ _ _=>.int _) r1 r2⟩
theorem e_neg (ha:PE3 X a ua):PE3 X (.UnaryOp .USub a pos) (uNeg ua):=by
 obtain ⟨_,h1,r1⟩:=ha
 exact ⟨_,pe_un un_neg h1,refNeg r1⟩
def Cm (op:CmpOp) (f:Int→Int→Bool) (X:Cx):Prop:=OpR X (compareOp op) (rI0 fun i j=>.bl (f i j))
theorem e_cmp {op:CmpOp} {f:Int→Int→Bool} (ho:Cm op f X) (ha:PE3 X a ua) (hb:PE3 X b ub) (hm:behindInMarks op b=false):PE3 X (.Compare a [op] [b] pos) (uI0 (fun i j=>.bl (f i j)) ua ub):=by
 obtain ⟨_,h1,r1⟩:=ha; obtain ⟨_,h2,r2⟩:=hb
 exact ⟨_,pe_cmpR ho h1 h2 hm,refI0 (fun _ _ _=>.bl _) r1 r2⟩
def uB (ua:UE):UT:=fun ρ k=>ua ρ fun x=>∃ c,x=.bl c∧k c
def uNotT (u:UT):UT:=fun ρ k=>u ρ fun c=>k (!c)
def uAndT (u w:UT):UT:=fun ρ k=>u ρ fun c=>if c=true then w ρ k else k false
def uOrT (u w:UT):UT:=fun ρ k=>u ρ fun c=>if c=true then k true else w ρ k
theorem refB {ta:TE} {ua:UE} (ha:RefE K ta ua):RefT K (tB ta) (uB ua):=by
 intro ρ k h R W B H σ Q e q
 refine ha ρ _ h R W B H σ _ e fun x v B1 H1 h1 e1 g1 r1=>?_
 obtain ⟨c,rfl,hk⟩:=h1
 exact ⟨c,r1.blV,q c B1 H1 hk e1 g1⟩
theorem t_val {e:Expr} {u:UE} (h:PE3 X e u) (he:∀ whole,isTrue e X.env whole=(do let v ← whole; standAt e.pos; holding [v] (truthy v)):=by intro _; rfl):PT3 X e (uB u):=by
 obtain ⟨_,h1,r1⟩:=h
 exact ⟨_,pt_val h1 he,refB r1⟩
theorem t_cmp {op:CmpOp} {f:Int→Int→Bool} (ho:Cm op f X) (ha:PE3 X a ua) (hb:PE3 X b ub) (hm:behindInMarks op b=false):PT3 X (.Compare a [op] [b] pos) (uB (uI0 (fun i j=>.bl (f i j)) ua ub)):=by
 obtain ⟨_,h1,r1⟩:=ha; obtain ⟨_,h2,r2⟩:=hb
 exact ⟨_,pt_cmpR ho h1 h2 hm,refB (refI0 (fun _ _ _=>.bl _) r1 r2)⟩
theorem refNotT {t:TT} {u:UT} (h:RefT K t u):RefT K (tNot t) (uNotT u):=fun ρ k z R W B H σ Q e q=>h ρ _ z R W B H σ _ e fun b B' H' h1 e1 g1=>q (!b) B' H' h1 e1 g1
theorem refAndT {t t':TT} {u u':UT} (h:RefT K t u) (h':RefT K t' u'):RefT K (tAnd t t') (uAndT u u'):=by
 intro ρ k z R W B H σ Q e q
 refine h ρ _ z R W B H σ _ e fun b B1 H1 h1 e1 g1=>?_
 cases b with
 | true =>
  rw [if_pos rfl] at h1 ⊢
  exact h' ρ _ h1 R W B1 H1 σ _ e1 fun c B2 H2 h2 e2 g2=>q c B2 H2 h2 e2 (g1.trans g2)
 | false =>
  rw [if_neg Bool.false_ne_true] at h1 ⊢
  exact q false B1 H1 h1 e1 g1
theorem refOrT {t t':TT} {u u':UT} (h:RefT K t u) (h':RefT K t' u'):RefT K (tOr t t') (uOrT u u'):=by
 intro ρ k z R W B H σ Q e q
 refine h ρ _ z R W B H σ _ e fun b B1 H1 h1 e1 g1=>?_
 cases b with
 | false =>
  rw [if_neg Bool.false_ne_true] at h1 ⊢
  exact h' ρ _ h1 R W B1 H1 σ _ e1 fun c B2 H2 h2 e2 g2=>q c B2 H2 h2 e2 (g1.trans g2)
 | true =>
  rw [if_pos rfl] at h1 ⊢
  exact q true B1 H1 h1 e1 g1
theorem t_not {u:UT} (h:PT3 X a u):PT3 X (.UnaryOp .Not a pos) (uNotT u):=by
 obtain ⟨_,h1,r1⟩:=h
 exact ⟨_,pt_not h1,refNotT r1⟩
theorem w_and1 {u:UT} (h:PT3 X a u):PW3 X (.BoolOp .And [a] pos) u:=by
 obtain ⟨_,h1,r1⟩:=h
 exact ⟨_,pw_and1 h1,r1⟩
theorem w_or1 {u:UT} (h:PT3 X a u):PW3 X (.BoolOp .Or [a] pos) u:=by
 obtain ⟨_,h1,r1⟩:=h
 exact ⟨_,pw_or1 h1,r1⟩
theorem w_and {rest:List Expr} {u u':UT} (h:PT3 X a u) (h':PW3 X (.BoolOp .And (b :: rest) pos) u'):PW3 X (.BoolOp .And (a :: b :: rest) pos) (uAndT u u'):=by
 obtain ⟨_,h1,r1⟩:=h; obtain ⟨_,h2,r2⟩:=h'
 exact ⟨_,pw_and h1 h2,refAndT r1 r2⟩
theorem w_or {rest:List Expr} {u u':UT} (h:PT3 X a u) (h':PW3 X (.BoolOp .Or (b :: rest) pos) u'):PW3 X (.BoolOp .Or (a :: b :: rest) pos) (uOrT u u'):=by
 obtain ⟨_,h1,r1⟩:=h; obtain ⟨_,h2,r2⟩:=h'
 exact ⟨_,pw_or h1 h2,refOrT r1 r2⟩
theorem w_t {u:UT} (h:PW3 X a u):PT3 X a u:=by
 obtain ⟨_,h1,r1⟩:=h
 exact ⟨_,h1.pt,r1⟩
def uAndV (u w:UE):UE:=fun ρ k=>u ρ fun x=>∃ c,x=.bl c∧if c=true then w ρ k else k (.bl false)
def uOrV (u w:UE):UE:=fun ρ k=>u ρ fun x=>∃ c,x=.bl c∧if c=true then k (.bl true) else w ρ k
def uNotV (u:UE):UE:=fun ρ k=>u ρ fun x=>∃ c,x=.bl c∧k (.bl (!c))
theorem e_one {op:BoolOp} (h:PE3 X a ua):PE3 X (.BoolOp op [a] pos) ua:=by
 obtain ⟨_,h1,r1⟩:=h
 exact ⟨_,pe_one h1,r1⟩
theorem e_and {rest:List Expr} (h:PE3 X a ua) (h':PE3 X (.BoolOp .And (b :: rest) pos) ub):PE3 X (.BoolOp .And (a :: b :: rest) pos) (uAndV ua ub):=by
 obtain ⟨_,h1,r1⟩:=h; obtain ⟨_,h2,r2⟩:=h'
 refine ⟨_,pe_and h1 h2,fun ρ k z R W B H σ Q e q=>?_⟩
 refine r1 ρ _ z R W B H σ _ e fun x v B1 H1 z1 e1 g1 s1=>?_
 obtain ⟨c,rfl,z1⟩:=z1
 refine ⟨c,s1.blV,?_⟩
 cases c with
 | true =>
  rw [if_pos rfl] at z1 ⊢
  exact r2 ρ _ z1 R W B1 H1 σ _ e1 fun d w B2 H2 h2 e2 g2 s2=>q d w B2 H2 h2 e2 (g1.trans g2) s2
 | false =>
  rw [if_neg Bool.false_ne_true] at z1 ⊢
  exact q _ _ B1 H1 z1 e1 g1 (.bl _)
theorem e_or {rest:List Expr} (h:PE3 X a ua) (h':PE3 X (.BoolOp .Or (b :: rest) pos) ub):PE3 X (.BoolOp .Or (a :: b :: rest) pos) (uOrV ua ub):=by
 obtain ⟨_,h1,r1⟩:=h; obtain ⟨_,h2,r2⟩:=h'
 refine ⟨_,pe_or h1 h2,fun ρ k z R W B H σ Q e q=>?_⟩
 refine r1 ρ _ z R W B H σ _ e fun x v B1 H1 z1 e1 g1 s1=>?_
 obtain ⟨c,rfl,z1⟩:=z1
 refine ⟨c,s1.blV,?_⟩
 cases c with
 | false =>
  rw [if_neg Bool.false_ne_true] at z1 ⊢
  exact r2 ρ _ z1 R W B1 H1 σ _ e1 fun d w B2 H2 h2 e2 g2 s2=>q d w B2 H2 h2 e2 (g1.trans g2) s2
 | true =>
  rw [if_pos rfl] at z1 ⊢
  exact q _ _ B1 H1 z1 e1 g1 (.bl _)
theorem e_not (h:PE3 X a ua):PE3 X (.UnaryOp .Not a pos) (uNotV ua):=by
 obtain ⟨_,h1,r1⟩:=h
 refine ⟨_,pe_not h1,fun ρ k z R W B H σ Q e q=>?_⟩
 refine r1 ρ _ z R W B H σ _ e fun x v B1 H1 z1 e1 g1 s1=>?_
 obtain ⟨c,rfl,z1⟩:=z1
 exact ⟨c,s1.blV,q _ _ B1 H1 z1 e1 g1 (.bl _)⟩
def uIfE (c:UT) (u w:UE):UE:=fun ρ k=>c ρ fun b=>if b=true then u ρ k else w ρ k
theorem e_ifE {c:Expr} {uc:UT} (hc:PT3 X c uc) (ha:PE3 X a ua) (hb:PE3 X b ub):PE3 X (.IfExp c a b pos) (uIfE uc ua ub):=by
 obtain ⟨_,h0,r0⟩:=hc; obtain ⟨_,h1,r1⟩:=ha; obtain ⟨_,h2,r2⟩:=hb
 refine ⟨_,pe_ifExp h0 h1 h2,fun ρ k z R W B H σ Q e q=>?_⟩
 refine r0 ρ _ z R W B H σ _ e fun c B1 H1 z1 e1 g1=>?_
 cases c with
 | true =>
  rw [if_pos rfl] at z1 ⊢
  exact r1 ρ _ z1 R W B1 H1 σ _ e1 fun d w B2 H2 h2 e2 g2 s2=>q d w B2 H2 h2 e2 (g1.trans g2) s2
 | false =>
  rw [if_neg Bool.false_ne_true] at z1 ⊢
  exact r2 ρ _ z1 R W B1 H1 σ _ e1 fun d w B2 H2 h2 e2 g2 s2=>q d w B2 H2 h2 e2 (g1.trans g2) s2
def uNil:UL:=fun _ k=>k []
def uCons (u:UE) (w:UL):UL:=fun ρ k=>u ρ fun d=>w ρ fun ds=>k (d :: ds)
variable {e:Expr} {es:List Expr} {u:UE} {w:UL}
theorem refNil:RefL K tNil uNil:=fun ρ k h R W B H σ Q e q=>q [] [] B H h e (Grow.refl _ _) .nil
theorem refCons {te:TE} {t:TA} (h1:RefE K te u) (h2:RefL K t w):RefL K (tCons te t) (uCons u w):=by
 intro ρ k h R W B H σ Q e q
 refine h1 ρ _ h R W B H σ _ e fun d v B1 H1 z1 e1 g1 r1=>?_
 refine h2 ρ _ z1 R W B1 H1 σ _ e1 fun ds vs B2 H2 z2 e2 g2 r2=>?_
 exact q _ _ B2 H2 z2 e2 (g1.trans g2) (.cons (r1.mono g2.s) r2)
theorem l_nil:PL3 X [] uNil:=⟨_,pa_nil,refNil⟩
theorem l_cons (ha:PE3 X e u) (hr:PL3 X es w) (hs:starEach (e :: es) X.env=(false,eval e X.env) :: starEach es X.env:=by rfl):PL3 X (e :: es) (uCons u w):=by
 obtain ⟨_,h1,r1⟩:=ha; obtain ⟨_,h2,r2⟩:=hr
 exact ⟨_,pa_cons h1 h2 hs,refCons r1 r2⟩
def uTup (w:UL):UE:=fun ρ k=>w ρ fun ds=>ds.length≤sizeLine∧k (.tup ds)
theorem e_tup {x1} (h:PL3 X es w):PE3 X (.Tuple es x1 pos) (uTup w):=by
 obtain ⟨_,h1,r1⟩:=h
 refine ⟨_,pe_tup h1,fun ρ k z R W B H σ Q e q=>?_⟩
 refine r1 ρ _ z R W B H σ _ e fun ds vs B1 H1 z1 e1 g1 s1=>?_
 refine ⟨by rw [s1.length]; exact z1.1,fun p hp=>?_⟩
 have g2:=e1.grow hp (.tup vs)
 exact q _ _ _ _ z1.2 (e1.alloc hp _) (g1.trans g2) (.tup upd_same (s1.mono g2.s))
def uLst (w:UL):UL:=fun ρ k=>w ρ fun ds=>ds.length≤sizeLine∧k ds
theorem o_lst (h:PL3 X es w):PO3 X (.List es pos) (uLst w):=by
 obtain ⟨_,h1,r1⟩:=h
 refine ⟨_,pe_lst h1,fun ρ k z R W B H σ Q e q=>?_⟩
 refine r1 ρ _ z R W B H σ _ e fun ds vs B1 H1 z1 e1 g1 s1=>?_
 refine ⟨by rw [s1.length]; exact z1.1,fun p hp=>?_⟩
 obtain ⟨f1,f2,f3⟩:=e1.toWd.fresh hp
 exact q ds p vs B1 _ z1.2 (e1.allocH hp _) g1 f1 f3 upd_same s1 fun i m=>e1.notNew hp m rfl
def uFr (w:UL):UE:=fun ρ k=>w ρ fun ds=>k (.lst ds)
theorem refFr {t:TE} (h:RefO K t w):RefE K t (uFr w):=by
 intro ρ k z R W B H σ Q e q
 refine h ρ _ z R W B H σ _ e fun ds a vs B1 H1 z1 e1 g1 hr hb hh rp hm=>?_
 obtain ⟨e2,g2⟩:=e1.freeze hh hr hb hm
 exact q _ _ _ _ z1 e2 (g1.trans g2) (.lst upd_same (rp.mono g2.s))
theorem o_e (h:PO3 X e w):PE3 X e (uFr w):=by
 obtain ⟨_,h1,r1⟩:=h
 exact ⟨_,h1,refFr r1⟩
def uIx (ua ub:UE):UE:=fun ρ k=>ua ρ fun x=>ub ρ fun y=>∃ ds i d,(x=.tup ds∨x=.lst ds)∧y=.int i∧atI ds i=some d∧k d
theorem atI_reps {B:Hp} {vs:List V} {ds:List D} {i:Int} {d:D} (r:Reps K B vs ds) (h:atI ds i=some d):∃ v,atI vs i=some v∧Rep K B v d:=by
 unfold atI at h ⊢
 rw [r.length]
 cases q:ixN ds.length i with
 | none=>rw [q] at h; cases h
 | some j =>
  rw [q] at h
  exact r.get h
theorem e_ix (ha:PE3 X a ua) (hb:PE3 X b ub) (hs:PlainIx b):PE3 X (.Subscript a b pos) (uIx ua ub):=by
 obtain ⟨_,h1,r1⟩:=ha; obtain ⟨_,h2,r2⟩:=hb
 refine ⟨_,pe_ix ix_any h1 h2 hs,ref2 r1 r2 fun x y k h R W B H σ ρ v w' Q e rx ry q=>?_⟩
 obtain ⟨ds,i,d,hx,rfl,ha,hk⟩:=h
 rcases hx with rfl | rfl
 ·obtain ⟨p,vs,rfl,hp,rp⟩:=rx.tupV
  obtain ⟨z,hz,rz⟩:=atI_reps rp ha
  exact ⟨p,vs,i,z,rfl,ry.intV,.inl (e.bh _ _ hp),hz,q d z B H hk e (Grow.refl _ _) rz⟩
 ·obtain ⟨p,vs,rfl,hp,rp⟩:=rx.lstV
  obtain ⟨z,hz,rz⟩:=atI_reps rp ha
  exact ⟨p,vs,i,z,rfl,ry.intV,.inr (e.bh _ _ hp),hz,q d z B H hk e (Grow.refl _ _) rz⟩
end
end L3
namespace L3
open PySem L2
open PySem.Builtin.Int (intBits)
abbrev FS:=List Sl→(Sl→Prop)→Prop
def bags:List Sl→Nat
 | []=>0
 | .bag :: r=>bags r + 1
 | _ :: r=>bags r
inductive ArgsIn (K:PySem.W.Frag) (W:Addr→Prop) (B:Hp):List V→List Sl→Prop where
 | nil:ArgsIn K W B [] []
 | val {v:V} {d:D} {vs:List V} {as:List Sl} (h:Rep K B v d) (r:ArgsIn K W B vs as):ArgsIn K W B (v :: vs) (.val d :: as)
 | bag {b:Addr} {vs:List V} {as:List Sl} (h:W b) (r:ArgsIn K W B vs as):ArgsIn K W B (.ref b :: vs) (.bag :: as)
structure Exit (K:PySem.W.Frag) (W:Addr→Prop) (B H:Hp) (v:V) (r:Sl) (B' H':Hp):Prop where
 wd:Wd H W B' H'
 g:Grow H B B'
 res:ResOk K H B' H' v r
def Con (K:PySem.W.Frag) (n:Nat) (F:FS):Sp:=fun vs H Q _=>∃ (W:Addr→Prop) (B:Hp) (as:List Sl) (k:Sl→Prop),F as k∧as.length=n∧Nat.ble (bags as) 1=true∧Same B H∧(∀ a,W a→B a=none∧Bag H a)∧ArgsIn K W B vs as ∧
 ∀ r v B' H',k r→Exit K W B H v r B' H'→Q v H'
section
variable {K:PySem.W.Frag} {R:Hp} {W:Addr→Prop} {B B' H H':Hp} {σ:St} {ρ:List Sl}
theorem ArgsIn.length:∀ {vs:List V} {as:List Sl},ArgsIn K W B vs as→vs.length=as.length
 | _,_,.nil=>rfl
 | _,_,.val _ r=>by rw [List.length_cons,List.length_cons,r.length]
 | _,_,.bag _ r=>by rw [List.length_cons,List.length_cons,r.length]
theorem ArgsIn.get:∀ {vs:List V} {as:List Sl},ArgsIn K W B vs as→∀ (i:Nat) (k:Sl),as[i]?=some k→(∃ v d,vs[i]?=some v∧k=.val d∧Rep K B v d)∨(∃ b,vs[i]?=some (.ref b)∧k=.bag∧W b)
 | _,_,.nil,i,k,e=>by simp at e
 | _,_,.val h r,0,k,e=>by simp at e; subst e; exact .inl ⟨_,_,rfl,rfl,h⟩
 | _,_,.val h r,i + 1,k,e=>by simpa using r.get i k (by simpa using e)
 | _,_,.bag h r,0,k,e=>by simp at e; subst e; exact .inr ⟨_,rfl,rfl,h⟩
 | _,_,.bag h r,i + 1,k,e=>by simpa using r.get i k (by simpa using e)
theorem bags_none:∀ {as:List Sl} {i:Nat},bags as=0→as[i]?≠some .bag
 | [],i,_=>by simp
 | .bag :: r,i,h=>by simp [bags] at h
 | .no :: r,0,h=>by simp
 | .no :: r,i + 1,h=>by simpa using bags_none (as:=r) (i:=i) h
 | .val d :: r,0,h=>by simp
 | .val d :: r,i + 1,h=>by simpa using bags_none (as:=r) (i:=i) h
 | .new d :: r,0,h=>by simp
 | .new d :: r,i + 1,h=>by simpa using bags_none (as:=r) (i:=i) h
 | .pin v d :: r,0,h=>by simp
 | .pin v d :: r,i + 1,h=>by simpa using bags_none (as:=r) (i:=i) h
 | .own d :: r,0,h=>by simp
 | .own d :: r,i + 1,h=>by simpa using bags_none (as:=r) (i:=i) h
 | .deep d :: r,0,h=>by simp
 | .deep d :: r,i + 1,h=>by simpa using bags_none (as:=r) (i:=i) h
theorem bags_one:∀ {as:List Sl} {i j:Nat},bags as≤1→as[i]?=some .bag→as[j]?=some .bag→i=j
 | [],i,j,_,e,_=>by simp at e
 | .bag :: r,0,0,_,_,_=>rfl
 | .bag :: r,0,j + 1,h,_,e=>absurd (by simpa using e) (bags_none (as:=r) (i:=j) (by simp [bags] at h; exact h))
 | .bag :: r,i + 1,_,h,e,_=>absurd (by simpa using e) (bags_none (as:=r) (i:=i) (by simp [bags] at h; exact h))
 | .no :: r,0,_,_,e,_=>by simp at e
 | .no :: r,i + 1,0,_,_,e=>by simp at e
 | .no :: r,i + 1,j + 1,h,e,e'=>by rw [bags_one (as:=r) (i:=i) (j:=j) h (by simpa using e) (by simpa using e')]
 | .val d :: r,0,_,_,e,_=>by simp at e
 | .val d :: r,i + 1,0,_,_,e=>by simp at e
 | .val d :: r,i + 1,j + 1,h,e,e'=>by rw [bags_one (as:=r) (i:=i) (j:=j) h (by simpa using e) (by simpa using e')]
 | .new d :: r,0,_,_,e,_=>by simp at e
 | .new d :: r,i + 1,0,_,_,e=>by simp at e
 | .new d :: r,i + 1,j + 1,h,e,e'=>by rw [bags_one (as:=r) (i:=i) (j:=j) h (by simpa using e) (by simpa using e')]
 | .pin v d :: r,0,_,_,e,_=>by simp at e
 | .pin v d :: r,i + 1,0,_,_,e=>by simp at e
 | .pin v d :: r,i + 1,j + 1,h,e,e'=>by rw [bags_one (as:=r) (i:=i) (j:=j) h (by simpa using e) (by simpa using e')]
 | .own d :: r,0,_,_,e,_=>by simp at e
 | .own d :: r,i + 1,0,_,_,e=>by simp at e
 | .own d :: r,i + 1,j + 1,h,e,e'=>by rw [bags_one (as:=r) (i:=i) (j:=j) h (by simpa using e) (by simpa using e')]
 | .deep d :: r,0,_,_,e,_=>by simp at e
 | .deep d :: r,i + 1,0,_,_,e=>by simp at e
 | .deep d :: r,i + 1,j + 1,h,e,e'=>by rw [bags_one (as:=r) (i:=i) (j:=j) h (by simpa using e) (by simpa using e')]
theorem Ev.after {W':Addr→Prop} (e:Ev K R W B H σ ρ) (hW:∀ a,W' a→∃ i:Nat,σ[i]?=some (some (.ref a))∧ρ[i]?=some .bag) (wd:Wd H W' B' H') (g:Grow H B B'):Ev K R W B' H' σ ρ∧Grow R B B':=by
 have nb:∀ a,B a=none→H a≠none→B' a=none:=fun a h1 h2=>by
  cases q:B' a with
  | none=>rfl
  | some o =>
   rcases g.n a o q with z | z
   ·rw [h1] at z; cases z
   ·exact absurd z h2
 have st:∀ a,¬ W' a→H a≠none→H' a=H a:=fun a h1 h2=>by
  cases q:H a with
  | none=>exact absurd q h2
  | some o=>exact wd.fr a o q h1
 have bagS:∀ a,Bag H a→Bag H' a:=fun a h=>by
  by_cases z:W' a
  ·exact wd.wh a z
  ·obtain ⟨x,y,e1,q⟩:=h
   exact ⟨x,y,by rw [st a z (by rw [e1]; simp)]; exact e1,q⟩
 have bagN:∀ a,Bag H a→H a≠none:=fun a ⟨x,y,e1,_⟩=>by rw [e1]; simp
 refine ⟨e.move ⟨fun a o h nw=>?_,wd.bh,fun a h=>nb a (e.wb a h) (bagN a (e.wh a h)),fun a h=>bagS a (e.wh a h),e.wr⟩ g.s (fun i a m=>⟨nb a (e.mutOk m).1 (e.mutOk m).2,fun z=>?_,fun z=>?_⟩),⟨g.s,fun a o h=>?_⟩⟩
 ·have h1:=e.fr a o h nw
  refine wd.fr a o h1 fun z=>?_
  obtain ⟨i,z1,z2⟩:=hW a z
  obtain ⟨b,y1,y2,_⟩:=e.bagAt z2
  rw [z1] at y1; cases y1
  rcases y2 with y2 | y2
  ·exact nw y2
  ·rw [y2] at h; cases h
 ·obtain ⟨b,y1,_,_,y4⟩:=e.bagAt z
  rw [mut_bag m z] at y1; cases y1
  exact bagS _ y4
 ·refine st a (fun q=>?_) (e.mutOk m).2
  obtain ⟨j,z1,z2⟩:=hW a q
  have:=e.sep i j a m (.inl ⟨z1,.inl z2⟩)
  subst this
  exact z z2
 ·rcases g.n a o h with z | z
  ·exact .inl z
  ·exact .inr (e.toWd.fresh z).1
theorem Ev.start {N:List Str} {vs:List V} {as:List Sl} (hb:bags as≤1) (sB:Same B H) (hw:∀ a,W a→B a=none∧Bag H a) (ai:ArgsIn K W B vs as):Ev K H W B H (L2.start N vs) (as ++ List.replicate (N.length - as.length) .no):=by
 have hl:=ai.length
 have wd:Wd H W B H:=⟨fun _ _ h _=>h,sB,fun a h=>(hw a h).1,fun a h=>(hw a h).2,fun a h=>by obtain ⟨x,y,q,_⟩:=(hw a h).2; rw [q]; simp⟩
 have lo:∀ i k,as[i]?=some k→(L2.start N vs)[i]?=(vs[i]?).map some:=fun i k h=>by
  have lt:i < as.length:=by
   by_cases z:i < as.length
   ·exact z
   ·rw [List.getElem?_eq_none (by lia)] at h; cases h
  unfold L2.start
  rw [List.getElem?_append_left (by rw [List.length_map]; lia),List.getElem?_map]
 have cs:∀ (i:Nat) (k:Sl),(as ++ List.replicate (N.length - as.length) Sl.no)[i]?=some k→as[i]?=some k∨k=Sl.no:=fun i k h=>by
  by_cases z:i < as.length
  ·rw [List.getElem?_append_left z] at h; exact .inl h
  ·rw [List.getElem?_append_right (by lia)] at h
   rw [List.getElem?_replicate] at h
   split at h
   ·exact .inr (Option.some.inj h).symm
   ·cases h
 have bg:∀ i:Nat,(as ++ List.replicate (N.length - as.length) Sl.no)[i]?=some Sl.bag→as[i]?=some Sl.bag:=fun i h=>by
  rcases cs i _ h with h | h
  ·exact h
  ·cases h
 refine ⟨wd,by unfold L2.start; simp [hl],fun i k h=>?_,fun i j a m1 m2=>?_⟩
 ·rcases cs i k h with h | rfl
  ·rw [lo i k h]
   rcases ai.get i k h with ⟨v,d,h1,rfl,r⟩ | ⟨b,h1,rfl,r⟩
   ·rw [h1]; exact ⟨v,rfl,r⟩
   ·rw [h1]; exact ⟨b,rfl,.inl r,(hw b r).1,(hw b r).2⟩
  ·trivial
 ·have one:∀ i,MutAt (L2.start N vs) (as ++ List.replicate (N.length - as.length) Sl.no) i a→as[i]?=some .bag:=fun i m=>by
   rcases m with ⟨_,z | ⟨ds,z⟩⟩ | ⟨c,z,_⟩
   ·exact bg i z
   ·rcases cs i _ z with z | z
    ·rcases ai.get i _ z with ⟨v,d,_,q,_⟩ | ⟨b,_,q,_⟩ <;> cases q
    ·cases z
   ·rcases cs i _ z with z | z
    ·rcases ai.get i _ z with ⟨v,d,_,q,_⟩ | ⟨b,_,q,_⟩ <;> cases q
    ·cases z
  exact bags_one hb (one i m1) (one j m2)
theorem def3 {P:Program} {w:World} {mg:Str→Option Value} {base:Heap} {x:Str} {st:Stmt} {N ps:List Str} {lv n:Nat} {F:FS} (Fd:Fnd K mg x st ps) (S:FnScope N ps (defScope st)) (hn:ps.length=n)
  (hbody:∀ (f:Addr) (cdv:Value) (A:Around) (outer:List PySem.Env) (s:Shared) (H:Hp) (E:XK),Room lv (A.deeper (PyProof.Rows.envOfC x (defScope st) s.heap.objs.size f cdv)) →
   ∃ u,PSs3 (cxOf CX0 P w K mg base N x (defScope st) f cdv A outer s H E).nox (defBody st) u∧∀ as k,as.length=n→F as k→u { nx:=fun _=>k (.val .non),rt:=k } (as ++ List.replicate (N.length - n) .no)):Cal P w K mg base x ps (lv + 1) (Con K n F):=by
 refine Fd.ok S (fun vs H Q E h=>?_) (fun f cdv A outer s H vs Q E hr h=>?_)
 ·obtain ⟨W,B,as,k,_,hl,_,_,_,ai,_⟩:=h
  rw [ai.length,hl,hn]
 ·obtain ⟨W,B,as,k,hF,hl,hb,sB,hw,ai,q⟩:=h
  obtain ⟨u,⟨t,ht,rt⟩,hu⟩:=hbody f cdv A outer s H E hr
  have ev:=Ev.start (N:=N) (Nat.le_of_ble_eq_true hb) sB hw ai
  rw [hl] at ev
  refine ⟨t,ht,rt _ _ (hu as k hl hF) H W B H (L2.start N vs) _ ev ⟨fun ρ σ B' H' h e g=>?_,fun _ _ _ _ h=>h.elim,fun _ _ _ _ h=>h.elim,fun r v B' H' h e g z=>q r v B' H' h ⟨e,g,z⟩⟩⟩
  exact q _ _ B' H' h ⟨e.toWd,g,.non⟩
end
def Arg.sl:Arg→Sl
 | .val d=>.val d
 | .bag _=>.bag
@[reducible] def fzR:Sl→(D→Prop)→Prop
 | .val d,k=>k d
 | .own (.l ds),k=>k (.lst ds)
 | .new d,k=>k d
 | _,_=>False
def uaNil:UA:=fun _ k=>k []
def uaV (u:UE) (w:UA):UA:=fun ρ k=>u ρ fun d=>w ρ fun as=>k (.val d :: as)
def uaB (i:Nat) (w:UA):UA:=fun ρ k=>ρ[i]?=some .bag∧w ρ fun as=>k (.bag i :: as)
def sh (as:List Arg) (n:Nat):Bool:=Nat.beq as.length n && Nat.ble (bags (as.map Arg.sl)) 1
def uCall (n:Nat) (F:FS) (w:UA):UE:=fun ρ k=>w ρ fun as=>sh as n=true∧F (as.map Arg.sl) fun r=>fzR r k
def uCallO (n:Nat) (F:FS) (w:UA):UL:=fun ρ k=>w ρ fun as=>sh as n=true∧F (as.map Arg.sl) fun r=>∃ ds:List D,r=.own ds∧k ds
section
variable {K:PySem.W.Frag} {X:Cx} {e:Expr} {es:List Expr} {u:UE} {w:UA} {pos p:Pos} {n:Nat} {F:FS}
theorem a_nil:PA3 X [] uaNil:=⟨_,pa_nil,fun ρ k h R W B H σ Q e q=>q [] [] B H h e (Grow.refl _ _) .nil⟩
theorem a_val (ha:PE3 X e u) (hr:PA3 X es w) (hs:starEach (e :: es) X.env=(false,eval e X.env) :: starEach es X.env:=by rfl):PA3 X (e :: es) (uaV u w):=by
 obtain ⟨_,h1,r1⟩:=ha; obtain ⟨_,h2,r2⟩:=hr
 refine ⟨_,pa_cons h1 h2 hs,fun ρ k h R W B H σ Q e q=>?_⟩
 refine r1 ρ _ h R W B H σ _ e fun d v B1 H1 z1 e1 g1 s1=>?_
 refine r2 ρ _ z1 R W B1 H1 σ _ e1 fun as vs B2 H2 z2 e2 g2 s2=>?_
 exact q _ _ B2 H2 z2 e2 (g1.trans g2) (.val (s1.mono g2.s) s2)
theorem a_bag (i:Nat) {x:Str} {px:Pos} (hr:PA3 X es w) (hN:X.N[i]?=some x:=by rfl) (hv:Vis X.env.scope x:=by first | exact Or.inl rfl | exact Or.inr (Or.inl rfl) | exact Or.inr (Or.inr rfl)) (hd:(x == ("__debug__" : Str))=false:=by decide)
  (hcd:(x == ("__classdict__" : Str))=false:=by decide) (hs:starEach (.Name x px :: es) X.env=(false,eval (.Name x px) X.env) :: starEach es X.env:=by rfl):PA3 X (.Name x px :: es) (uaB i w):=by
 obtain ⟨_,h2,r2⟩:=hr
 refine ⟨_,pa_cons (pe_var hN hv hd hcd) h2 hs,fun ρ k h R W B H σ Q e q=>?_⟩
 obtain ⟨hb,h⟩:=h
 obtain ⟨b,b1,b2⟩:=e.bagAt hb
 refine ⟨_,b1,?_⟩
 refine r2 ρ _ h R W B H σ _ e fun as vs B2 H2 z2 e2 g2 s2=>?_
 exact q _ _ B2 H2 z2 e2 g2 (.bag b1 hb s2)
theorem ArgsOk.toIn {B:Hp} {σ:St} {ρ:List Sl} {W:Addr→Prop} {R H:Hp} {W0:Addr→Prop} (e:Ev K R W0 B H σ ρ):∀ {vs:List V} {as:List Arg},ArgsOk K B σ ρ vs as→(∀ i b,Arg.bag i∈as→σ[i]?=some (some (.ref b))→W b)→ArgsIn K W B vs (as.map Arg.sl)
 | _,_,.nil,_=>.nil
 | _,_,.val h r,hw=>.val h (ArgsOk.toIn e r fun i b m=>hw i b (List.mem_cons_of_mem _ m))
 | _,_,.bag h hb r,hw=>by
  obtain ⟨b,b1,_⟩:=e.bagAt hb
  rw [h] at b1; cases b1
  exact .bag (hw _ b List.mem_cons_self h) (ArgsOk.toIn e r fun i c m=>hw i c (List.mem_cons_of_mem _ m))
theorem ArgsOk.bagIn {B:Hp} {σ:St} {ρ:List Sl}:∀ {vs:List V} {as:List Arg} {i:Nat},ArgsOk K B σ ρ vs as→Arg.bag i∈as→ρ[i]?=some .bag
 | _,_,_,.nil,m=>by simp at m
 | _,_,_,.val h r,m=>by
  rcases List.mem_cons.mp m with m | m
  ·cases m
  ·exact r.bagIn m
 | _,_,_,.bag h hb r,m=>by
  rcases List.mem_cons.mp m with m | m
  ·cases m; exact hb
  ·exact r.bagIn m
theorem call_ok {R:Hp} {W:Addr→Prop} {B H:Hp} {σ:St} {ρ:List Sl} {vs:List V} {as:List Arg} {k:Sl→Prop} {Q:VK} {E:XK} (e:Ev K R W B H σ ρ) (ok:ArgsOk K B σ ρ vs as) (hs:sh as n=true) (hF:F (as.map Arg.sl) k)
  (q:∀ r v B' H',k r→Ev K R W B' H' σ ρ→Grow R B B'→ResOk K H B' H' v r→Q v H'):Con K n F vs H Q E:=by
 rw [sh,Bool.and_eq_true] at hs
 have h1:as.length=n:=Nat.eq_of_beq_eq_true hs.1
 have hW:∀ a,(∃ i:Nat,Arg.bag i∈as∧σ[i]?=some (some (.ref a)))→∃ i:Nat,σ[i]?=some (some (.ref a))∧ρ[i]?=some .bag:=fun a ⟨i,m,z⟩=>⟨i,z,ok.bagIn m⟩
 refine ⟨fun a=>∃ i:Nat,Arg.bag i∈as∧σ[i]?=some (some (.ref a)),B,as.map Arg.sl,k,hF,by rw [List.length_map]; exact h1,hs.2,e.bh,fun a h=>?_,ok.toIn e fun i b m z=>⟨i,m,z⟩,fun r v B' H' hk ex=>?_⟩
 ·obtain ⟨i,z1,z2⟩:=hW a h
  obtain ⟨b,b1,_,b3,b4⟩:=e.bagAt z2
  rw [z1] at b1; cases b1
  exact ⟨b3,b4⟩
 ·obtain ⟨e2,g2⟩:=e.after hW ex.wd ex.g
  exact q r v B' H' hk e2 g2 ex.res
theorem e_call {x:Str} {ps:List Str} {j lv:Nat} (c:Cal X.prog X.w X.K X.mg X.base x ps j (Con X.K n F)) (hr:Room lv X.A) (hg:Gl X x) (ha:PA3 X (e :: es) w) (hjk:j≤lv:=by decide)
  (hdb:(x == ("__debug__" : Str))=false:=by decide) (he:starEach (e :: es) X.env=(false,eval e X.env) :: starEach es X.env:=by rfl) (hpl:(backTo pos (starEach es X.env)).any (·.1)=false:=by rfl) :
  PE3 X (.Call (.Name x p) (e :: es) [] pos) (uCall n F w):=by
 obtain ⟨_,h1,r1⟩:=ha
 refine ⟨_,pe_cal c hr hg h1 hjk hdb he hpl,fun ρ k h R W B H σ Q e q=>?_⟩
 refine r1 ρ _ h R W B H σ _ e fun as vs B1 H1 z1 e1 g1 s1=>?_
 rw [List.append_nil]
 refine call_ok e1 s1 z1.1 z1.2 fun r v B2 H2 hk e2 g2 res=>?_
 cases r with
 | no=>exact hk.elim
 | bag=>exact hk.elim
 | pin v d=>exact hk.elim
 | deep c=>exact hk.elim
 | val d=>exact q d v B2 H2 hk e2 (g1.trans g2) res
 | new d=>exact q d v B2 H2 hk e2 (g1.trans g2) (Rep.mono newL_sub res)
 | own c =>
  cases c with
  | d _ _ _ _=>exact hk.elim
  | l ds =>
  obtain ⟨a,rfl,f1,f2,us,f3,f4⟩:=res
  obtain ⟨e3,g3⟩:=e2.freeze f3 (e1.toWd.fresh f1).1 f2 fun i m=>absurd f1 (by
   have m1:MutAt σ ρ i a:=m
   exact (e1.mutOk m1).2)
  exact q _ _ _ _ hk e3 ((g1.trans g2).trans g3) (.lst upd_same (f4.mono g3.s))
theorem o_call {x:Str} {ps:List Str} {j lv:Nat} (c:Cal X.prog X.w X.K X.mg X.base x ps j (Con X.K n F)) (hr:Room lv X.A) (hg:Gl X x) (ha:PA3 X (e :: es) w) (hjk:j≤lv:=by decide)
  (hdb:(x == ("__debug__" : Str))=false:=by decide) (he:starEach (e :: es) X.env=(false,eval e X.env) :: starEach es X.env:=by rfl) (hpl:(backTo pos (starEach es X.env)).any (·.1)=false:=by rfl) :
  PO3 X (.Call (.Name x p) (e :: es) [] pos) (uCallO n F w):=by
 obtain ⟨_,h1,r1⟩:=ha
 refine ⟨_,pe_cal c hr hg h1 hjk hdb he hpl,fun ρ k h R W B H σ Q e q=>?_⟩
 refine r1 ρ _ h R W B H σ _ e fun as vs B1 H1 z1 e1 g1 s1=>?_
 rw [List.append_nil]
 refine call_ok e1 s1 z1.1 z1.2 fun r v B2 H2 hk e2 g2 res=>?_
 obtain ⟨ds,rfl,hk⟩:=hk
 obtain ⟨a,rfl,f1,f2,us,f3,f4⟩:=res
 exact q ds a us B2 H2 hk e2 (g1.trans g2) (e1.toWd.fresh f1).1 f2 f3 f4 fun i m=>(e1.mutOk m).2 f1
end
def lenD:D→Option Nat
 | .tup ds=>some ds.length
 | .lst ds=>some ds.length
 | .scr ns=>some ns.length
 | _=>none
def uLen (u:UE):UE:=fun ρ k=>u ρ fun x=>∃ n,lenD x=some n∧k (.int n)
def uAbs (u:UE):UE:=fun ρ k=>u ρ fun x=>∃ i,x=.int i∧k (.int (if i < 0 then -i else i))
def tyD:D→Option String
 | .int _=>some "int"
 | .bl _=>some "bool"
 | .tup _=>some "tuple"
 | .lst _=>some "list"
 | .non=>some "NoneType"
 | .str _=>some "str"
 | _=>none
def uIsi (u:UE) (n:String):UE:=fun ρ k=>u ρ fun x=>∃ t b,tyD x=some t∧(∀ K,PySem.W.kitOne K (.type t) (.type n)=some b)∧k (.bl b)
section
variable {K:PySem.W.Frag} {X:Cx} {e:Expr} {es:List Expr} {u:UE} {pos p:Pos} {n:Nat}
theorem refCB1 {te:TE} {r:List V→Hp→VK→Prop} {f:D→(D→Prop)→Prop} (ha:RefE K te u)
  (hr:∀ (x:D) (k:D→Prop),f x k→∀ (R:Hp) (W:Addr→Prop) (B H:Hp) (σ:St) (ρ:List Sl) (v:V) (Q:VK),Ev K R W B H σ ρ→Rep K B v x→(∀ d v B' H',k d→Ev K R W B' H' σ ρ→Grow R B B'→Rep K B' v d→Q v H')→r [v] H Q) :
  RefE K (tCB r (tCons te tNil)) (fun ρ k=>u ρ fun x=>f x k):=by
 intro ρ k h R W B H σ Q e q
 refine ha ρ _ h R W B H σ _ e fun x v B1 H1 h1 e1 g1 r1=>?_
 exact hr x k h1 R W B1 H1 σ ρ v Q e1 r1 fun d u B3 H3 h3 e3 g3 r3=>q d u B3 H3 h3 e3 (g1.trans g3) r3
theorem e_len (ha:PE3 X e u) (hg:Gl X "len") (hm:X.mg "len" = none) (hs:starEach [e] X.env=(false,eval e X.env) :: starEach [] X.env:=by rfl):PE3 X (.Call (.Name "len" p) [e] [] pos) (uLen u):=by
 obtain ⟨_,h1,r1⟩:=ha
 refine ⟨_,pe_callB call_len_seq hg hm PySem.boot_len (pa_cons h1 pa_nil hs) (by decide) (by decide) hs,refCB1 (f:=fun x k=>∃ n,lenD x=some n∧k (.int n)) r1 fun x k h R W B H σ ρ v Q e rx q=>?_⟩
 obtain ⟨n,hn,hk⟩:=h
 cases x <;> first | (cases hn; done) | skip
 ·obtain ⟨a,vs,rfl,ha,r⟩:=rx.tupV
  cases hn
  rw [← r.length] at hk
  exact ⟨a,vs,rfl,.inr (SqT.of (e.bh _ _ ha)),q _ _ B H hk e (Grow.refl _ _) (.int _)⟩
 ·obtain ⟨a,vs,rfl,ha,r⟩:=rx.lstV
  cases hn
  rw [← r.length] at hk
  exact ⟨a,vs,rfl,.inl (SqL.of (e.bh _ _ ha)),q _ _ B H hk e (Grow.refl _ _) (.int _)⟩
 ·obtain ⟨a,rfl,ha⟩:=rx.scrV
  cases hn
  refine ⟨a,_,rfl,.inl (e.bh.seq ha),?_⟩
  rw [List.length_map]
  exact q _ _ B H hk e (Grow.refl _ _) (.int _)
theorem e_abs (ha:PE3 X e u) (hg:Gl X "abs") (hm:X.mg "abs" = none) (hs:starEach [e] X.env=(false,eval e X.env) :: starEach [] X.env:=by rfl):PE3 X (.Call (.Name "abs" p) [e] [] pos) (uAbs u):=by
 obtain ⟨_,h1,r1⟩:=ha
 refine ⟨_,pe_callB call_abs hg hm (by decide +kernel) (pa_cons h1 pa_nil hs) (by decide) (by decide) hs,refCB1 (f:=fun x k=>∃ i,x=.int i∧k (.int (if i < 0 then -i else i))) r1 fun x k h R W B H σ ρ v Q e rx q=>?_⟩
 obtain ⟨i,rfl,hk⟩:=h
 exact ⟨i,by rw [rx.intV],q _ _ B H hk e (Grow.refl _ _) (.int _)⟩
theorem tyD_ok {B H:Hp} {v:V} {x:D} {t:String} (s:Same B H) (r:Rep K B v x) (h:tyD x=some t):TyOf K H v (.type t):=by
 cases r <;> cases h
 ·exact .non
 ·exact .bl _
 ·exact .int _
 ·exact .str _
 ·exact .tup (s _ _ (by assumption))
 ·exact .lst (s _ _ (by assumption))
theorem e_isi {T:String} {y:Str} {pT:Pos} (ha:PE3 X e u) (hg:Gl X "isinstance") (hm:X.mg "isinstance" = none) (hT:PE X (.Name y pT) (tC (.ty T))) (hs:starEach [e,.Name y pT] X.env=(false,eval e X.env) :: starEach [.Name y pT] X.env)
  (hs2:starEach [.Name y pT] X.env=(false,eval (.Name y pT) X.env) :: starEach [] X.env) (hpl:(backTo pos (starEach [.Name y pT] X.env)).any (·.1)=false):PE3 X (.Call (.Name "isinstance" p) [e,.Name y pT] [] pos) (uIsi u T):=by
 obtain ⟨_,h1,r1⟩:=ha
 refine ⟨_,pe_callB call_isinst hg hm (by decide +kernel) (pa_cons h1 (pa_cons hT pa_nil hs2) hs) (by decide) (by decide) hs hpl,fun ρ k h R W B H σ Q e q=>?_⟩
 refine r1 ρ _ h R W B H σ _ e fun x v B1 H1 h1 e1 g1 s1=>?_
 obtain ⟨t,b,ht,hk,z⟩:=h1
 exact ⟨v,_,T,b,rfl,tyD_ok e1.bh s1 ht,hk _,q _ _ B1 H1 z e1 g1 (.bl _)⟩
end
end L3
namespace L3
open PySem L2
open PySem.Builtin.Int (intBits)
section
variable {K:PySem.W.Frag} {X:Cx} {e:Expr} {es:List Expr} {u:UE} {w:UL} {pos p:Pos}
def uNext:US:=fun U ρ=>U.nx ρ
def uSeq (s t:US):US:=fun U ρ=>s { U with nx:=t U } ρ
def uRet (u:UE):US:=fun U ρ=>u ρ fun d=>U.rt (.val d)
def uRetO (w:UL):US:=fun U ρ=>w ρ fun ds=>U.rt (.own ds)
def uRetV (i:Nat):US:=fun U ρ=>∃ ds,ρ[i]?=some (.own ds)∧U.rt (.own ds)
def uSet (i:Nat) (u:UE):US:=fun U ρ=>u ρ fun d=>U.nx (ρ.set i (.val d))
def uSetO (i:Nat) (w:UL):US:=fun U ρ=>w ρ fun ds=>U.nx (ρ.set i (.own ds))
def uIf (c:UT) (s t:US):US:=fun U ρ=>c ρ fun b=>if b=true then s U ρ else t U ρ
def uFz (i:Nat) (s:US):US:=fun U ρ=>∃ ds:List D,ρ[i]?=some (.own ds)∧s U (ρ.set i (.val (.lst ds)))
theorem s_nil:PSs3 X [] uNext:=⟨_,pss_nil,fun U ρ h R W B H σ D e s=>s.nx ρ σ B H h e (Grow.refl _ _)⟩
theorem s_one {st:Stmt} {s:US} (h:PS3 X st s):PSs3 X [st] s:=by
 obtain ⟨_,h1,r1⟩:=h
 exact ⟨_,pss_one h1,r1⟩
theorem s_cons {st:Stmt} {rest:List Stmt} {s t:US} (h:PS3 X st s) (h':PSs3 X rest t):PSs3 X (st :: rest) (uSeq s t):=by
 obtain ⟨_,h1,r1⟩:=h; obtain ⟨_,h2,r2⟩:=h'
 refine ⟨_,pss_cons h1 h2,fun U ρ h R W B H σ D e sm=>?_⟩
 exact r1 _ ρ h R W B H σ _ e ⟨fun ρ' σ' B' H' z e' g=>r2 U ρ' z R W B' H' σ' D e' (sm.grow g),sm.bk,sm.ct,sm.rt⟩
theorem s_fz {st:List Stmt} {s:US} (i:Nat) (h:PSs3 X st s):PSs3 X st (uFz i s):=by
 obtain ⟨_,h1,r1⟩:=h
 refine ⟨_,h1,fun U ρ h R W B H σ D e sm=>?_⟩
 obtain ⟨ds,ho,z⟩:=h
 obtain ⟨B',e',g⟩:=e.fz ho
 exact r1 U _ z R W B' H σ D e' (sm.grow g)
theorem s_never {st:Stmt}:PS3 X st (fun _ _=>False):=⟨_,ps_never,fun U ρ h=>h.elim⟩
theorem s_ret (h:PE3 X e u):PS3 X (.Return (some e) pos) (uRet u):=by
 obtain ⟨_,h1,r1⟩:=h
 refine ⟨_,ps_ret h1,fun U ρ h R W B H σ D e s=>?_⟩
 exact r1 ρ _ h R W B H σ _ e fun d v B1 H1 z1 e1 g1 s1=>s.rt _ v B1 H1 z1 e1.toWd g1 s1
theorem s_retO (h:PO3 X e w):PS3 X (.Return (some e) pos) (uRetO w):=by
 obtain ⟨_,h1,r1⟩:=h
 refine ⟨_,ps_ret h1,fun U ρ h R W B H σ D e s=>?_⟩
 exact r1 ρ _ h R W B H σ _ e fun ds a vs B1 H1 z1 e1 g1 f1 f2 f3 f4 f5=>s.rt (.own ds) _ B1 H1 z1 e1.toWd g1 ⟨a,rfl,f1,f2,vs,f3,f4⟩
theorem s_retV (i:Nat) {x:Str} {px:Pos} (hN:X.N[i]?=some x:=by rfl) (hv:Vis X.env.scope x:=by first | exact Or.inl rfl | exact Or.inr (Or.inl rfl) | exact Or.inr (Or.inr rfl)) (hd:(x == ("__debug__" : Str))=false:=by decide)
  (hcd:(x == ("__classdict__" : Str))=false:=by decide):PS3 X (.Return (some (.Name x px)) pos) (uRetV i):=by
 refine ⟨_,ps_ret (pe_var hN hv hd hcd),fun U ρ h R W B H σ D e s=>?_⟩
 obtain ⟨ds,ho,z⟩:=h
 obtain ⟨a,e1,e2,e3,e4⟩:=e.ownC ho
 exact ⟨_,e1,s.rt (.own ds) _ B H z e.toWd (Grow.refl _ _) ⟨a,rfl,e2,e3,e4⟩⟩
theorem s_set {i:Nat} {x:Str} {pos':Pos} (hN:X.N.Nodup) (hi:X.N[i]?=some x) (hx:Loc X.env.scope x) (he:PE3 X e u) (hs:swapsWith e (some (.Name x pos')) pos.line X.env=pure false:=by rfl) (hf:X.fn x=true∨X.env.scope.names.lookup x=some .local:=by first | exact .inl rfl | exact .inr rfl | assumption) :
  PS3 X (.Assign [.Name x pos'] e pos) (uSet i u):=by
 obtain ⟨_,h1,r1⟩:=he
 refine ⟨_,ps_set hN hi hx h1 hs hf,fun U ρ h R W B H σ D e s=>?_⟩
 exact r1 ρ _ h R W B H σ _ e fun d v B1 H1 z1 e1 g1 s1=>s.nx _ _ B1 H1 z1 (e1.setV i s1) g1
theorem s_setO {i:Nat} {x:Str} {pos':Pos} (hN:X.N.Nodup) (hi:X.N[i]?=some x) (hx:Loc X.env.scope x) (he:PO3 X e w) (hs:swapsWith e (some (.Name x pos')) pos.line X.env=pure false:=by rfl) (hf:X.fn x=true∨X.env.scope.names.lookup x=some .local:=by first | exact .inl rfl | exact .inr rfl | assumption) :
  PS3 X (.Assign [.Name x pos'] e pos) (uSetO i w):=by
 obtain ⟨_,h1,r1⟩:=he
 refine ⟨_,ps_set hN hi hx h1 hs hf,fun U ρ h R W B H σ D e s=>?_⟩
 exact r1 ρ _ h R W B H σ _ e fun ds a vs B1 H1 z1 e1 g1 f1 f2 f3 f4 f5=>s.nx _ _ B1 H1 z1 (e1.setO i f1 f2 f3 f4 fun j _=>f5 j) g1
theorem s_if {c:Expr} {a b:List Stmt} {uc:UT} {s t:US} (hc:PT3 X c uc) (ha:PSs3 X a s) (hb:PSs3 X b t):PS3 X (.If c a b pos) (uIf uc s t):=by
 obtain ⟨_,h0,r0⟩:=hc; obtain ⟨_,h1,r1⟩:=ha; obtain ⟨_,h2,r2⟩:=hb
 refine ⟨_,ps_if h0 h1 h2,fun U ρ h R W B H σ D e sm=>?_⟩
 refine r0 ρ _ h R W B H σ _ e fun c B1 H1 z1 e1 g1=>?_
 cases c with
 | true =>
  rw [if_pos rfl] at z1 ⊢
  exact r1 U ρ z1 R W B1 H1 σ D e1 (sm.grow g1)
 | false =>
  rw [if_neg Bool.false_ne_true] at z1 ⊢
  exact r2 U ρ z1 R W B1 H1 σ D e1 (sm.grow g1)
def ugName (i:Nat):UG:=fun d ρ k=>k (ρ.set i (.val d))
def ugNil:UGs:=fun ds ρ k=>ds=[]∧k ρ
def ugCons (g:UG) (gs:UGs):UGs:=fun ds ρ k=>∃ d r,ds=d :: r∧g d ρ fun ρ'=>gs r ρ' k
def ugTup (n:Nat) (gs:UGs):UG:=fun d ρ k=>∃ ds,d=.tup ds∧ds.length=n∧gs ds ρ k
def uAsg (u:UE) (g:UG):US:=fun U ρ=>u ρ fun d=>g d ρ U.nx
theorem g_name {i:Nat} {x:Str} (hN:X.N.Nodup) (hi:X.N[i]?=some x) (hx:Loc X.env.scope x) (hf:X.fn x=true∨X.env.scope.names.lookup x=some .local:=by first | exact .inl rfl | exact .inr rfl | assumption):PG3 X (.Name x pos) (ugName i) :=
 ⟨_,pg_name hN hi hx hf,fun d ρ k h R W B H σ v Q e r q=>q _ _ h (e.setV i r) fun j a m=>by
  exact (mut_setV m (by simp) (by simp) rfl).2⟩
theorem gs_nil:PGs3 X [] ugNil:=⟨_,pgs_nil,fun ds ρ k h R W B H σ vs Q e r q=>by
 obtain ⟨rfl,h⟩:=h
 cases r
 exact ⟨rfl,q _ _ h e fun _ _ m=>m⟩⟩
theorem gs_cons {g:UG} {gs:UGs} (h1:PG3 X e g) (h2:PGs3 X es gs) (hs:(assignEach (e :: es) X.env).map (·.2)=assign e X.env :: (assignEach es X.env).map (·.2):=by rfl):PGs3 X (e :: es) (ugCons g gs):=by
 obtain ⟨_,h1,r1⟩:=h1; obtain ⟨_,h2,r2⟩:=h2
 refine ⟨_,pgs_cons h1 h2 hs,fun ds ρ k h R W B H σ vs Q e r q=>?_⟩
 obtain ⟨d,rr,rfl,h⟩:=h
 cases r with
 | cons rv rs =>
  refine ⟨_,_,rfl,r1 d ρ _ h R W B H σ _ _ e rv fun ρ' σ' z e' mm=>?_⟩
  exact r2 rr ρ' k z R W B H σ' _ _ e' rs fun ρ'' σ'' z2 e2 m2=>q ρ'' σ'' z2 e2 fun j a m=>mm j a (m2 j a m)
theorem g_tup {k0:Nat} {gs:UGs} {n:Nat} (hc:X.calm=true) (h:PGs3 X es gs) (hn:(assignEach es X.env).length=n:=by rfl) (hst:(assignEach es X.env).findIdx? (·.1)=none:=by rfl):PG3 X (.Tuple es k0 pos) (ugTup n gs):=by
 obtain ⟨_,h1,r1⟩:=h
 refine ⟨_,pg_tup hc h1 hn hst,fun d ρ k h R W B H σ v Q e r q=>?_⟩
 obtain ⟨ds,rfl,hl,h⟩:=h
 obtain ⟨a,vs,rfl,ha,rs⟩:=r.tupV
 exact ⟨a,vs,rfl,SqT.of (e.bh _ _ ha),by rw [rs.length]; exact hl,r1 ds ρ k h R W B H σ vs Q e rs q⟩
theorem s_asg {tg:Expr} {g:UG} (he:PE3 X e u) (hg:PG3 X tg g) (hs:swapsWithSole [tg] e pos.line X.env=pure false:=by rfl) (hw:swappedStores [tg] e X.env=pure none:=by rfl)
  (h1:(assignEach [tg] X.env).map (·.2)=[assign tg X.env]:=by rfl):PS3 X (.Assign [tg] e pos) (uAsg u g):=by
 obtain ⟨_,ha,r1⟩:=he; obtain ⟨_,hb,r2⟩:=hg
 refine ⟨_,ps_asg ha hb hs hw h1,fun U ρ h R W B H σ D e s=>?_⟩
 refine r1 ρ _ h R W B H σ _ e fun d v B1 H1 z1 e1 g1 s1=>?_
 exact r2 d ρ _ z1 R W B1 H1 σ v _ e1 s1 fun ρ' σ' z2 e2 _=>s.nx _ _ B1 H1 z2 e2 g1
def uPar (i j:Nat) (w:UL):US:=fun U ρ=>w ρ fun ds=>∃ x y,ds=[x,y]∧U.nx ((ρ.set i (.val x)).set j (.val y))
theorem s_par {i j:Nat} {x y:Str} {a b:Expr} {px py pt:Pos} {kt k2 pt2} (hc:X.calm=true) (hN:X.N.Nodup) (hi:X.N[i]?=some x) (hj:X.N[j]?=some y) (hij:i≠j)
  (hx:X.env.scope.names.lookup x=some .local) (hy:X.env.scope.names.lookup y=some .local) (ha:PL3 X [a,b] w)
  (hw:swappedStores [.Tuple [.Name x px,.Name y py] kt pt] (.Tuple [a,b] k2 pt2) X.env=pure (some [x,y]))
  (hs:swapsWithSole [.Tuple [.Name x px,.Name y py] kt pt] (.Tuple [a,b] k2 pt2) pos.line X.env=pure false:=by rfl) :
  PS3 X (.Assign [.Tuple [.Name x px,.Name y py] kt pt] (.Tuple [a,b] k2 pt2) pos) (uPar i j w):=by
 obtain ⟨_,h1,r1⟩:=ha
 refine ⟨_,ps_par hc hN hi hj hij hx hy h1 hw hs,fun U ρ h R W B H σ D e s=>?_⟩
 refine r1 ρ _ h R W B H σ _ e fun ds vs B1 H1 z1 e1 g1 s1=>?_
 obtain ⟨x,y,rfl,z1⟩:=z1
 cases s1 with
 | cons ra rb=>cases rb with
  | cons rb rc =>
   cases rc
   exact ⟨_,_,rfl,s.nx _ _ B1 H1 z1 ((e1.setV i ra).setV j rb) g1⟩
def uWhile (c:UT) (s:US):US:=fun U ρ=>∃ M:Nat→List Sl→Prop,(∃ m,M m ρ)∧∀ m ρ,M m ρ→c ρ fun b=>if b=true then s { U with nx:=fun ρ'=>∃ m',m' < m∧M m' ρ',ct:=fun ρ'=>∃ m',m' < m∧M m' ρ',bk:=U.nx } ρ else U.nx ρ
theorem s_while {c:Expr} {body:List Stmt} {uc:UT} {s:US} (hp:PassesOwn (model X.prog X.w) X.A X.env X.xe) (hc:PT3 X c uc) (hb:PSs3 X body s):PS3 X (.While c body [] pos) (uWhile uc s):=by
 obtain ⟨_,h0,r0⟩:=hc; obtain ⟨_,h1,r1⟩:=hb
 refine ⟨_,ps_while hp h0 h1,fun U ρ h R W B H σ D e sm=>?_⟩
 obtain ⟨M,⟨m0,hm⟩,turn⟩:=h
 refine ⟨fun m σ' H'=>∃ ρ' B',M m ρ'∧Ev X.K R W B' H' σ' ρ'∧Grow R B B',⟨m0,ρ,B,hm,e,Grow.refl _ _⟩,?_⟩
 rintro m σ1 H1 ⟨ρ1,B1,hm1,e1,g1⟩
 refine r0 ρ1 _ (turn m ρ1 hm1) R W B1 H1 σ1 _ e1 fun b B2 H2 z2 e2 g2=>?_
 cases b with
 | true =>
  rw [if_pos rfl] at z2 ⊢
  refine ⟨fun σ' H'=>∃ ρ' B',(∃ m',m' < m∧M m' ρ')∧Ev X.K R W B' H' σ' ρ'∧Grow R B B',?_,?_⟩
  ·rintro σ' H' ⟨ρ',B',⟨m',l,q⟩,e',g'⟩
   exact ⟨m',l,ρ',B',q,e',g'⟩
  ·have gg:=g1.trans g2
   exact r1 _ ρ1 z2 R W B2 H2 σ1 _ e2 ⟨fun ρ' σ' B' H' z e' g=>⟨ρ',B',z,e',gg.trans g⟩,fun ρ' σ' B' H' z e' g=>sm.nx ρ' σ' B' H' z e' (gg.trans g),fun ρ' σ' B' H' z e' g=>⟨ρ',B',z,e',gg.trans g⟩,fun r v B' H' z e' g q=>sm.rt r v B' H' z e' (gg.trans g) q⟩
 | false =>
  rw [if_neg Bool.false_ne_true] at z2 ⊢
  exact sm.nx ρ1 σ1 B2 H2 z2 e2 (g1.trans g2)
theorem ItOk.list {B:Hp} {a:Addr} {vs:List V} {ds:List D} (h:B a=some (.lst vs)) (r:Reps K B vs ds):ItOk K B (Itl K a) ds:=by
 intro H s i
 have hH:=s _ _ h
 have q:SqL K H a vs:=SqL.of hH
 refine ⟨fun hi=>?_,fun hi=>⟨vs,q,by rw [r.length]; exact hi⟩,fun x H' hi ⟨e1,e2⟩=>⟨e1,?_⟩⟩
 ·obtain ⟨v,e,_⟩:=r.get (List.getElem?_eq_getElem hi)
  exact ⟨vs,v,q,e⟩
 ·exact r.getV (e2 vs q)
theorem ItOk.rng {B:Hp} (n:Nat):ItOk K B (Itr 0 n) ((List.range n).map fun i:Nat=>D.int i):=by
 intro H s i
 rw [List.length_map,List.length_range]
 refine ⟨fun hi=>hi,fun hi=>hi,fun x H' hi ⟨e1,e2⟩=>⟨e1,?_⟩⟩
 refine ⟨.int i,?_,?_⟩
 ·rw [List.getElem?_map,List.getElem?_range hi]; rfl
 ·rw [e2,Int.zero_add]; exact .int _
def uiL (u:UE):UL:=fun ρ k=>u ρ fun d=>∃ ds,d=.lst ds∧k ds
def uiR (u:UE):UL:=fun ρ k=>u ρ fun d=>∃ j,d=.int j ∧ -(2 ^ 62)≤j∧j < 2 ^ 62∧k ((List.range j.toNat).map fun i:Nat=>D.int i)
variable {tg:Expr}
theorem i_list {l:Expr} (hl:PE3 X l u):PI3 X tg l (uiL u):=by
 obtain ⟨_,h1,r1⟩:=hl
 refine ⟨_,pi_list h1,fun ρ k h R W B H σ Q e q=>?_⟩
 refine r1 ρ _ h R W B H σ _ e fun d v B1 H1 z1 e1 g1 s1=>?_
 obtain ⟨ds,rfl,z⟩:=z1
 obtain ⟨a,vs,rfl,ha,rs⟩:=s1.lstV
 exact ⟨a,rfl,⟨vs,SqL.of (e1.bh _ _ ha)⟩,q ds _ B1 H1 z e1 g1 (ItOk.list ha rs)⟩
theorem i_rng {a:Expr} (ha:PE3 X a u) (hg:Gl X "range") (hm:X.mg "range" = none) (hs:starEach [a] X.env=[(false,eval a X.env)]:=by rfl):PI3 X tg (.Call (.Name "range" p) [a] [] pos) (uiR u):=by
 obtain ⟨_,h1,r1⟩:=ha
 refine ⟨_,pi_range1 hg hm (pa_cons h1 pa_nil (by exact hs)) hs,fun ρ k h R W B H σ Q e q=>?_⟩
 refine r1 ρ _ h R W B H σ _ e fun d v B1 H1 z1 e1 g1 s1=>?_
 obtain ⟨j,rfl,j0,j1,z⟩:=z1
 exact ⟨j,by rw [s1.intV],j0,j1,q _ _ B1 H1 z e1 g1 (ItOk.rng _)⟩
def forR (g:UG) (s:US) (U:UEnds):List D→List Sl→Prop
 | [],ρ=>U.nx ρ
 | d :: ds,ρ=>g d ρ fun ρ'=>s { U with nx:=forR g s U ds,ct:=forR g s U ds,bk:=U.nx } ρ'
def uFor (w:UL) (g:UG) (s:US):US:=fun U ρ=>w ρ fun ds=>forR g s U ds ρ
theorem s_for {iter:Expr} {body:List Stmt} {g:UG} {s:US} (hp:PassesOwn (model X.prog X.w) X.A X.env X.xe) (hc:X.calm=true) (hi:PI3 X tg iter w) (hg:PG3 X tg g) (hb:PSs3 X body s)
  (hs:∀ x,foldedSetIterable iter X.env x=pure x:=by intro _; rfl):PS3 X (.For tg iter body [] pos) (uFor w g s):=by
 obtain ⟨_,h0,r0⟩:=hi; obtain ⟨_,h1,r1⟩:=hg; obtain ⟨_,h2,r2⟩:=hb
 refine ⟨_,ps_for hp hc h0 h1 h2 hs,fun U ρ h R W B H σ D e sm=>?_⟩
 refine r0 ρ _ h R W B H σ _ e fun ds J B1 H1 z1 e1 g1 it=>?_
 refine ⟨fun i m σ' H'=>∃ ρ' B',m=ds.length - i∧i≤ds.length∧forR g s U (ds.drop i) ρ'∧Ev X.K R W B' H' σ' ρ'∧Grow R B B'∧Same B1 B',⟨ds.length,ρ,B1,by simp,Nat.zero_le _,z1,e1,g1,Same.refl _⟩,?_⟩
 rintro i m σ1 H2 ⟨ρ1,B2,rfl,hi,z2,e2,g2,s2⟩
 obtain ⟨t1,t2,t3⟩:=it H2 (s2.trans e2.bh) i
 by_cases hlt:i < ds.length
 ·refine .inr ⟨t1 hlt,fun σ' H'=>∃ ρ' B',forR g s U (ds.drop (i + 1)) ρ'∧Ev X.K R W B' H' σ' ρ'∧Grow R B B'∧Same B1 B',?_,?_⟩
  ·rintro σ' H' ⟨ρ',B',z,e',g',s'⟩
   exact ⟨ds.length - (i + 1),by lia,ρ',B',rfl,hlt,z,e',g',s'⟩
  ·intro x H' y
   obtain ⟨rfl,d,hd,rx⟩:=t3 x H' hlt y
   have ed:ds.drop i=d :: ds.drop (i + 1):=by
    rw [List.drop_eq_getElem_cons hlt]
    rw [List.getElem?_eq_getElem hlt] at hd
    rw [Option.some.inj hd]
   rw [ed] at z2
   refine r1 d ρ1 _ z2 R W B2 _ σ1 x _ e2 (rx.mono s2) fun ρ' σ' z' e' _=>?_
   exact r2 _ ρ' z' R W B2 _ σ' _ e' ⟨fun ρ' σ' B' H' z e' g=>⟨ρ',B',z,e',g2.trans g,s2.trans g.s⟩,fun ρ' σ' B' H' z e' g=>sm.nx ρ' σ' B' H' z e' (g2.trans g),fun ρ' σ' B' H' z e' g=>⟨ρ',B',z,e',g2.trans g,s2.trans g.s⟩,fun r v B' H' z e' g q=>sm.rt r v B' H' z e' (g2.trans g) q⟩
 ·have ei:i=ds.length:=by lia
  subst ei
  rw [List.drop_length] at z2
  exact .inl ⟨t2 (Nat.le_refl _),sm.nx ρ1 σ1 B2 H2 z2 e2 g2⟩
end
end L3
namespace L3
open PySem L2
open PySem.Builtin.Int (intBits)
section
variable {K:PySem.W.Frag} {X:Cx} {e:Expr} {es:List Expr} {u:UE} {w:UL} {pos p:Pos}
theorem Ev.newO {R:Hp} {W:Addr→Prop} {B H:Hp} {σ:St} {ρ:List Sl} (e:Ev K R W B H σ ρ) {q:Addr} (hq:H q=none) {vs:List V} {ds:List D} (r:Reps K B vs ds) :
  Ev K R W B (upd H q (.lst vs)) σ ρ∧R q=none∧B q=none∧(upd H q (.lst vs)) q=some (.lst vs)∧∀ i,¬ MutAt σ ρ i q:=by
 obtain ⟨f1,f2,f3⟩:=e.toWd.fresh hq
 exact ⟨e.allocH hq _,f1,f3,upd_same,fun i m=>e.notNew hq m rfl⟩
def cutL {α:Type} (xs:List α) (lo hi:Option Int):List α:=(xs.drop (HT.sIx xs.length 0 lo)).take (HT.sIx xs.length xs.length hi - HT.sIx xs.length 0 lo)
theorem Reps.cut {B:Hp} {vs:List V} {ds:List D} (r:Reps K B vs ds) (lo hi:Option Int):Reps K B (cutL vs lo hi) (cutL ds lo hi):=by
 unfold cutL
 rw [r.length]
 exact (r.drop _).take _
abbrev UP:=List Sl→(Option Int→Prop)→Prop
def RefP (K:PySem.W.Frag) (t:TO) (u:UP):Prop:=∀ (ρ:List Sl) (k:Option Int→Prop),u ρ k→∀ (R:Hp) (W:Addr→Prop) (B H:Hp) (σ:St) (Q:Option Int→Hp→Prop),Ev K R W B H σ ρ →
 (∀ o B' H',k o→Ev K R W B' H' σ ρ→Grow R B B'→Q o H')→t σ H Q
def PP3 (X:Cx) (e:Option Expr) (u:UP):Prop:=∃ t,PO X e t∧RefP X.K t u
def upN:UP:=fun _ k=>k none
def upS (u:UE):UP:=fun ρ k=>u ρ fun d=>∃ i,d=.int i∧k (some i)
theorem p_none:PP3 X none upN:=⟨_,po_none,fun ρ k h R W B H σ Q e q=>q none B H h e (Grow.refl _ _)⟩
theorem p_some (h:PE3 X e u):PP3 X (some e) (upS u):=by
 obtain ⟨_,h1,r1⟩:=h
 refine ⟨_,po_some h1,fun ρ k h R W B H σ Q e q=>?_⟩
 refine r1 ρ _ h R W B H σ _ e fun d v B1 H1 z1 e1 g1 s1=>?_
 obtain ⟨i,rfl,z⟩:=z1
 exact ⟨i,s1.intV,q _ B1 H1 z e1 g1⟩
def itemsD:D→Option (List D)
 | .lst ds=>some ds
 | .scr ns=>some (ns.map .int)
 | _=>none
theorem itemsD_ok {B H:Hp} {v:V} {x:D} {ds:List D} (s:Same B H) (r:Rep K B v x) (h:itemsD x=some ds):∃ a vs,v=.ref a∧SqL K H a vs∧Reps K B vs ds:=by
 cases x <;> first | (cases h; done) | skip
 ·obtain ⟨a,vs,rfl,ha,rs⟩:=r.lstV
  cases h
  exact ⟨a,vs,rfl,SqL.of (s _ _ ha),rs⟩
 ·obtain ⟨a,rfl,ha⟩:=r.scrV
  cases h
  exact ⟨a,_,rfl,s.seq ha,Reps.ints _⟩
def uSl (u:UE) (l h:UP):UL:=fun ρ k=>u ρ fun x=>l ρ fun lo=>h ρ fun hi=>∃ ds,itemsD x=some ds∧k (cutL ds lo hi)
theorem o_slice {lo hi:Option Expr} {ul uh:UP} {p2:Pos} (he:PE3 X e u) (hl:PP3 X lo ul) (hh:PP3 X hi uh):PO3 X (.Subscript e (.Slice lo hi none p2) pos) (uSl u ul uh):=by
 obtain ⟨_,h1,r1⟩:=he; obtain ⟨_,h2,r2⟩:=hl; obtain ⟨_,h3,r3⟩:=hh
 refine ⟨_,pe_slice sl_list h1 h2 h3,fun ρ k h R W B H σ Q e q=>?_⟩
 refine r1 ρ _ h R W B H σ _ e fun d v B1 H1 z1 e1 g1 s1=>?_
 refine r2 ρ _ z1 R W B1 H1 σ _ e1 fun lo B2 H2 z2 e2 g2=>?_
 refine r3 ρ _ z2 R W B2 H2 σ _ e2 fun hi B3 H3 z3 e3 g3=>?_
 obtain ⟨ds,hd,z⟩:=z3
 obtain ⟨a,vs,rfl,ha,rs⟩:=itemsD_ok e3.bh (s1.mono (g2.trans g3).s) hd
 refine ⟨a,vs,rfl,ha,fun p hp=>?_⟩
 obtain ⟨f1,f2,f3,f4,f5⟩:=e3.newO hp (rs.cut lo hi)
 exact q _ p _ B3 _ z f1 ((g1.trans g2).trans g3) f2 f3 f4 (rs.cut lo hi) f5
def uCat (u v:UE):UL:=fun ρ k=>u ρ fun x=>v ρ fun y=>∃ ds es,x=.lst ds∧y=.lst es∧ds.length + es.length≤sizeLine∧k (ds ++ es)
theorem o_cat {a b:Expr} {ua ub:UE} (ha:PE3 X a ua) (hb:PE3 X b ub):PO3 X (.BinOp a .Add b pos) (uCat ua ub):=by
 obtain ⟨_,h1,r1⟩:=ha; obtain ⟨_,h2,r2⟩:=hb
 refine ⟨_,pe_op op_cat h1 h2,fun ρ k h R W B H σ Q e q=>?_⟩
 refine r1 ρ _ h R W B H σ _ e fun d v B1 H1 z1 e1 g1 s1=>?_
 refine r2 ρ _ z1 R W B1 H1 σ _ e1 fun d' v' B2 H2 z2 e2 g2 s2=>?_
 obtain ⟨ds,es,rfl,rfl,hl,z⟩:=z2
 obtain ⟨a,vs,rfl,ha,rs⟩:=(s1.mono g2.s).lstV
 obtain ⟨b,ws,rfl,hb,rt⟩:=s2.lstV
 refine ⟨a,b,vs,ws,rfl,rfl,e2.bh _ _ ha,e2.bh _ _ hb,by rw [rs.length,rt.length]; exact hl,fun p hp=>?_⟩
 obtain ⟨f1,f2,f3,f4,f5⟩:=e2.newO hp (rs.append rt)
 exact q _ p _ B2 _ z f1 (g1.trans g2) f2 f3 f4 (rs.append rt) f5
def uCopy (u:UE):UL:=fun ρ k=>u ρ fun x=>∃ ds,(x=.lst ds∨x=.tup ds)∧k ds
theorem o_copy (ha:PE3 X e u) (hg:Gl X "list") (hm:X.mg "list" = none) (hs:starEach [e] X.env=(false,eval e X.env) :: starEach [] X.env:=by rfl):PO3 X (.Call (.Name "list" p) [e] [] pos) (uCopy u):=by
 obtain ⟨_,h1,r1⟩:=ha
 refine ⟨_,pe_callTy call_list_of hg hm (by decide +kernel) (pa_cons h1 pa_nil hs) (by decide) (by decide) hs,fun ρ k h R W B H σ Q e q=>?_⟩
 refine r1 ρ _ h R W B H σ _ e fun d v B1 H1 z1 e1 g1 s1=>?_
 obtain ⟨ds,hd,z⟩:=z1
 rcases hd with rfl | rfl
 ·obtain ⟨a,vs,rfl,ha,rs⟩:=s1.lstV
  refine ⟨a,vs,rfl,.inl (SqL.of (e1.bh _ _ ha)),fun p hp=>?_⟩
  obtain ⟨f1,f2,f3,f4,f5⟩:=e1.newO hp rs
  exact q _ p _ B1 _ z f1 g1 f2 f3 f4 rs f5
 ·obtain ⟨a,vs,rfl,ha,rs⟩:=s1.tupV
  refine ⟨a,vs,rfl,.inr (SqT.of (e1.bh _ _ ha)),fun p hp=>?_⟩
  obtain ⟨f1,f2,f3,f4,f5⟩:=e1.newO hp rs
  exact q _ p _ B1 _ z f1 g1 f2 f3 f4 rs f5
def uSum (u:UE):UE:=fun ρ k=>u ρ fun x=>∃ ns:List Int,x=.lst (ns.map .int)∧k (.int ns.sum)
theorem reps_ints {B:Hp}:∀ {ns:List Int} {vs:List V},Reps K B vs (ns.map D.int)→vs=ns.map V.int
 | [],_,.nil=>rfl
 | n :: r,_,.cons h t=>by rw [h.intV,reps_ints t]; rfl
theorem e_sum (ha:PE3 X e u) (hc:X.calm=true) (hg:Gl X "sum") (hm:X.mg "sum" = none) (hs:starEach [e] X.env=(false,eval e X.env) :: starEach [] X.env:=by rfl):PE3 X (.Call (.Name "sum" p) [e] [] pos) (uSum u):=by
 obtain ⟨_,h1,r1⟩:=ha
 refine ⟨_,pe_callB (call_sum hc) hg hm (by decide +kernel) (pa_cons h1 pa_nil hs) (by decide) (by decide) hs,refCB1 (f:=fun x k=>∃ ns:List Int,x=.lst (ns.map .int)∧k (.int ns.sum)) r1 fun x k h R W B H σ ρ v Q e rx q=>?_⟩
 obtain ⟨ns,rfl,hk⟩:=h
 obtain ⟨a,vs,rfl,ha,rs⟩:=rx.lstV
 cases reps_ints rs
 exact ⟨a,ns,rfl,e.bh _ _ ha,q _ _ B H hk e (Grow.refl _ _) (.int _)⟩
def uApp (i:Nat) (u:UE):US:=fun U ρ=>∃ ds:List D,ρ[i]?=some (.own ds)∧u ρ fun d=>ds.length < sizeLine∧U.nx (ρ.set i (.own (ds ++ [d])))
theorem s_app (i:Nat) {x:Str} {px apos cpos:Pos} (he:PE3 X e u) (hN:X.N[i]?=some x:=by rfl) (hv:Vis X.env.scope x:=by first | exact Or.inl rfl | exact Or.inr (Or.inl rfl) | exact Or.inr (Or.inr rfl)) (hd:(x == ("__debug__" : Str))=false:=by decide)
  (hcd:(x == ("__classdict__" : Str))=false:=by decide) (hbase:attributeBase (.Name x px) "append" X.env (eval (.Name x px) X.env)=eval (.Name x px) X.env:=by rfl)
  (hfew:((backTo cpos (starEach [e] X.env)).all (fun x => !x.1) && (backToKw cpos (keywordEach [] X.env)).all (fun x=>x.1.isSome)
   && decide ([e].length + ([]:List Keyword).length + (if ([]:List Keyword).isEmpty then 0 else 1) < 30))=true:=by rfl)
  (hline:(apos.endLine == cpos.line)=true:=by rfl) (hs:starEach [e] X.env=(false,eval e X.env) :: starEach [] X.env:=by rfl) (hplain:(backTo cpos (starEach ([]:List Expr) X.env)).any (·.1)=false:=by rfl)
  (hsw:swapsWith (.Call (.Attribute (.Name x px) "append" apos) [e] [] cpos) none pos.line X.env=pure false:=by rfl):PS3 X (.Expr (.Call (.Attribute (.Name x px) "append" apos) [e] [] cpos) pos) (uApp i u):=by
 obtain ⟨_,h1,r1⟩:=he
 refine ⟨_,ps_expr (pe_bm PySem.F.plainAttrs_list PySem.F.slot_list_append PySem.F.type_list_append mt_append (pe_var hN hv hd hcd) (pa_cons h1 pa_nil hs) hbase hfew hline hs hplain) hsw,fun U ρ h R W B H σ D e s=>?_⟩
 obtain ⟨ds,ho,h⟩:=h
 obtain ⟨a,vs,e1,e2,e3,e4,e5⟩:=e.ownAt ho
 refine ⟨_,e1,.inl ⟨rfl,vs,SqL.of e4⟩,?_⟩
 refine r1 ρ _ h R W B H σ _ e fun d v B1 H1 z1 f1 g1 s1=>?_
 obtain ⟨a',vs',k1,k2,k3,k4,k5⟩:=f1.ownAt ho
 rw [e1] at k1; cases k1
 exact ⟨a,vs',v,rfl,rfl,k4,by rw [k5.length]; exact z1.1,s.nx _ _ B1 _ z1.2 (f1.write e1 ho (k5.append (.cons s1 .nil))) g1⟩
def frS (ρ:List Sl) (j:Nat):Sl:=match ρ[j]? with
 | some (.val d)=>.val d
 | some .bag=>.bag
 | _=>.no
theorem Ev.scribble {R:Hp} {W:Addr→Prop} {B H:Hp} {σ:St} {ρ:List Sl} (e:Ev K R W B H σ ρ) {a:Addr} (hr:R a=none) (hb:B a=none) (hm:∀ i,¬ MutAt σ ρ i a) (o:HO):Ev K R W B (upd H a o) σ ρ:=by
 have nw:¬ W a:=fun z=>e.wr a z hr
 refine e.move ⟨fun b q h z=>?_,fun b q h=>?_,e.wb,fun b z=>(e.wh b z).upd (by rintro rfl; exact nw z),e.wr⟩ (Same.refl _) fun i b m=>?_
 ·rw [upd_ne (by rintro rfl; rw [hr] at h; cases h)]; exact e.fr b q h z
 ·rw [upd_ne (by rintro rfl; rw [hb] at h; cases h)]; exact e.bh b q h
 ·have n:b≠a:=by rintro rfl; exact hm i m
  refine ⟨(e.mutOk m).1,fun z=>?_,fun _=>upd_ne n⟩
  obtain ⟨c,c1,_,_,c4⟩:=e.bagAt z
  rw [mut_bag m z] at c1; cases c1
  exact c4.upd n
theorem freeV_get {σ:St} {js:List Nat} {i:Nat} {o:Option V} (h:(freeV σ js)[i]?=some o):∃ j,js[i]?=some j∧o=(σ[j]?).join:=by
 unfold freeV at h
 rw [List.getElem?_map] at h
 cases q:js[i]? with
 | none=>rw [q] at h; cases h
 | some j=>rw [q] at h; exact ⟨j,rfl,(Option.some.inj h).symm⟩
def RefN (K:PySem.W.Frag) (t:TE) (u:List Sl→Prop→Prop):Prop:=∀ (ρ:List Sl) (k:Prop),u ρ k→∀ (R:Hp) (W:Addr→Prop) (B H:Hp) (σ:St) (Q:VK),Ev K R W B H σ ρ →
 (∀ a B' H',k→Ev K R W B' H' σ ρ→Grow R B B'→R a=none→B' a=none→Bag H' a→(∀ i,¬ MutAt σ ρ i a)→Q (.ref a) H')→t σ H Q
def PN3 (X:Cx) (e:Expr) (u:List Sl→Prop→Prop):Prop:=∃ t,PE X e t∧RefN X.K t u
def uCallN (n:Nat) (F:FS) (w:UA):List Sl→Prop→Prop:=fun ρ k=>w ρ fun as=>sh as n=true∧F (as.map Arg.sl) fun r=>r=.bag∧k
theorem n_call {n:Nat} {F:FS} {w:UA} {x:Str} {ps:List Str} {j lv:Nat} (c:Cal X.prog X.w X.K X.mg X.base x ps j (Con X.K n F)) (hr:Room lv X.A) (hg:Gl X x) (ha:PA3 X (e :: es) w) (hjk:j≤lv:=by decide)
  (hdb:(x == ("__debug__" : Str))=false:=by decide) (he:starEach (e :: es) X.env=(false,eval e X.env) :: starEach es X.env:=by rfl) (hpl:(backTo pos (starEach es X.env)).any (·.1)=false:=by rfl) :
  PN3 X (.Call (.Name x p) (e :: es) [] pos) (uCallN n F w):=by
 obtain ⟨_,h1,r1⟩:=ha
 refine ⟨_,pe_cal c hr hg h1 hjk hdb he hpl,fun ρ k h R W B H σ Q e q=>?_⟩
 refine r1 ρ _ h R W B H σ _ e fun as vs B1 H1 z1 e1 g1 s1=>?_
 rw [List.append_nil]
 refine call_ok e1 s1 z1.1 z1.2 fun r v B2 H2 hk e2 g2 res=>?_
 obtain ⟨rfl,hk⟩:=hk
 obtain ⟨a,rfl,f1,f2,f3⟩:=res
 exact q a B2 H2 hk e2 (g1.trans g2) (e1.toWd.fresh f1).1 f2 f3 fun i m=>(e1.mutOk m).2 f1
def uSetN (i:Nat) (u:List Sl→Prop→Prop):US:=fun U ρ=>u ρ (U.nx (ρ.set i .bag))
theorem s_setN {i:Nat} {x:Str} {pos':Pos} {u:List Sl→Prop→Prop} (hN:X.N.Nodup) (hi:X.N[i]?=some x) (hx:Loc X.env.scope x) (he:PN3 X e u) (hs:swapsWith e (some (.Name x pos')) pos.line X.env=pure false:=by rfl) (hf:X.fn x=true∨X.env.scope.names.lookup x=some .local:=by first | exact .inl rfl | exact .inr rfl | assumption) :
  PS3 X (.Assign [.Name x pos'] e pos) (uSetN i u):=by
 obtain ⟨_,h1,r1⟩:=he
 refine ⟨_,ps_set hN hi hx h1 hs hf,fun U ρ h R W B H σ D e s=>?_⟩
 refine r1 ρ _ h R W B H σ _ e fun a B1 H1 z1 e1 g1 f1 f2 f3 f4=>s.nx _ _ B1 H1 z1 (e1.set i ⟨a,rfl,.inr f1,f2,f3⟩ fun b z _ j _=>?_) g1
 cases z
 exact f4 j
end
end L3
namespace L3
open PySem L2
inductive Sh where
 | I | B | N | S | T (ss:List Sh) | L (s:Sh)
mutual
def has:Sh→D→Bool
 | .I,.int _=>true
 | .B,.bl _=>true
 | .N,.non=>true
 | .S,.str _=>true
 | .T ss,.tup xs=>hass ss xs
 | .L s,.lst xs=>xs.all fun x=>has s x
 | _,_=>false
def hass:List Sh→List D→Bool
 | [],[]=>true
 | s :: ss,x :: xs=>has s x && hass ss xs
 | _,_=>false
end
mutual
def dep:Sh→Nat
 | .T ss=>deps ss + 1
 | .L s=>dep s + 1
 | _=>0
def deps:List Sh→Nat
 | []=>0
 | s :: ss=>max (dep s) (deps ss)
end
noncomputable def eqD (x y:D):Bool := @decide (x=y) (Classical.propDecidable _)
theorem eqD_iff {x y:D}:eqD x y=true↔x=y:=by unfold eqD; exact @decide_eq_true_iff _ (Classical.propDecidable _)
theorem eqD_self (x:D):eqD x x=true:=eqD_iff.mpr rfl
theorem eqD_of {x y:D} {b:Bool} (h:b=true↔x=y):eqD x y=b:=by
 rw [Bool.eq_iff_iff,eqD_iff,h]
section
variable {K:PySem.W.Frag} {B:Hp}
theorem has_int {x:D} (h:has .I x=true):∃ i,x=.int i:=by cases x <;> first | exact ⟨_,rfl⟩ | (simp [has] at h)
theorem has_bl {x:D} (h:has .B x=true):∃ i,x=.bl i:=by cases x <;> first | exact ⟨_,rfl⟩ | (simp [has] at h)
theorem has_non {x:D} (h:has .N x=true):x=.non:=by cases x <;> first | rfl | (simp [has] at h)
theorem has_str {x:D} (h:has .S x=true):∃ i,x=.str i:=by cases x <;> first | exact ⟨_,rfl⟩ | (simp [has] at h)
theorem has_tup {x:D} {ss:List Sh} (h:has (.T ss) x=true):∃ xs,x=.tup xs∧hass ss xs=true:=by
 cases x <;> first | exact ⟨_,rfl,by simpa [has] using h⟩ | (simp [has] at h)
theorem has_lst {x:D} {s:Sh} (h:has (.L s) x=true):∃ xs,x=.lst xs∧∀ y∈xs,has s y=true:=by
 cases x <;> first | exact ⟨_,rfl,by simpa [has] using h⟩ | (simp [has] at h)
theorem hass_len:∀ {ss:List Sh} {xs:List D},hass ss xs=true→xs.length=ss.length
 | [],[],_=>rfl
 | [],_ :: _,h=>by simp [hass] at h
 | _ :: _,[],h=>by simp [hass] at h
 | s :: ss,x :: xs,h=>by
  simp [hass] at h
  simp [hass_len h.2]
mutual
theorem rep_fn:∀ (sh:Sh) {x y:D} {v:V},has sh x=true→has sh y=true→Rep K B v x→Rep K B v y→x=y
 | .I,x,y,v,h1,h2,r1,r2=>by
  obtain ⟨i,rfl⟩:=has_int h1; obtain ⟨j,rfl⟩:=has_int h2
  have e:=r1.intV.symm.trans r2.intV
  cases e; rfl
 | .B,x,y,v,h1,h2,r1,r2=>by
  obtain ⟨i,rfl⟩:=has_bl h1; obtain ⟨j,rfl⟩:=has_bl h2
  have e:=r1.blV.symm.trans r2.blV
  cases e; rfl
 | .N,x,y,v,h1,h2,r1,r2=>by rw [has_non h1,has_non h2]
 | .S,x,y,v,h1,h2,r1,r2=>by
  obtain ⟨i,rfl⟩:=has_str h1; obtain ⟨j,rfl⟩:=has_str h2
  cases r1; cases r2; rfl
 | .T ss,x,y,v,h1,h2,r1,r2=>by
  obtain ⟨xs,rfl,q1⟩:=has_tup h1; obtain ⟨ys,rfl,q2⟩:=has_tup h2
  obtain ⟨a,vs,rfl,ha,ra⟩:=r1.tupV
  obtain ⟨b,ws,e,hb,rb⟩:=r2.tupV
  cases e
  rw [ha] at hb; cases hb
  rw [reps_fn ss q1 q2 ra rb]
 | .L s,x,y,v,h1,h2,r1,r2=>by
  obtain ⟨xs,rfl,q1⟩:=has_lst h1; obtain ⟨ys,rfl,q2⟩:=has_lst h2
  obtain ⟨a,vs,rfl,ha,ra⟩:=r1.lstV
  obtain ⟨b,ws,e,hb,rb⟩:=r2.lstV
  cases e
  rw [ha] at hb; cases hb
  have:xs=ys:=by
   apply List.ext_getElem?
   intro i
   cases qx:xs[i]? with
   | none =>
    have:ys[i]?=none:=by
     have h1:=ra.length
     have h2:=rb.length
     have h3:=List.getElem?_eq_none_iff.mp qx
     exact List.getElem?_eq_none_iff.mpr (by lia)
    rw [this]
   | some d =>
    obtain ⟨v,ev,rv⟩:=ra.get qx
    obtain ⟨d',ed,rd⟩:=rb.getV ev
    rw [ed,rep_fn s (q1 d (List.mem_of_getElem? qx)) (q2 d' (List.mem_of_getElem? ed)) rv rd]
  rw [this]
theorem reps_fn:∀ (ss:List Sh) {xs ys:List D} {vs:List V},hass ss xs=true→hass ss ys=true→Reps K B vs xs→Reps K B vs ys→xs=ys
 | [],xs,ys,vs,h1,h2,r1,r2=>by
  have e1:=hass_len h1; have e2:=hass_len h2
  rw [List.length_nil] at e1 e2
  rw [List.eq_nil_of_length_eq_zero e1,List.eq_nil_of_length_eq_zero e2]
 | s :: ss,[],ys,vs,h1,h2,r1,r2=>by simp [hass] at h1
 | s :: ss,x :: xs,[],vs,h1,h2,r1,r2=>by simp [hass] at h2
 | s :: ss,x :: xs,y :: ys,vs,h1,h2,r1,r2=>by
  simp [hass] at h1 h2
  cases r1 with
  | cons a1 b1=>cases r2 with
   | cons a2 b2=>rw [rep_fn s h1.1 h2.1 a1 a2,reps_fn ss h1.2 h2.2 b1 b2]
end
end
section
variable {X:Cx} {pins:List (Addr×Obj)} {σ:St} {H B:Hp} {s:Shared}
theorem all_eqD {xs ys:List D} {n:Nat} {e:Nat→Bool} (hn:n=xs.length) (hl:xs.length=ys.length) (he:∀ j,j < n→(e j=true↔xs[j]?=ys[j]?)):((List.range n).all e)=true↔xs=ys:=by
 rw [List.all_eq_true]
 constructor
 ·intro h
  apply List.ext_getElem?
  intro i
  by_cases hi:i < n
  ·exact (he i hi).mp (h i (List.mem_range.mpr hi))
  ·rw [List.getElem?_eq_none (by lia),List.getElem?_eq_none (by lia)]
 ·rintro rfl j hj
  exact (he j (List.mem_range.mp hj)).mpr rfl
noncomputable def eqO (xs ys:List D) (j:Nat):Bool := @decide (xs[j]?=ys[j]?) (Classical.propDecidable _)
theorem eqO_iff {xs ys:List D} {j:Nat}:eqO xs ys j=true↔xs[j]?=ys[j]?:=by unfold eqO; exact @decide_eq_true_iff _ (Classical.propDecidable _)
theorem eqO_at {xs ys:List D} {j:Nat} {x y:D} (h1:xs[j]?=some x) (h2:ys[j]?=some y):eqO xs ys j=eqD x y:=by
 rw [Bool.eq_iff_iff,eqO_iff,eqD_iff,h1,h2]
 constructor
 ·intro h; exact Option.some.inj h
 ·intro h; rw [h]
structure EqAll (A:Around) (s:Shared) (u w:Value) (x y:D):Prop where
 rc:SeqAt.RcAt A s u w (eqD x y)
 ne:SeqAt.RcNeAt A s u w (!eqD x y)
 eq:SeqAt.EqAt A s u w (eqD x y)
mutual
theorem eq_sh (I:Inv X pins σ H s) (sB:Same B H):∀ (sh:Sh) {A:Around} {x y:D} {v w:V} {u u':Value},has sh x=true→has sh y=true→Rep X.K B v x→Rep X.K B w y→RelV v u→RelV w u'→A.units + dep sh < cLine→EqAll A s u u' x y
 | .I,A,x,y,v,w,u,u',h1,h2,r1,r2,l1,l2,hu=>by
  obtain ⟨i,rfl⟩:=has_int h1; obtain ⟨j,rfl⟩:=has_int h2
  cases r1.intV; cases r2.intV
  obtain ⟨t,rfl⟩:=l1; obtain ⟨t',rfl⟩:=l2
  have e:eqD (.int i) (.int j)=(i == j):=eqD_of (by simp)
  refine ⟨?_,?_,?_⟩ <;> rw [e]
  ·exact SeqAt.RcAt.int_int i t j t'
  ·exact SeqAt.RcNeAt.int_int i t j t'
  ·exact SeqAt.EqAt.int_int i t j t'
 | .B,A,x,y,v,w,u,u',h1,h2,r1,r2,l1,l2,hu=>by
  obtain ⟨i,rfl⟩:=has_bl h1; obtain ⟨j,rfl⟩:=has_bl h2
  cases r1.blV; cases r2.blV
  cases l1; cases l2
  have e:eqD (.bl i) (.bl j)=(i == j):=eqD_of (by simp)
  refine ⟨?_,?_,?_⟩ <;> rw [e]
  ·exact SeqAt.RcAt.bool_bool i j
  ·exact SeqAt.RcNeAt.bool_bool i j
  ·exact SeqAt.EqAt.bool_bool i j
 | .N,A,x,y,v,w,u,u',h1,h2,r1,r2,l1,l2,hu=>by
  cases has_non h1; cases has_non h2
  cases r1.nonV; cases r2.nonV
  cases l1; cases l2
  have e:eqD .non .non=true:=eqD_self _
  refine ⟨?_,?_,?_⟩ <;> rw [e]
  ·exact SeqAt.RcAt.none_none
  ·exact SeqAt.RcNeAt.none_none
  ·exact SeqAt.EqAt.same _
 | .S,A,x,y,v,w,u,u',h1,h2,r1,r2,l1,l2,hu=>by
  obtain ⟨i,rfl⟩:=has_str h1; obtain ⟨j,rfl⟩:=has_str h2
  cases r1; cases r2
  obtain ⟨t,rfl⟩:=l1; obtain ⟨t',rfl⟩:=l2
  have e:eqD (.str i) (.str j)=(i == j):=eqD_of (by simp)
  refine ⟨?_,?_,?_⟩ <;> rw [e]
  ·exact SeqAt.RcAt.str_str i t j t'
  ·exact SeqAt.RcNeAt.str_str i t j t'
  ·exact SeqAt.EqAt.str_str i t j t'
 | .T ss,A,x,y,v,w,u,u',h1,h2,r1,r2,l1,l2,hu=>by
  have r1':=r1
  have r2':=r2
  obtain ⟨xs,rfl,q1⟩:=has_tup h1; obtain ⟨ys,rfl,q2⟩:=has_tup h2
  obtain ⟨a,vs,rfl,ha,ra⟩:=r1.tupV
  obtain ⟨b,ws,rfl,hb,rb⟩:=r2.tupV
  cases l1; cases l2
  obtain ⟨its,k1,t1,_⟩:=I.tuple (SqT.of (sB _ _ ha))
  obtain ⟨its2,k2,t2,_⟩:=I.tuple (SqT.of (sB _ _ hb))
  have d1:dep (.T ss)=deps ss + 1:=by simp [dep]
  have lx:=hass_len q1
  have ly:=hass_len q2
  have z1:=ra.length; have z2:=rb.length; have z3:=k1.length; have z4:=k2.length
  have el:=eqs_sh I sB ss (A:=A.in1) q1 q2 ra rb k1 k2 (by show A.units + 1 + deps ss < cLine; lia)
  have he:∀ j (h1:j < its.toArray.size) (h2:j < its2.toArray.size),SeqAt.EqAt A.in1 s its.toArray[j] its2.toArray[j] (eqO xs ys j):=fun j g1 g2=>by
   have:=el j (by simpa using g1) (by simpa using g2)
   simpa using this
  have e:eqD (.tup xs) (.tup ys)=((List.range (min its.toArray.size its2.toArray.size)).all (eqO xs ys) && its.toArray.size == its2.toArray.size):=by
   refine eqD_of ?_
   have s1:its.toArray.size=xs.length:=by simp; lia
   have s2:its2.toArray.size=xs.length:=by simp; lia
   rw [s1,s2,Nat.min_self,Bool.and_eq_true]
   have:=all_eqD (xs:=xs) (ys:=ys) (n:=xs.length) (e:=eqO xs ys) rfl (by lia) (fun j _=>eqO_iff)
   constructor
   ·intro h; rw [this.mp h.1]
   ·intro h; cases h; exact ⟨this.mpr rfl,by simp⟩
  have rc:SeqAt.RcAt A s (.ref a) (.ref b) (eqD (.tup xs) (.tup ys)):=by rw [e]; exact SeqAt.RcAt.tuples t1 t2 (by lia) he
  refine ⟨rc,by rw [e]; exact SeqAt.RcNeAt.tuples t1 t2 (by lia) he,?_⟩
  by_cases hab:a=b
  ·subst hab
   have:=rep_fn (.T ss) h1 h2 r1' r2'
   rw [this,eqD_self]
   exact SeqAt.EqAt.same _
  ·exact SeqAt.EqAt.of_refs hab rc
 | .L sh,A,x,y,v,w,u,u',h1,h2,r1,r2,l1,l2,hu=>by
  have r1':=r1
  have r2':=r2
  obtain ⟨xs,rfl,q1⟩:=has_lst h1; obtain ⟨ys,rfl,q2⟩:=has_lst h2
  obtain ⟨a,vs,rfl,ha,ra⟩:=r1.lstV
  obtain ⟨b,ws,rfl,hb,rb⟩:=r2.lstV
  cases l1; cases l2
  obtain ⟨its,k1,p1,_⟩:=I.list (SqL.of (sB _ _ ha))
  obtain ⟨its2,k2,p2,_⟩:=I.list (SqL.of (sB _ _ hb))
  have t1:=p1.isList
  have t2:=p2.isList
  have d1:dep (.L sh)=dep sh + 1:=by simp [dep]
  have z1:=ra.length; have z2:=rb.length; have z3:=k1.length; have z4:=k2.length
  have he:∀ j (h1:j < its.toArray.size) (h2:j < its2.toArray.size),SeqAt.EqAt A.in1 s its.toArray[j] its2.toArray[j] (eqO xs ys j):=fun j g1 g2=>by
   have g1':j < its.length:=by simpa using g1
   have g2':j < its2.length:=by simpa using g2
   obtain ⟨v1,e1,rv1⟩:=k1.getR (List.getElem?_eq_getElem g1')
   obtain ⟨v2,e2,rv2⟩:=k2.getR (List.getElem?_eq_getElem g2')
   obtain ⟨c1,f1,rd1⟩:=ra.getV e1
   obtain ⟨c2,f2,rd2⟩:=rb.getV e2
   rw [eqO_at f1 f2]
   have:=(eq_sh I sB sh (A:=A.in1) (q1 c1 (List.mem_of_getElem? f1)) (q2 c2 (List.mem_of_getElem? f2)) rd1 rd2 rv1 rv2 (by show A.units + 1 + dep sh < cLine; lia)).eq
   simpa using this
  by_cases hsz:its.toArray.size=its2.toArray.size
  ·have s1:its.toArray.size=xs.length:=by simp; lia
   have s2:xs.length=ys.length:=by simp at hsz; lia
   have e:eqD (.lst xs) (.lst ys)=(List.range its.toArray.size).all (eqO xs ys):=by
    refine eqD_of ?_
    rw [all_eqD (xs:=xs) (ys:=ys) s1 s2 (fun j _=>eqO_iff)]
    constructor
    ·intro h; rw [h]
    ·intro h; cases h; rfl
   have rc:SeqAt.RcAt A s (.ref a) (.ref b) (eqD (.lst xs) (.lst ys)):=by rw [e]; exact SeqAt.RcAt.lists t1 t2 hsz (by lia) he
   refine ⟨rc,by rw [e]; exact SeqAt.RcNeAt.lists t1 t2 hsz (by lia) he,?_⟩
   by_cases hab:a=b
   ·subst hab
    have:=rep_fn (.L sh) h1 h2 r1' r2'
    rw [this,eqD_self]
    exact SeqAt.EqAt.same _
   ·exact SeqAt.EqAt.of_refs hab rc
  ·have e:eqD (.lst xs) (.lst ys)=false:=eqD_of (by
    constructor
    ·intro h; cases h
    ·intro h; cases h; simp at hsz; lia)
   have hne:(its.toArray.size != its2.toArray.size)=true:=by simpa using hsz
   have rc:SeqAt.RcAt A s (.ref a) (.ref b) (eqD (.lst xs) (.lst ys)):=by rw [e]; exact SeqAt.RcAt.lists_lengths t1 t2 hne (by lia)
   refine ⟨rc,by rw [e]; exact SeqAt.RcNeAt.lists_lengths t1 t2 hne (by lia),?_⟩
   refine SeqAt.EqAt.of_refs (fun hab=>?_) rc
   subst hab
   have:=rep_fn (.L sh) h1 h2 r1' r2'
   cases this
   simp at hsz; lia
theorem eqs_sh (I:Inv X pins σ H s) (sB:Same B H):∀ (ss:List Sh) {A:Around} {xs ys:List D} {vs ws:List V} {us us':List Value},hass ss xs=true→hass ss ys=true→Reps X.K B vs xs→Reps X.K B ws ys→Vals vs us→Vals ws us'→A.units + deps ss < cLine →
  ∀ j (h1:j < us.length) (h2:j < us'.length),SeqAt.EqAt A s us[j] us'[j] (eqO xs ys j)
 | [],A,[],ys,_,_,_,_,h1,h2,.nil,r2,.nil,l2,hu,j,g1,g2=>absurd g1 (by simp)
 | [],A,x :: xs,ys,_,_,_,_,h1,h2,r1,r2,l1,l2,hu,j,g1,g2=>by simp [hass] at h1
 | s :: ss,A,[],ys,vs,ws,us,us',h1,h2,r1,r2,l1,l2,hu,j,g1,g2=>by simp [hass] at h1
 | s :: ss,A,x :: xs,[],vs,ws,us,us',h1,h2,r1,r2,l1,l2,hu,j,g1,g2=>by simp [hass] at h2
 | s :: ss,A,x :: xs,y :: ys,v :: vs,w :: ws,u :: us,u' :: us',h1,h2,.cons a1 b1,.cons a2 b2,.cons c1 d1,.cons c2 d2,hu,0,g1,g2=>by
  have h1':has s x=true:=by simp [hass] at h1; exact h1.1
  have h2':has s y=true:=by simp [hass] at h2; exact h2.1
  have dd:deps (s :: ss)=max (dep s) (deps ss):=by simp [deps]
  have:=(eq_sh I sB s (A:=A) h1' h2' a1 a2 c1 c2 (by lia)).eq
  rw [eqO_at (xs:=x :: xs) (ys:=y :: ys) (j:=0) rfl rfl]
  exact this
 | s :: ss,A,x :: xs,y :: ys,v :: vs,w :: ws,u :: us,u' :: us',h1,h2,.cons a1 b1,.cons a2 b2,.cons c1 d1,.cons c2 d2,hu,j + 1,g1,g2=>by
  have h1':hass ss xs=true:=by simp [hass] at h1; exact h1.2
  have h2':hass ss ys=true:=by simp [hass] at h2; exact h2.2
  have dd:deps (s :: ss)=max (dep s) (deps ss):=by simp [deps]
  have:=eqs_sh I sB ss (A:=A) h1' h2' b1 b2 d1 d2 (by lia) j (by simpa using g1) (by simpa using g2)
  have e:eqO (x :: xs) (y :: ys) (j + 1)=eqO xs ys j:=by
   rw [Bool.eq_iff_iff,eqO_iff,eqO_iff]; simp
  rw [e]
  exact this
end
def rEqD (K:PySem.W.Frag) (ng:Bool):R2:=fun x y H Q=>∃ B d e sh,Rep K B x d∧Rep K B y e∧Same B H∧has sh d=true∧has sh e=true∧dep sh≤50∧Q (.bl (if ng then !eqD d e else eqD d e)) H
theorem op_eqD (hu:X.A.units + 64 < cLine):OpR X (compareOp .Eq) (rEqD X.K false):=by
 intro pins s σ H x y v u Q I rx ry h
 obtain ⟨B,d,e,sh,r1,r2,sB,h1,h2,hd,q⟩:=h
 exact (eq_sh I sB sh (A:=X.A) h1 h2 r1 r2 rx ry (by lia)).rc _ _ _ _ ⟨.bl _,H,I,rfl,q⟩
theorem op_neD (hu:X.A.units + 64 < cLine):OpR X (compareOp .NotEq) (rEqD X.K true):=by
 intro pins s σ H x y v u Q I rx ry h
 obtain ⟨B,d,e,sh,r1,r2,sB,h1,h2,hd,q⟩:=h
 exact (eq_sh I sB sh (A:=X.A) h1 h2 r1 r2 rx ry (by lia)).ne _ _ _ _ ⟨.bl _,H,I,rfl,q⟩
def rInD (K:PySem.W.Frag) (ng:Bool):R2:=fun x y H Q=>∃ B d es sh,Rep K B x d∧(Rep K B y (.lst es)∨Rep K B y (.tup es))∧Same B H∧has sh d=true∧(∀ e∈es,has sh e=true)∧dep sh≤50∧∀ b:Bool,(b=true↔d∈es)→Q (.bl (if ng then !b else b)) H
noncomputable def inE (K:PySem.W.Frag) (B:Hp) (sh:Sh) (d:D) (u:Value):Bool := @decide (∃ v,RelV v u∧Rep K B v d) (Classical.propDecidable _)
theorem inE_iff {K:PySem.W.Frag} {sh:Sh} {d:D} {u:Value}:inE K B sh d u=true↔∃ v,RelV v u∧Rep K B v d:=by unfold inE; exact @decide_eq_true_iff _ (Classical.propDecidable _)
theorem relV_fn {v w:V} {u:Value} (h1:RelV v u) (h2:RelV w u):v=w:=by
 cases v <;> cases w <;> simp only [RelV] at h1 h2 <;> first
  | rfl
  | (obtain ⟨t,rfl⟩:=h1; obtain ⟨t',e⟩:=h2; cases e; rfl)
  | (obtain ⟨t,rfl⟩:=h1; obtain ⟨t',e⟩:=h2; cases e; done)
  | (obtain ⟨t,rfl⟩:=h1; cases h2; done)
  | (obtain ⟨t,rfl⟩:=h2; cases h1; done)
  | (subst h1; cases h2; rfl)
  | (subst h1; cases h2; done)
theorem in_any {K:PySem.W.Frag} {sh:Sh} {d:D} {vs:List V} {es:List D} {its:List Value} (h1:has sh d=true) (h2:∀ e∈es,has sh e=true) (r:Reps K B vs es) (l:Vals vs its):its.toArray.any (inE K B sh d)=true↔d∈es:=by
 rw [show its.toArray.any (inE K B sh d)=its.any (inE K B sh d) by simp,List.any_eq_true]
 constructor
 ·rintro ⟨u,hu,z⟩
  obtain ⟨v,lv,rv⟩:=inE_iff.mp z
  obtain ⟨j,hj⟩:=List.getElem?_of_mem hu
  obtain ⟨w,ew,lw⟩:=l.getR hj
  cases relV_fn lv lw
  obtain ⟨e,ee,re⟩:=r.getV ew
  have me:=List.mem_of_getElem? ee
  rw [rep_fn sh h1 (h2 e me) rv re]
  exact me
 ·intro m
  obtain ⟨j,hj⟩:=List.getElem?_of_mem m
  obtain ⟨v,ev,rv⟩:=r.get hj
  obtain ⟨u,eu,lu⟩:=l.get ev
  exact ⟨u,List.mem_of_getElem? eu,inE_iff.mpr ⟨v,lu,rv⟩⟩
theorem in_each (I:Inv X pins σ H s) (sB:Same B H) {A:Around} {sh:Sh} {d:D} {vs:List V} {es:List D} {its:List Value} {x:V} {v:Value} (h1:has sh d=true) (h2:∀ e∈es,has sh e=true) (rx:Rep X.K B x d) (lx:RelV x v) (r:Reps X.K B vs es) (l:Vals vs its)
  (hu:A.units + dep sh < cLine):∀ y,y∈its.toArray→SeqAt.EqAt A s y v (inE X.K B sh d y):=fun y hy=>by
 obtain ⟨j,hj⟩:=List.getElem?_of_mem (show y∈its by simpa using hy)
 obtain ⟨w,ew,lw⟩:=l.getR hj
 obtain ⟨e,ee,re⟩:=r.getV ew
 have he:=h2 e (List.mem_of_getElem? ee)
 have q:=(eq_sh I sB sh (A:=A) he h1 re rx lw lx hu).eq
 have z:eqD e d=inE X.K B sh d y:=eqD_of (by
  rw [inE_iff]
  constructor
  ·rintro ⟨v',l',r'⟩
   cases relV_fn l' lw
   exact rep_fn sh he h1 re r'
  ·rintro rfl
   exact ⟨w,lw,re⟩)
 rw [← z]
 exact q
theorem op_inD (hu:X.A.units + 64 < cLine):OpR X (compareOp .In) (rInD X.K false):=by
 intro pins s σ H x y v u Q I rx ry h
 obtain ⟨B,d,es,sh,r1,r2,sB,h1,h2,hd,q⟩:=h
 rcases r2 with r2 | r2
 ·obtain ⟨a,vs,rfl,ha,rs⟩:=r2.lstV
  cases ry
  obtain ⟨its,k1,p1,_⟩:=I.list (SqL.of (sB _ _ ha))
  exact SeqAt.in_listAt (inE X.K B sh d) p1.isList (in_each I sB (A:=X.A.in1) h1 h2 r1 rx rs k1 (by show X.A.units + 1 + _ < cLine; lia)) ⟨.bl _,H,I,rfl,q _ (in_any h1 h2 rs k1)⟩
 ·obtain ⟨a,vs,rfl,ha,rs⟩:=r2.tupV
  cases ry
  obtain ⟨its,k1,p1,_⟩:=I.tuple (SqT.of (sB _ _ ha))
  exact SeqAt.in_tupleAt (inE X.K B sh d) p1 (in_each I sB (A:=X.A.in1) h1 h2 r1 rx rs k1 (by show X.A.units + 1 + _ < cLine; lia)) ⟨.bl _,H,I,rfl,q _ (in_any h1 h2 rs k1)⟩
end
section
variable {K:PySem.W.Frag} {X:Cx} {a b:Expr} {ua ub:UE} {pos:Pos}
def uEq (ng:Bool) (ua ub:UE):UE:=fun ρ k=>ua ρ fun x=>ub ρ fun y=>∃ sh,has sh x=true∧has sh y=true∧dep sh≤50∧k (.bl (if ng then !eqD x y else eqD x y))
def uIn (ng:Bool) (ua ub:UE):UE:=fun ρ k=>ua ρ fun x=>ub ρ fun y=>∃ sh es,(y=.lst es∨y=.tup es)∧has sh x=true∧(∀ e∈es,has sh e=true)∧dep sh≤50∧∀ b:Bool,(b=true↔x∈es)→k (.bl (if ng then !b else b))
theorem refEq {ta tb:TE} {ng:Bool} (ha:RefE K ta ua) (hb:RefE K tb ub):RefE K (tOp (rEqD K ng) ta tb) (uEq ng ua ub) :=
 ref2 ha hb fun x y k h R W B H σ ρ v w Q e rx ry q=>by
  obtain ⟨sh,h1,h2,hd,hk⟩:=h
  exact ⟨B,x,y,sh,rx,ry,e.bh,h1,h2,hd,q _ _ B H hk e (Grow.refl _ _) (.bl _)⟩
theorem refIn {ta tb:TE} {ng:Bool} (ha:RefE K ta ua) (hb:RefE K tb ub):RefE K (tOp (rInD K ng) ta tb) (uIn ng ua ub) :=
 ref2 ha hb fun x y k h R W B H σ ρ v w Q e rx ry q=>by
  obtain ⟨sh,es,hy,h1,h2,hd,hk⟩:=h
  refine ⟨B,x,es,sh,rx,?_,e.bh,h1,h2,hd,fun b hb=>q _ _ B H (hk b hb) e (Grow.refl _ _) (.bl _)⟩
  rcases hy with rfl | rfl
  ·exact .inl ry
  ·exact .inr ry
theorem t_eq (hu:X.A.units + 64 < cLine) (ha:PE3 X a ua) (hb:PE3 X b ub) (hm:behindInMarks .Eq b=false):PT3 X (.Compare a [.Eq] [b] pos) (uB (uEq false ua ub)):=by
 obtain ⟨_,h1,r1⟩:=ha; obtain ⟨_,h2,r2⟩:=hb
 exact ⟨_,pt_cmpR (op_eqD hu) h1 h2 hm,refB (refEq r1 r2)⟩
theorem t_ne (hu:X.A.units + 64 < cLine) (ha:PE3 X a ua) (hb:PE3 X b ub) (hm:behindInMarks .NotEq b=false):PT3 X (.Compare a [.NotEq] [b] pos) (uB (uEq true ua ub)):=by
 obtain ⟨_,h1,r1⟩:=ha; obtain ⟨_,h2,r2⟩:=hb
 exact ⟨_,pt_cmpR (op_neD hu) h1 h2 hm,refB (refEq r1 r2)⟩
theorem e_in (hu:X.A.units + 64 < cLine) (ha:PE3 X a ua) (hb:PE3 X b ub) (hm:behindInMarks .In b=false):PE3 X (.Compare a [.In] [b] pos) (uIn false ua ub):=by
 obtain ⟨_,h1,r1⟩:=ha; obtain ⟨_,h2,r2⟩:=hb
 exact ⟨_,pe_cmpR (op_inD hu) h1 h2 hm,refIn r1 r2⟩
end
end L3
namespace L3
open PySem L2
open PySem.Builtin.Int (intBits)
theorem law_def3 {K:PySem.W.Frag} {P:Program} {w:World} {mg:Str→Option Value} {base:Heap} {x qual:Str} {st:Stmt} {f:Addr} {fd:FuncData} {N ps:List Str} {lv n:Nat} {F:FS} (Fd:Fun K x qual st f fd) (S:FnScope N ps (defScope st)) (hn:ps.length=n)
  (hbody:∀ (cdv:Value) (A:Around) (outer:List PySem.Env) (s:Shared) (H:Hp) (E:XK),Room lv (A.deeper (PyProof.Rows.envOfC qual (defScope st) s.heap.objs.size f cdv)) →
   ∃ u,PSs3 (cxOf CX0 P w K mg base N qual (defScope st) f cdv A outer s H E).nox (defBody st) u∧∀ as k,as.length=n→F as k→u { nx:=fun _=>k (.val .non),rt:=k } (as ++ List.replicate (N.length - n) .no)):FnOk P w K mg base CX0 (lv + 1) f fd ps (Con K n F):=by
 refine Fd.ok S (fun vs H Q E h=>?_) (fun cdv A outer s H vs Q E hr h=>?_)
 ·obtain ⟨W,B,as,k,_,hl,_,_,_,ai,_⟩:=h
  rw [ai.length,hl,hn]
 ·obtain ⟨W,B,as,k,hF,hl,hb,sB,hw,ai,q⟩:=h
  obtain ⟨u,⟨t,ht,rt⟩,hu⟩:=hbody cdv A outer s H E hr
  have ev:=Ev.start (N:=N) (Nat.le_of_ble_eq_true hb) sB hw ai
  rw [hl] at ev
  refine ⟨t,ht,rt _ _ (hu as k hl hF) H W B H (L2.start N vs) _ ev ⟨fun ρ σ B' H' h e g=>?_,fun _ _ _ _ h=>h.elim,fun _ _ _ _ h=>h.elim,fun r v B' H' h e g z=>q r v B' H' h ⟨e,g,z⟩⟩⟩
  exact q _ _ B' H' h ⟨e.toWd,g,.non⟩
def spLaw (K:PySem.W.Frag):Sp:=fun vs H Q _=>∃ (a:Addr) (ns:List Int),vs=[.ref a]∧SqL K H a (ns.map V.int)∧ns.length≤63∧∀ H',Q (.bl true) H'
def F_law:FS:=fun as k=>∃ ns:List Int,as=[.val (.scr ns)]∧ns.length≤63∧k (.val (.bl true))
theorem law_con {K:PySem.W.Frag} {vs:List V} {H:Hp} {Q:VK} {E:XK} (h:spLaw K vs H Q E):Con K 1 F_law vs H Q E:=by
 obtain ⟨a,ns,rfl,hS,hl,q⟩:=h
 refine ⟨fun _=>False,H,[.val (.scr ns)],fun r=>r=.val (.bl true),⟨ns,rfl,hl,rfl⟩,rfl,rfl,Same.refl _,fun _ z=>z.elim,.val (.scr hS) .nil,fun r v B' H' hr ex=>?_⟩
 subst hr
 have:=ex.res
 rw [Rep.blV this]
 exact q H'
def spCell (K:PySem.W.Frag):Sp:=fun vs H Q _=>∃ (a:Addr) (k:Int) (ns:List Int),vs=[.ref a,.int k]∧SqL K H a (ns.map V.int)∧0≤k∧∀ z,Q (.int z) H
def F_cell:FS:=fun as k=>∃ (ns:List Int) (i:Int),as=[.val (.scr ns),.val (.int i)]∧0≤i∧∀ z:Int,k (.val (.int z))
theorem Wd.entry {H B:Hp} {W:Addr→Prop} (sB:Same B H) (hw:∀ a,W a→B a=none∧Bag H a):Wd H W B H :=
 ⟨fun _ _ h _=>h,sB,fun a h=>(hw a h).1,fun a h=>(hw a h).2,fun a h=>by obtain ⟨x,y,q,_⟩:=(hw a h).2; rw [q]; simp⟩
theorem cell_con {K:PySem.W.Frag} {vs:List V} {H:Hp} {Q:VK} {E:XK} (h:Con K 2 F_cell vs H Q E):spCell K vs H Q E:=by
 obtain ⟨W,B,as,k,⟨ns,i,rfl,hi,hk⟩,hl,hb,sB,hw,ai,q⟩:=h
 cases ai with
 | val r1 ai=>cases ai with
  | val r2 ai =>
   cases ai
   obtain ⟨a,rfl,ha⟩:=r1.scrV
   cases r2.intV
   exact ⟨a,i,ns,rfl,sB.seq ha,hi,fun z=>q _ _ B H (hk z) ⟨Wd.entry sB hw,Grow.refl _ _,.int z⟩⟩
def spBag:Sp:=fun vs H Q _=>∃ c:Int,vs=[.int c]∧∀ (b:Addr) (x y:Int),H b=none→0≤x→0≤y→y < 2147483647→Q (.ref b) (upd H b (.lst [.int x,.int y]))
def F_bag:FS:=fun as k=>∃ c:Int,as=[.val (.int c)]∧k .bag
theorem bag_con {K:PySem.W.Frag} {vs:List V} {H:Hp} {Q:VK} {E:XK} (h:Con K 1 F_bag vs H Q E):spBag vs H Q E:=by
 obtain ⟨W,B,as,k,⟨c,rfl,hk⟩,hl,hb,sB,hw,ai,q⟩:=h
 cases ai with
 | val r1 ai =>
  cases ai
  cases r1.intV
  refine ⟨c,rfl,fun b x y hn x0 y0 y1=>?_⟩
  have wd:=Wd.entry sB hw
  exact q .bag _ B _ hk ⟨wd.allocH hn _,Grow.refl _ _,b,rfl,hn,(wd.fresh hn).2.2,x,y,upd_same,x0,y0,y1⟩
def spDraw (lim:Nat):Sp:=fun vs H Q _=>∃ (b:Addr) (m:Int),vs=[.ref b,.int m]∧Bag H b∧0 < m∧intBits m≤lim∧∀ (r:Int) (H':Hp),Ext b H H'→Bag H' b→0≤r→r < m→Q (.int r) H'
def F_draw (lim:Nat):FS:=fun as k=>∃ m:Int,as=[.bag,.val (.int m)]∧0 < m∧intBits m≤lim∧∀ r:Int,0≤r→r < m→k (.val (.int r))
theorem draw_con {K:PySem.W.Frag} {lim:Nat} {vs:List V} {H:Hp} {Q:VK} {E:XK} (h:Con K 2 (F_draw lim) vs H Q E):spDraw lim vs H Q E:=by
 obtain ⟨W,B,as,k,⟨m,rfl,m0,mb,hk⟩,hl,hb,sB,hw,ai,q⟩:=h
 cases ai with
 | bag hW ai=>cases ai with
  | val r2 ai =>
   cases ai
   cases r2.intV
   rename_i b
   refine ⟨b,m,rfl,(hw b hW).2,m0,mb,fun r H' ex bg r0 r1=>?_⟩
   have wd:=Wd.entry sB hw
   refine q _ _ B H' (hk r r0 r1) ⟨⟨fun a o h1 h2=>ex a o (by rintro rfl; exact h2 hW) h1,fun a o h1=>ex a o (by rintro rfl; rw [(hw _ hW).1] at h1; cases h1) (sB a o h1),wd.wb,fun a z=>?_,wd.wr⟩,Grow.refl _ _,.int r⟩
   by_cases e:a=b
   ·subst e; exact bg
   ·obtain ⟨x,y,h1,h2⟩:=(hw a z).2
    exact ⟨x,y,ex a _ e h1,h2⟩
theorem neIf {x y:D} {A B:Prop} (h1:x≠y→A) (h2:x=y→B):if (!eqD x y)=true then A else B:=by
 by_cases h:x=y
 ·rw [eqD_iff.mpr h]; exact h2 h
 ·have:eqD x y=false:=by
   cases q:eqD x y with
   | false=>rfl
   | true=>exact absurd (eqD_iff.mp q) h
  rw [this]; exact h1 h
theorem at3 {u:US} {U:UEnds} {ρ r:List Sl} (e:ρ=r) (h:u U r):u U ρ:=by rw [e]; exact h
theorem pass4 {s t:US} {U:UEnds} {ρ:List Sl} (first:∀ N:List Sl→Prop,N ρ→s { U with nx:=N } ρ) (rest:t U ρ):uSeq s t U ρ:=first (t U) rest
theorem mid4 {s t:US} {U:UEnds} {ρ:List Sl} (I:List Sl→Prop) (rest:∀ ρ',I ρ'→t U ρ') (first:∀ N:List Sl→Prop,(∀ ρ',I ρ'→N ρ')→s { U with nx:=N } ρ):uSeq s t U ρ:=first _ rest
theorem forR_inv {g:UG} {s:US} {U:UEnds} (I:Nat→List Sl→Prop):∀ {ds:List D} {n:Nat} {ρ:List Sl},I n ρ →
  (∀ i d ρ,ds[i]?=some d→I (n + i) ρ→g d ρ fun ρ'=>∀ N:List Sl→Prop,(∀ ρ'',I (n + i + 1) ρ''→N ρ'')→s { U with nx:=N,ct:=N,bk:=U.nx } ρ') →
  (∀ ρ,I (n + ds.length) ρ→U.nx ρ)→(∀ d ρ (k k':List Sl→Prop),(∀ r,k r→k' r)→g d ρ k→g d ρ k')→forR g s U ds ρ
 | [],n,ρ,h0,_,h2,_=>h2 ρ h0
 | d :: ds,n,ρ,h0,h1,h2,hg=>by
  refine hg d ρ _ _ (fun ρ' z=>z _ fun ρ'' q=>?_) (h1 0 d ρ rfl h0)
  exact forR_inv I (n:=n + 1) q (fun i e ρ he hi=>by
   have:=h1 (i + 1) e ρ (by simpa using he) (by rw [show n + (i + 1)=n + 1 + i by lia]; exact hi)
   rw [show n + (i + 1) + 1=n + 1 + i + 1 by lia] at this
   exact this) (fun ρ h=>h2 ρ (by rw [List.length_cons,show n + (ds.length + 1)=n + 1 + ds.length by lia]; exact h)) hg
theorem forR_ints {s:US} {U:UEnds} {n:Nat} (I:List Sl→Prop):∀ {ds:List D} {ρ:List Sl},I ρ→(∀ d∈ds,∃ c:Int,d=.int c) →
  (∀ (c:Int) ρ,I ρ→∀ N:List Sl→Prop,(∀ r,I r→N r)→s { U with nx:=N,ct:=N,bk:=U.nx } (ρ.set n (.val (.int c))))→(∀ ρ,I ρ→U.nx ρ)→forR (ugName n) s U ds ρ
 | [],ρ,h0,_,_,h2=>h2 ρ h0
 | d :: ds,ρ,h0,hd,h1,h2=>by
  obtain ⟨c,rfl⟩:=hd d List.mem_cons_self
  exact h1 c ρ h0 _ fun r hr=>forR_ints I hr (fun e he=>hd e (List.mem_cons_of_mem _ he)) h1 h2
theorem cutL_length {α:Type} (xs:List α) (lo hi:Option Int):(cutL xs lo hi).length≤xs.length:=by
 unfold cutL
 rw [List.length_take,List.length_drop]
 lia
theorem cutL_mem {α:Type} {xs:List α} {lo hi:Option Int} {x:α} (h:x∈cutL xs lo hi):x∈xs:=List.mem_of_mem_drop (List.mem_of_mem_take h)
theorem law_items {z:Int} {ns:List Int} {lo hi:Option Int}:∀ d∈[D.int z] ++ cutL (ns.map D.int) lo hi,∃ c:Int,d=.int c:=fun d hd=>by
 rcases List.mem_append.mp hd with h | h
 ·exact ⟨z,by simpa using h⟩
 ·obtain ⟨i,_,e⟩:=List.mem_map.mp (cutL_mem h)
  exact ⟨i,e.symm⟩
theorem law_len {z:Int} {ns:List Int} {lo hi:Option Int} (h:ns.length≤63):[D.int z].length + (cutL (ns.map D.int) lo hi).length≤sizeLine:=by
 have h1:=cutL_length (ns.map D.int) lo hi
 rw [List.length_map] at h1
 have:64≤sizeLine:=by decide
 simp only [List.length_singleton]
 lia
end L3
namespace L3
open PySem L2
section
variable {X:Cx}
theorem fsub_of {cl cs:List (Str×Addr)} (h:∀ p∈cl,cs.lookup p.1=some p.2):∀ y c,cl.lookup y=some c→cs.lookup y=some c:=fun y c e=>h (y,c) (PySem.mem_of_lookup e)
theorem fhas_b {names:List (Str×NameKind)} {cl:List (Str×Addr)} (h:(names.all fun p => !(p.2 == .cell || p.2 == .free) || (cl.lookup p.1).isSome)=true):∀ y,(names.lookup y=some .cell∨names.lookup y=some .free)→∃ c,cl.lookup y=some c:=fun y e=>by
 have key:∀ k:NameKind,(k == .cell || k == .free)=true→names.lookup y=some k→∃ c,cl.lookup y=some c:=fun k hk e=>by
  have q:=List.all_eq_true.mp h (y,k) (PySem.mem_of_lookup e)
  have q:(!(k == .cell || k == .free) || (cl.lookup y).isSome)=true:=q
  rw [hk] at q
  exact Option.isSome_iff_exists.mp (by simpa using q)
 rcases e with e | e
 ·exact key _ rfl e
 ·exact key _ rfl e
end
end L3
namespace L2
open PySem PySem.Spec PyProof.Rows
def PIfs (X:Cx) (ifs:List Expr) (tt:TT):Prop:=∀ (pins:List (Addr×Obj)) (s:Shared) (σ:St) (H:Hp) (Q:Bool→Hp→Prop),Inv X pins σ H s→tt σ H Q →
 wpAny (model X.prog X.w) X.A (forIn ifs true fun t r=>if r=true then do let z ← isTrue t X.env (eval t X.env); pure (ForInStep.yield z) else pure (ForInStep.yield r)) (TP X pins σ Q) X.xe s
def tTrue:TT:=fun _ H Q=>Q true H
theorem pifs_nil {X:Cx}:PIfs X [] tTrue:=fun _ _ _ H _ I h=>wpAny_tests_nil ⟨H,I,h⟩
theorem pifs_one {X:Cx} {c:Expr} {tt:TT} (h:PT X c tt):PIfs X [c] tt:=fun pins s σ H Q I q=>wpAny_tests_one (h pins s σ H Q I q)
def CompG (J:It) (g:TG) (tt:TT) (te:TE) (σ0:St) (D:Addr) (H1:Hp) (Q:VK):Prop:=∃ W:Nat→Nat→St→Hp→Prop,(∃ m,W 0 m σ0 (upd H1 D (.lst [])))∧∀ i m σ H,W i m σ H →
 (J.stop i H∧Q (.ref D) H)∨(J.go i H∧∀ x H',J.yld i H x H'→g x σ H' fun σ2 H2=>tt σ2 H2 fun b H3=>if b=true then te σ2 H3 fun y H4=>∃ ys,H4 D=some (.lst ys)∧ys.length < sizeLine∧∃ m',m' < m∧W (i + 1) m' σ2 (upd H4 D (.lst (ys ++ [y]))) else ∃ m',m' < m∧W (i + 1) m' σ2 H3)
def tCompG (wi:TI) (g:TG) (tt:TT) (te:TE) (nt:Nat) (js:List Nat):TE:=fun σ H Q=>wi σ H fun J H1=>∀ D,H1 D=none→CompG J g tt te (List.replicate nt none ++ freeV σ js) D H1 Q
abbrev TM:=St→Hp→(St→Hp→Prop)→Prop
def EmOk (Y:Cx) (em':Sem Fin→Sem Fin) (em:TM):Prop:=∀ (pins:List (Addr×Obj)) (s:Shared) (σ:St) (H:Hp) (Q:St→Hp→Prop) (k:Sem Fin) (R:Fin→Shared→Prop) (E:Value→Shared→Prop),Inv Y pins σ H s→em σ H Q →
 (∀ s' σ' H',Inv Y pins σ' H' s'→Q σ' H'→wpAny (model Y.prog Y.w) Y.A k R E s')→wpAny (model Y.prog Y.w) Y.A (em' k) R E s
def turnF (e:Expr) (d:Nat) (tg src:Expr) (ifs:List Expr) (em':Sem Fin→Sem Fin) (it acc:Value) (env:PySem.Env):Sem Fin :=
 standAt src.pos >>= fun _=>pyNext it >>= fun r=>match r with
  | none=>pure (Fin.done .next)
  | some v=>letOwnedTupleGo tg it v >>= fun _=>assign tg env v >>= fun _ =>
   (forIn ifs true fun t r=>if r=true then do let z ← isTrue t env (eval t env); pure (ForInStep.yield z) else pure (ForInStep.yield r)) >>= fun ok =>
    if ok=true then em' (again (.compLoop e d it acc env)) else again (.compLoop e d it acc env)
def emE' (elt:Expr) (acc:Value) (env:PySem.Env) (k:Sem Fin):Sem Fin:=(eval elt env >>= fun x=>call (.builtin "list.append") [acc,x] >>= fun _=>pure ()) >>= fun _=>k
section
variable {Y:Cx} {elt tg src:Expr} {gens:List Comprehension} {ifs:List Expr} {sc:Scope} {ps:Pos} {d:Nat} {acc:Value} {wi:TI} {g:TG} {tt:TT} {te:TE} {em:TM} {em':Sem Fin→Sem Fin}
def emE (te:TE) (D:Addr):TM:=fun σ H Q=>te σ H fun y H4=>∃ ys,H4 D=some (.lst ys)∧ys.length < sizeLine∧Q σ (upd H4 D (.lst (ys ++ [y])))
def Lp (J:It) (g:TG) (tt:TT) (em:TM) (W:Nat→Nat→St→Hp→Prop) (QS:St→Hp→Prop):Prop:=∀ i m σ H,W i m σ H →
 (J.stop i H∧QS σ H)∨(J.go i H∧∀ x H',J.yld i H x H'→g x σ H' fun σ2 H2=>tt σ2 H2 fun b H3=>if b=true then em σ2 H3 fun σ4 H4=>∃ m',m' < m∧W (i + 1) m' σ4 H4 else ∃ m',m' < m∧W (i + 1) m' σ2 H3)
theorem loop_em {it:Addr} {J:It} {fp:List Addr} {tn:Nat→Heap→Prop} (ht:compTurn (.ListComp elt gens sc ps) d (.ref it) acc Y.env=turnF (.ListComp elt gens sc ps) d tg src ifs em' (.ref it) acc Y.env) (T:Turn Y.prog Y.w Y.K tg J fp it tn) (hx:∀ e s,¬ Y.xe e s) (hc:Y.calm=true) (hg:PG Y tg g) (hts:PIfs Y ifs tt) (hem:EmOk Y em' em)
  {pins:List (Addr×Obj)} {W:Nat→Nat→St→Hp→Prop} {QS:St→Hp→Prop} {m0:Nat} {s:Shared} {σ:St} {H:Hp} (I:Inv Y pins σ H s) (st:tn 0 s.heap) (fr:∀ b∈fp,FpOk Y pins H b) (w0:W 0 m0 σ H) (turn:Lp J g tt em W QS) {R:Result→Shared→Prop} (hR:∀ s' σ' H',Inv Y pins σ' H' s'→QS σ' H'→R (.ok .next) s') :
  codeAny (model Y.prog Y.w) Y.A (.compLoop (.ListComp elt gens sc ps) d (.ref it) acc Y.env) R s:=by
 have stat:∀ {H':Hp},(∀ b∈fp,H' b=none)→∀ b∈fp,FpOk Y pins H' b:=fun hn b hb=>⟨hn b hb,(fr b hb).2⟩
 refine codeAny_loop rfl (fun n s'=>∃ i σ' H',Inv Y pins σ' H' s'∧tn i s'.heap∧(∀ b∈fp,H' b=none)∧W i n σ' H') (fun n s5 hv=>?_) m0 ⟨0,σ,H,I,st,fun b hb=>(fr b hb).1,w0⟩
 show wpAny _ Y.A (Sem.onRaise (compTurn (.ListComp elt gens sc ps) d (.ref it) acc Y.env) _) _ _ s5
 rw [ht]
 unfold turnF
 refine wpAny_noted (wpAny_bind (wpAny_standAt (wpAny_bind ?_)))
 obtain ⟨i,σ5,H5,I5,st5,fr5,w5⟩:=hv
 rcases turn i n σ5 H5 w5 with ⟨stop,q⟩ | ⟨go,step⟩
 ·refine wpAny_mono (T.done Y rfl rfl rfl hc i pins s5 σ5 H5 (fun _ _=>False) I5 (stat fr5) st5 stop) (fun r s6 ⟨hr,I6⟩=>?_) (fun _ _ z=>z.elim)
  subst hr
  exact wpAny_pure (hR _ _ _ I6 q)
 ·refine wpAny_mono (T.item Y rfl rfl rfl hc i pins s5 σ5 H5 (fun _ _=>False) I5 (stat fr5) st5 go) (fun r s6 ⟨u,hr,h6⟩=>?_) (fun _ _ z=>z.elim)
  subst hr
  refine wpAny_bind (wpAny_mono h6 (fun _ s7 ⟨v,H7,I7,r7,y7,st7,fr7⟩=>?_) (fun _ _ z=>z.elim))
  have I7':=I7.pinned (stat fr7) (T.obj _ _ st7)
  have back:∀ {s9:Shared} {σ9:St} {H9:Hp} {n':Nat},Inv Y (pins ++ pinsAt fp s7.heap) σ9 H9 s9→W (i + 1) n' σ9 H9→∃ i σ' H',Inv Y pins σ' H' s9∧tn i s9.heap∧(∀ b∈fp,H' b=none)∧W i n' σ' H':=fun {s9 σ9 H9 n'} I9 w9=>by
   refine ⟨i + 1,σ9,H9,I9.unpinned,T.keep _ _ _ st7 fun b hb oo ee=>(I9.pin (b,oo) (List.mem_append_right _ (List.mem_append_right _ (mem_pinsAt hb ee)))).1,fun b hb=>?_,w9⟩
   obtain ⟨oo,ee,_⟩:=T.obj _ _ st7 b hb
   exact (I9.pin (b,oo) (List.mem_append_right _ (List.mem_append_right _ (mem_pinsAt hb ee)))).2.1
  refine wpAny_bind (wpAny_mono (hg _ s7 σ5 H7 v u _ I7' r7 (step v H7 y7)) (fun _ s8 ⟨σ8,H8,I8,q8⟩=>?_) (fun _ _ z=>(hx _ _ z).elim))
  refine wpAny_bind (wpAny_mono (hts _ s8 σ8 H8 _ I8 q8) (fun b s9 ⟨H9,I9,q9⟩=>?_) (fun _ _ z=>(hx _ _ z).elim))
  cases b with
  | false =>
   rw [if_neg Bool.false_ne_true] at q9 ⊢
   obtain ⟨m',lm,w9⟩:=q9
   exact wpAny_pure ⟨rfl,m',lm,back I9 w9⟩
  | true =>
   rw [if_pos rfl] at q9 ⊢
   refine hem _ s9 σ8 H9 _ _ _ _ I9 q9 fun s' σ' H' I' q'=>?_
   obtain ⟨m',lm,w9⟩:=q'
   exact wpAny_pure ⟨rfl,m',lm,back I' w9⟩
theorem em_elt {D:Addr} (he:PE Y elt te) (hx:∀ e s,¬ Y.xe e s):EmOk Y (emE' elt (.ref D) Y.env) (emE te D):=by
 intro pins s σ H Q k R E I h hk
 unfold emE'
 refine wpAny_bind (wpAny_bind (wpAny_mono (he pins s σ H _ I h) (fun yv s10 ⟨y,H10,I10,r10,ys,e10,l10,q10⟩=>?_) (fun _ _ z=>(hx _ _ z).elim)))
 have mt:=mt_append (X:=Y) pins s10 σ H10 (.ref D) [y] (.ref D) [yv] (fun _ H'=>H'=upd H10 D (.lst (ys ++ [y]))) I10 rfl (.cons r10 .nil) ⟨D,ys,y,rfl,rfl,e10,l10,rfl⟩
 refine wpAny_bind (wpAny_mono mt (fun _ s11 ⟨_,H11,I11,_,e11⟩=>?_) (fun _ _ z=>(hx _ _ z).elim))
 subst e11
 exact wpAny_pure (hk _ _ _ I11 q10)
end
section
variable {X:Cx}
structure FreeOk (X:Cx) (scope:Scope) (cl:List (Str×Addr)) (fr:List Str) (js:List Nat):Prop where
 clos:closureFor scope X.env=pure cl
 cell:∀ y∈scope.names,y.2≠.cell
 kind:scope.kind=.function
 names:∀ y∈scope.names,y.2=.local→scope.names.lookup y.1=some .local
 sub:∀ y c,cl.lookup y=some c→X.env.cells.lookup y=some c
 has:∀ y,((relabel scope X.env).names.lookup y=some .cell∨(relabel scope X.env).names.lookup y=some .free)→∃ c,cl.lookup y=some c
 frn:∀ (i:Nat) (y:Str),fr[i]?=some y→∃ j:Nat,js[i]?=some j∧X.N[j]?=some y∧X.env.kindOf y=some .cell∧((relabel scope X.env).names.lookup y=some .cell∨(relabel scope X.env).names.lookup y=some .free)∧∃ c,cl.lookup y=some c
 len:js.length=fr.length
end
def CompM (J:It) (g:TG) (tt:TT) (em:Addr→TM) (σ0:St) (D:Addr) (H1:Hp) (Q:VK):Prop:=∃ W:Nat→Nat→St→Hp→Prop,(∃ m,W 0 m σ0 (upd H1 D (.lst [])))∧Lp J g tt (em D) W fun _ H=>Q (.ref D) H
def tCompM (wi:TI) (g:TG) (tt:TT) (em:Addr→TM) (nt:Nat) (js:List Nat):TE:=fun σ H Q=>wi σ H fun J H1=>∀ D,H1 D=none→CompM J g tt em (List.replicate nt none ++ freeV σ js) D H1 Q
section
variable {X:Cx}
theorem comp_blockM {elt iter tg:Expr} {rest:List Comprehension} {ifs:List Expr} {pos:Pos} {scope:Scope} {cl:List (Str×Addr)} {ts fr:List Str} {js:List Nat} {wi:TI} {g:TG} {tt:TT} {em:Addr→TM} {em':Value→PySem.Env→Sem Fin→Sem Fin} {use:Option (Value→Sem Unit)} {RQ:Value→Shared→Prop} {QE:VK}
  (hi:PI X tg iter wi) (hg:∀ C s H ex,PG (compCx X (ts ++ fr) scope cl C s H ex) tg g) (hts:∀ C s H ex,PIfs (compCx X (ts ++ fr) scope cl C s H ex) ifs tt) (hem:∀ D C s H ex,EmOk (compCx X (ts ++ fr) scope cl C s H ex) (em' (.ref D) (compEnvC scope cl C X.env)) (em D)) (htn:∀ it acc env,compTurn (.ListComp elt (⟨tg,iter,ifs,0⟩ :: rest) scope pos) 0 it acc env=turnF (.ListComp elt (⟨tg,iter,ifs,0⟩ :: rest) scope pos) 0 tg iter ifs (em' acc env) it acc env)
  (F:FreeOk X scope cl fr js) (hc:X.calm=true) (hs:∀ v,foldedSetIterable iter X.env v=pure v)
  {pins:List (Addr×Obj)} {s:Shared} {σ:St} {H:Hp} (I:Inv X pins σ H s) (h:tCompM wi g tt em ts.length js σ H QE) (newAcc:Sem Value) (hnew:newAcc=newList []) (pp:Pos)
  (hR:∀ (D C:Addr) (H5:Hp) (s6:Shared) (m:Str→Option Value),s6.heap.Ns C m→H5 C=none→C≠X.env.locals→X.s₀.heap.objs.size≤C→(∀ x c,X.env.cells.lookup x=some c→c≠C)→(∀ p∈X.pn ++ pins,p.1≠C)→C ∉ X.fs →
   (∀ h':Heap,(∀ b u,b≠C→s6.heap.get? b=some u→h'.get? b=some u)→Inv X pins σ H5 { s6 with heap:=h' })→QE (.ref D) H5→compPost (model X.prog X.w) X.A X.xe use RQ (.ref D) C (.ok .next) s6) :
  wpAny (model X.prog X.w) X.A (comprehension (.ListComp elt (⟨tg,iter,ifs,0⟩ :: rest) scope pos) scope X.env pp newAcc false (eval iter X.env) use) RQ X.xe s:=by
 refine wpAny_comprehension_free (use:=use) rfl hs F.clos F.kind F.names (thn (hi pins s σ H _ I h) fun xv s1 h1=>thn h1 fun itv s2 h2=>?_)
 obtain ⟨it,fp,tn,J,H2,rfl,I2,T,st2,f2,h2⟩:=h2
 have hD:H2 s2.heap.objs.size=none:=I2.fresh
 obtain ⟨W,⟨m0,w0⟩,turn⟩:=h2 _ hD
 rw [hnew]
 refine wpAny_newObj_type ?_
 have I3:Inv X pins σ (upd H2 s2.heap.objs.size (.lst [])) { s2 with heap:=s2.heap.push { cls:=.type "list", data:=.seq ([]:List Value).toArray } }:=I2.lnew (t':=s2.toks) (its:=[]) .nil (by show 0≤sizeLine; decide)
 generalize hs3:({ s2 with heap:=s2.heap.push { cls:=.type "list", data:=.seq ([]:List Value).toArray } }:Shared)=s3 at I3
 have e3:s3.heap=s2.heap.push { cls:=.type "list", data:=.seq ([]:List Value).toArray }:=by rw [← hs3]
 generalize hH3:upd H2 s2.heap.objs.size (.lst [])=H3 at I3 w0
 generalize hDD:s2.heap.objs.size=D at hD hH3 w0 turn
 have k3:∀ b o,s2.heap.get? b=some o→s3.heap.get? b=some o:=fun b o e=>by rw [e3]; exact Heap.get?_push_of_some _ e
 have f3:∀ b∈fp,FpOk X pins H3 b:=fun b hb=>by
  obtain ⟨o,ho,_⟩:=T.obj _ _ st2 b hb
  have lt:=Heap.lt_size ho
  refine ⟨?_,(f2 b hb).2⟩
  rw [← hH3,upd_ne (by rw [← hDD]; exact Nat.ne_of_lt lt)]
  exact (f2 b hb).1
 refine wpAny_newFunctionEnv F.cell (by intro y hy; simp at hy) (fun h1 hns hsb=>?_) F.kind
 have hC3:s3.heap.get? s3.heap.objs.size=none:=Heap.get?_none_of_le (Nat.le_refl _)
 have k4:∀ b o,s3.heap.get? b=some o→h1.get? b=some o:=fun b o e=>hsb.extBut b o (Nat.ne_of_lt (Heap.lt_size e)) (Heap.get?_push_of_some _ e)
 show codeAny (model X.prog X.w) X.A (.compStart (.ListComp elt (⟨tg,iter,ifs,0⟩ :: rest) scope pos) 0 (.ref it) (.ref D) (compEnvC scope cl s3.heap.objs.size X.env)) (compPost (model X.prog X.w) X.A X.xe use RQ (.ref D) s3.heap.objs.size) _
 have ok:(compCx X (ts ++ fr) scope cl s3.heap.objs.size s3 H3 fp).Ok:=by
  refine ⟨I3.ok.mod,F.kind,I3.ok.glob,I3.ok.blt,Nat.le_refl _,fun y z c e1 e2=>I3.ok.inj y z c (F.sub _ _ e1) (F.sub _ _ e2),fun y hy=>F.has y hy,fun y c z=>absurd z Bool.false_ne_true,I3.ok.hd,I3.ok.frames,.inl rfl,fun b hb=>?_,I3.bs,Nat.le_trans I3.ok.bsz I3.sz,
   fun b o e hb=>?_,fun b hb hf=>?_,I3.stack,I3.stkFree,I3.tabs⟩
  ·obtain ⟨o,ho,_⟩:=T.obj _ _ st2 b hb
   exact ⟨Nat.ne_of_lt (Heap.lt_size (k3 b o ho)),fun y c e=>(f3 b hb).2.2.2.2.1 y c (F.sub _ _ e)⟩
  ·obtain ⟨_,_,_,z,_⟩:=f3 b hb
   rcases z with z | z
   ·exact I3.ok.noex b o e z
   ·exact absurd (Nat.lt_of_lt_of_le (Heap.lt_size (I3.ok.bs b o e).1) z) (Nat.lt_irrefl _)
  ·rcases List.mem_cons.mp (I3.stkSub b hf) with z | z
   ·exact (f3 b hb).2.1 z
   ·exact (f3 b hb).2.2.1 z
 have frV:∀ (hh:Heap),(∀ b u,s3.heap.get? b=some u→hh.get? b=some u)→∀ (i:Nat) (y:Str) (v:V),fr[i]?=some y→(freeV σ js)[i]?=some (some v)→∃ u,RelV v u∧∀ m,Look (compEnvC scope cl s3.heap.objs.size X.env) hh m y u:=fun hh kk i y v e1 e2=>by
  obtain ⟨j,ej,eN,hk,hkin,c,hcl⟩:=F.frn i y e1
  have e2':σ[j]?=some (some v):=by
   unfold freeV at e2
   rw [List.getElem?_map,ej,Option.map_some] at e2
   have e2:=Option.some.inj e2
   cases q:σ[j]? with
   | none=>rw [q] at e2; simp at e2
   | some z=>rw [q] at e2; simpa using e2
  obtain ⟨m,hn,hl⟩:=I3.loc
  obtain ⟨u,r,l⟩:=hl j y v eN e2' (.inr (.inl hk))
  refine ⟨u,r,fun m'=>.inr ⟨hkin,c,hcl,?_⟩⟩
  rcases l with ⟨z,_⟩ | ⟨_,c',hc',hce⟩
  ·rw [hk] at z; cases z
  ·have e:=F.sub _ _ hcl
   rw [hc'] at e; cases e
   obtain ⟨oo,q1,q2⟩:=hce
   exact ⟨oo,kk _ _ q1,q2⟩
 have I4:Inv (compCx X (ts ++ fr) scope cl s3.heap.objs.size s3 H3 fp) [] (List.replicate ts.length none ++ freeV σ js) H3 { s3 with heap:=h1,toks:=s3.toks + ([]:List (Str×Value)).length }:=by
  refine ⟨ok,rfl,I3.bare,Un.kept k4,⟨_,hns,fun i y v e1 e2 e3=>?_⟩,fun y c e=>?_,I3.fresh,fun y c e=>I3.freeC y c (F.sub _ _ e),fun p hp=>absurd (show p∈([]:List (Addr×Obj)) from hp) (by simp),I3.hok.kept k4,?_⟩
  ·by_cases hlt:i < ts.length
   ·rw [List.getElem?_append_left (by simpa using hlt),List.getElem?_replicate,if_pos hlt] at e2
    cases e2
   ·have e1:(ts ++ fr)[i]?=some y:=e1
    rw [List.getElem?_append_right (by lia)] at e1
    rw [List.getElem?_append_right (by simp; lia),List.length_replicate] at e2
    obtain ⟨u,r,l⟩:=frV h1 k4 _ y v e1 e2
    exact ⟨u,r,l _⟩
  ·obtain ⟨v,oo,q1,q2⟩:=I3.cell y c (F.sub _ _ e)
   exact ⟨v,oo,k4 _ _ q1,q2⟩
  ·show _=(ts ++ fr).length
   rw [List.length_append,List.length_append,List.length_replicate]
   unfold freeV
   rw [List.length_map,F.len]
 have stat:∀ {H':Hp},(∀ b∈fp,H' b=none)→∀ b∈fp,FpOk (compCx X (ts ++ fr) scope cl s3.heap.objs.size s3 H3 fp) [] H' b:=fun hn b hb=>by
  obtain ⟨o,ho,_⟩:=T.obj _ _ st2 b hb
  exact ⟨hn b hb,(ok.exf b hb).1,ok.exfs b hb,.inl hb,(ok.exf b hb).2,fun p hp=>absurd (show p∈([]:List (Addr×Obj)) from hp) (by simp)⟩
 have loop:∀ s4:Shared,s4={ s3 with heap:=h1,toks:=s3.toks + ([]:List (Str×Value)).length } →
   codeAny (model X.prog X.w) X.A (.compLoop (.ListComp elt (⟨tg,iter,ifs,0⟩ :: rest) scope pos) 0 (.ref it) (.ref D) (compEnvC scope cl s3.heap.objs.size X.env)) (compPost (model X.prog X.w) X.A X.xe use RQ (.ref D) s3.heap.objs.size) s4:=by
  intro s4 e4
  rw [← e4] at I4
  have st4:tn 0 s4.heap:=T.keep _ _ _ st2 fun b _ o e=>by rw [e4]; exact k4 b o (k3 b o e)
  refine loop_em (Y:=compCx X (ts ++ fr) scope cl s3.heap.objs.size s3 H3 fp) (QS:=fun _ H5=>QE (.ref D) H5) (htn _ _ _) T (fun _ _ z=>z) hc (hg _ _ _ _) (hts _ _ _ _) (hem D _ _ _ _) I4 st4 (stat fun b hb=>(f3 b hb).1) w0 turn fun s6 σ5 H5 I6 q=>?_
  obtain ⟨m,hn,_⟩:=id I6.loc
  refine hR D s3.heap.objs.size H5 s6 m hn I6.free (Nat.ne_of_gt I3.lt) I3.sz (fun y c e z=>?_) (fun p hp z=>?_) (I3.nofs (Nat.le_refl _)) (fun h' kb=>?_) q
  ·obtain ⟨v,oo,q1,q2⟩:=I3.cell y c e
   exact absurd (Heap.lt_size q1) (by rw [z]; exact Nat.lt_irrefl _)
  ·exact absurd (Heap.lt_size (I3.pin p hp).1) (by rw [z]; exact Nat.lt_irrefl _)
  ·refine I3.call' (s':={ s6 with heap:=h' }) (ch:=fp) I6.os ((show Un (frs X.stack) fp H3 H5 s3.heap s6.heap from I6.base).but hC3 kb) (I6.hok.but I6.free kb) I6.bare (fun b hb=>?_)
   obtain ⟨_,z1,_,z3,z4,z5⟩:=f3 b hb
   exact ⟨z3,z1,z4,z5⟩
 exact codeAny_compStart_list (loop _ rfl) (T.self _ 0 _ _ _ (T.keep _ _ _ st2 fun b _ o e=>k4 b o (k3 b o e)) (loop _ rfl))
theorem pe_compM {elt iter tg:Expr} {rest:List Comprehension} {ifs:List Expr} {pos:Pos} {scope:Scope} {cl:List (Str×Addr)} {ts fr:List Str} {js:List Nat} {wi:TI} {g:TG} {tt:TT} {em:Addr→TM} {em':Value→PySem.Env→Sem Fin→Sem Fin}
  (hi:PI X tg iter wi) (hg:∀ C s H ex,PG (compCx X (ts ++ fr) scope cl C s H ex) tg g) (hts:∀ C s H ex,PIfs (compCx X (ts ++ fr) scope cl C s H ex) ifs tt) (hem:∀ D C s H ex,EmOk (compCx X (ts ++ fr) scope cl C s H ex) (em' (.ref D) (compEnvC scope cl C X.env)) (em D)) (htn:∀ it acc env,compTurn (.ListComp elt (⟨tg,iter,ifs,0⟩ :: rest) scope pos) 0 it acc env=turnF (.ListComp elt (⟨tg,iter,ifs,0⟩ :: rest) scope pos) 0 tg iter ifs (em' acc env) it acc env)
  (F:FreeOk X scope cl fr js) (hc:X.calm=true) (hs:∀ v,foldedSetIterable iter X.env v=pure v):PE X (.ListComp elt (⟨tg,iter,ifs,0⟩ :: rest) scope pos) (tCompM wi g tt em ts.length js):=by
 intro pins s σ H Q I h
 rw [eval_ListComp]
 refine comp_blockM hi hg hts hem htn F hc hs I h _ rfl _ fun D C H5 s6 m hn _ _ _ _ _ _ iv q=>⟨m,hn,fun h' hs'=>⟨.ref D,H5,iv h' fun b u hb e=>hs'.extBut b u hb e,rfl,q⟩⟩
end
section
variable {X:Cx}
theorem ps_compAM {elt iter tg:Expr} {rest:List Comprehension} {ifs:List Expr} {pos:Pos} {scope:Scope} {cl:List (Str×Addr)} {ts fr:List Str} {js:List Nat} {wi:TI} {g:TG} {tt:TT} {em:Addr→TM} {em':Value→PySem.Env→Sem Fin→Sem Fin} {i:Nat} {y:Str} {py spos:Pos}
  (hN:X.N.Nodup) (hiN:X.N[i]?=some y) (hy:X.env.scope.names.lookup y=some .local)
  (hi:PI X tg iter wi) (hg:∀ C s H ex,PG (compCx X (ts ++ fr) scope cl C s H ex) tg g) (hts:∀ C s H ex,PIfs (compCx X (ts ++ fr) scope cl C s H ex) ifs tt) (hem:∀ D C s H ex,EmOk (compCx X (ts ++ fr) scope cl C s H ex) (em' (.ref D) (compEnvC scope cl C X.env)) (em D)) (htn:∀ it acc env,compTurn (.ListComp elt (⟨tg,iter,ifs,0⟩ :: rest) scope pos) 0 it acc env=turnF (.ListComp elt (⟨tg,iter,ifs,0⟩ :: rest) scope pos) 0 tg iter ifs (em' acc env) it acc env)
  (F:FreeOk X scope cl fr js) (hc:X.calm=true) (hs:∀ v,foldedSetIterable iter X.env v=pure v) (hsw:swapsWith (.ListComp elt (⟨tg,iter,ifs,0⟩ :: rest) scope pos) (some (.Name y py)) spos.line X.env=pure true) :
  PS X (.Assign [.Name y py] (.ListComp elt (⟨tg,iter,ifs,0⟩ :: rest) scope pos) spos) (tAsg (tCompM wi g tt em ts.length js) (gName i)):=by
 intro pins s σ H D I h
 rw [exec_Assign_Name_used _ _ _ _ hsw]
 refine wpAny_bind (wpAny_standAt (wpAny_bind ?_))
 show wpAny _ X.A (do let _ ← comprehension (.ListComp elt (⟨tg,iter,ifs,0⟩ :: rest) scope pos) scope X.env _ (newList []) false (eval iter X.env) (some (assign (.Name y py) X.env))) _ _ s
 refine wpAny_bind (thn (comp_blockM (RQ:=fun _ s'=>∃ σ' H',Inv X pins σ' H' s'∧D.nx σ' H') (QE:=fun v H1=>gName i v σ H1 D.nx) hi hg hts hem htn F hc hs I h _ rfl _ ?_) fun _ s' q=>wpAny_pure (wpAny_pure q))
 intro L C H5 s6 m hn hf hL hsz hcl hpn hfs iv q
 obtain ⟨o,es,ep,ho,hd,r⟩:=id hn
 have I6:Inv X pins σ H5 s6:=iv s6.heap fun b u _ e=>e
 have I6p:Inv X (pins ++ [(C,o)]) σ H5 s6:=I6.pins_of fun p hp=>by
  rcases List.mem_append.mp hp with z | z
  ·exact I6.pin p (List.mem_append_right _ z)
  ·have z:p=(C,o):=by simpa using z
   subst z
   exact ⟨ho,hf,hL,hfs,fun v z=>by rw [hd] at z; cases z⟩
 show wpAny _ X.A (assign (.Name y py) X.env (.ref L)) _ _ _
 refine wpAny_assign_Name (store_ok I6p hN hiN (.inl hy) (v:=.ref L) rfl (fun s7 I7=>?_) (.inr hy))
 have h7:s7.heap.get? C=some o:=(I7.pin (C,o) (List.mem_append_right _ (List.mem_append_right _ (List.mem_singleton.mpr rfl)))).1
 refine ⟨m,⟨o,es,ep,h7,hd,r⟩,fun h' hs'=>⟨_,H5,?_,q⟩⟩
 exact I7.unpinned.turned (t':=s7.toks) (fun b u hb e=>hs'.extBut b u hb e) hf hL (.inr hsz) hcl hpn
end
section
variable {X:Cx}
theorem pe_compG {elt iter tg:Expr} {ifs:List Expr} {pos:Pos} {scope:Scope} {cl:List (Str×Addr)} {ts fr:List Str} {js:List Nat} {wi:TI} {g:TG} {tt:TT} {te:TE}
  (hi:PI X tg iter wi) (hg:∀ C s H ex,PG (compCx X (ts ++ fr) scope cl C s H ex) tg g) (hts:∀ C s H ex,PIfs (compCx X (ts ++ fr) scope cl C s H ex) ifs tt) (helt:∀ C s H ex,PE (compCx X (ts ++ fr) scope cl C s H ex) elt te)
  (F:FreeOk X scope cl fr js) (hc:X.calm=true) (hs:∀ v,foldedSetIterable iter X.env v=pure v):PE X (.ListComp elt [⟨tg,iter,ifs,0⟩] scope pos) (tCompG wi g tt te ts.length js) :=
 pe_compM (rest:=[]) (em:=emE te) hi hg hts (fun D C s H ex=>em_elt (Y:=compCx X (ts ++ fr) scope cl C s H ex) (helt C s H ex) fun _ _ z=>z) (fun _ _ _=>rfl) F hc hs
theorem ps_compA {elt iter tg:Expr} {ifs:List Expr} {pos:Pos} {scope:Scope} {cl:List (Str×Addr)} {ts fr:List Str} {js:List Nat} {wi:TI} {g:TG} {tt:TT} {te:TE} {i:Nat} {y:Str} {py spos:Pos}
  (hN:X.N.Nodup) (hiN:X.N[i]?=some y) (hy:X.env.scope.names.lookup y=some .local)
  (hi:PI X tg iter wi) (hg:∀ C s H ex,PG (compCx X (ts ++ fr) scope cl C s H ex) tg g) (hts:∀ C s H ex,PIfs (compCx X (ts ++ fr) scope cl C s H ex) ifs tt) (helt:∀ C s H ex,PE (compCx X (ts ++ fr) scope cl C s H ex) elt te)
  (F:FreeOk X scope cl fr js) (hc:X.calm=true) (hs:∀ v,foldedSetIterable iter X.env v=pure v) (hsw:swapsWith (.ListComp elt [⟨tg,iter,ifs,0⟩] scope pos) (some (.Name y py)) spos.line X.env=pure true) :
  PS X (.Assign [.Name y py] (.ListComp elt [⟨tg,iter,ifs,0⟩] scope pos) spos) (tAsg (tCompG wi g tt te ts.length js) (gName i)) :=
 ps_compAM (rest:=[]) (em:=emE te) hN hiN hy hi hg hts (fun D C s H ex=>em_elt (Y:=compCx X (ts ++ fr) scope cl C s H ex) (helt C s H ex) fun _ _ z=>z) (fun _ _ _=>rfl) F hc hs hsw
end
end L2
namespace L3
open PySem L2
def compG (g:UG) (ut:UT) (u:UE):List D→List Sl→(List D→Prop)→Prop
 | [],_,k=>k []
 | d :: ds,ρ,k=>g d ρ fun ρ1=>ut ρ1 fun b=>if b=true then u ρ1 fun y=>compG g ut u ds ρ1 fun ys=>k (y :: ys) else compG g ut u ds ρ1 k
def utTrue:UT:=fun _ k=>k true
def uCompG (w:UL) (g:UG) (ut:UT) (u:UE) (nt:Nat) (js:List Nat):UL:=fun ρ k=>w ρ fun ds=>ds.length≤sizeLine∧compG g ut u ds (List.replicate nt .no ++ js.map (frS ρ)) k
section
variable {K:PySem.W.Frag} {X:Cx} {e:Expr} {es:List Expr} {u:UE} {w:UL} {pos p:Pos}
theorem frS_cases {ρ:List Sl} (j:Nat):frS ρ j=.no∨(∃ d,frS ρ j=.val d∧ρ[j]?=some (.val d))∨(frS ρ j=.bag∧ρ[j]?=some .bag):=by
 unfold frS
 split
 ·rename_i d hj; exact .inr (.inl ⟨d,rfl,hj⟩)
 ·rename_i hj; exact .inr (.inr ⟨rfl,hj⟩)
 ·exact .inl rfl
theorem Ev.within {R:Hp} {W:Addr→Prop} {B H:Hp} {σ:St} {ρ:List Sl} (e:Ev K R W B H σ ρ) (nt:Nat) {js:List Nat} (hnd:js.Nodup) :
  Ev K H (fun a=>∃ j,j∈js∧σ[j]?=some (some (.ref a))∧ρ[j]?=some .bag) B H (List.replicate nt none ++ freeV σ js) (List.replicate nt .no ++ js.map (frS ρ)):=by
 have bg:∀ (a:Addr) (j:Nat),σ[j]?=some (some (V.ref a))→ρ[j]?=some Sl.bag→B a=none∧Bag H a:=fun a j z1 z2=>by
  obtain ⟨c,c1,_,c3,c4⟩:=e.bagAt z2
  rw [z1] at c1; cases c1; exact ⟨c3,c4⟩
 refine ⟨⟨fun _ _ z _=>z,e.bh,fun a ⟨j,_,z1,z2⟩=>(bg a j z1 z2).1,fun a ⟨j,_,z1,z2⟩=>(bg a j z1 z2).2,fun a ⟨j,_,z1,z2⟩=>?_⟩,?_,fun n kk hk=>?_,fun n m a m1 m2=>?_⟩
 ·obtain ⟨x,y,q,_⟩:=(bg a j z1 z2).2
  rw [q]; simp
 ·unfold freeV; simp
 ·by_cases hlt:n < nt
  ·rw [List.getElem?_append_left (by simpa using hlt),List.getElem?_replicate,if_pos hlt] at hk
   cases hk; trivial
  ·rw [List.getElem?_append_right (by simp; lia),List.length_replicate,List.getElem?_map] at hk
   cases qj:js[n - nt]? with
   | none=>rw [qj] at hk; cases hk
   | some j =>
    rw [qj] at hk
    have hk:=Option.some.inj hk
    have eo:((List.replicate nt none ++ freeV σ js)[n]?).join=(σ[j]?).join:=by
     rw [List.getElem?_append_right (by simp; lia),List.length_replicate]
     unfold freeV
     rw [List.getElem?_map,qj]
     rfl
    rw [eo,← hk]
    rcases frS_cases (ρ:=ρ) j with z | ⟨dd,z,hj⟩ | ⟨z,hj⟩ <;> rw [z]
    ·trivial
    ·obtain ⟨v,v1,v2⟩:=e.ok j _ hj
     exact ⟨v,v1,v2⟩
    ·obtain ⟨c,c1,_,c3,c4⟩:=e.ok j _ hj
     exact ⟨c,c1,.inl ⟨j,List.mem_of_getElem? qj,join_some c1,hj⟩,c3,c4⟩
 ·have back:∀ n,MutAt (List.replicate nt none ++ freeV σ js) (List.replicate nt .no ++ js.map (frS ρ)) n a→∃ j,nt≤n∧js[n - nt]?=some j∧MutAt σ ρ j a:=fun n mm=>by
   rcases mm with ⟨m1,m2⟩ | ⟨c,m1,_⟩
   rotate_left
   ·by_cases hlt:n < nt
    ·rw [List.getElem?_append_left (by simpa using hlt),List.getElem?_replicate,if_pos hlt] at m1
     cases m1
    ·rw [List.getElem?_append_right (by simp; lia),List.length_replicate,List.getElem?_map] at m1
     cases qj:js[n - nt]? with
     | none=>rw [qj] at m1; cases m1
     | some j =>
      rw [qj,Option.map_some] at m1
      rcases frS_cases (ρ:=ρ) j with z | ⟨dd,z,hj⟩ | ⟨z,hj⟩ <;> rw [z] at m1 <;> cases m1
   by_cases hlt:n < nt
   ·rw [List.getElem?_append_left (by simpa using hlt),List.getElem?_replicate,if_pos hlt] at m1
    cases m1
   ·rw [List.getElem?_append_right (by simp; lia),List.length_replicate] at m1
    obtain ⟨j,qj,oj⟩:=freeV_get m1
    rw [List.getElem?_append_right (by simp; lia),List.length_replicate,List.getElem?_map,qj] at m2
    refine ⟨j,by lia,qj,.inl ⟨join_some oj.symm,.inl ?_⟩⟩
    rcases frS_cases (ρ:=ρ) j with z | ⟨dd,z,hj⟩ | ⟨z,hj⟩
    ·rw [Option.map_some,z] at m2; rcases m2 with q | ⟨_,q⟩ <;> cases q
    ·rw [Option.map_some,z] at m2; rcases m2 with q | ⟨_,q⟩ <;> cases q
    ·exact hj
  obtain ⟨j,l1,qj,mj⟩:=back n m1
  obtain ⟨j',l2,qj',mj'⟩:=back m m2
  have:=e.sep j j' a mj mj'
  subst this
  have l3:n - nt < js.length:=by
   by_cases z:n - nt < js.length
   ·exact z
   ·rw [List.getElem?_eq_none (by lia)] at qj; cases qj
  have:=(List.getElem?_inj l3 hnd).mp (qj.trans qj'.symm)
  lia
theorem mixB_at {R:Hp} {W:Addr→Prop} {B:Hp} {a:Addr} {vs:List V} (h:R a=some (.lst vs)) (nw:¬ W a):mixB R W B a=some (.lst vs):=by
 unfold mixB; rw [h]; dsimp only; rw [if_neg nw]
theorem mixB_no {R:Hp} {W:Addr→Prop} {B:Hp} {a:Addr} (h:∀ vs,R a≠some (.lst vs)):mixB R W B a=B a:=by
 unfold mixB
 split
 ·rename_i vs e; exact absurd e (h vs)
 ·rfl
theorem mixB_out {R:Hp} {W:Addr→Prop} {B:Hp} {a:Addr} {o:HO} (h:mixB R W B a=some o):B a=some o∨(¬ W a∧R a=some o∧∃ vs,o=.lst vs):=by
 unfold mixB at h
 split at h
 ·rename_i vs e
  split at h
  ·exact .inl h
  ·rename_i z; cases h; exact .inr ⟨z,e,vs,rfl⟩
 ·exact .inl h
theorem mixB_now {R:Hp} {W:Addr→Prop} {B H:Hp} (w:Wd R W B H):Same (mixB R W B) H:=fun a o h=>by
 rcases mixB_out h with h | ⟨h1,h2,_⟩
 ·exact w.bh a o h
 ·exact w.fr a o h2 h1
theorem mixB_re {R:Hp} {W W':Addr→Prop} {B B' H:Hp} (w:Wd R W B H) (s:Same B B') (sB:Same B' H) (hw:∀ a,W' a→R a≠none→W a) (hb:∀ a,W' a→B' a=none):Same (mixB R W B) (mixB H W' B'):=fun a o h=>by
 have hH:=mixB_now w a o h
 rcases mixB_out h with h | ⟨h1,h2,vs,rfl⟩
 ·have h':=s a o h
  by_cases z:W' a
  ·rw [hb a z] at h'; cases h'
  ·by_cases q:∃ vs,H a=some (.lst vs)
   ·obtain ⟨vs,q⟩:=q
    rw [hH] at q; cases q
    exact mixB_at hH z
   ·rw [mixB_no fun vs e=>q ⟨vs,e⟩]; exact h'
 ·exact mixB_at hH fun z=>h1 (hw a z (by rw [h2]; simp))
theorem Ev.rebase {R:Hp} {W:Addr→Prop} {B H:Hp} {σ:St} {ρ:List Sl} (e:Ev K R W B H σ ρ) (hm:∀ j a,MutAt σ ρ j a→W a):Ev K H W B H σ ρ:=by
 refine ⟨⟨fun _ _ z _=>z,e.bh,e.wb,e.wh,fun a z=>by obtain ⟨x',y',q',_⟩:=e.wh a z; rw [q']; simp⟩,e.len,fun j kk hj=>?_,e.sep⟩
 have:=e.ok j kk hj
 cases kk with
 | no=>trivial
 | new d =>
  obtain ⟨v,h1,h2⟩:=this
  exact ⟨v,h1,h2.mono (mixB_re e.toWd (Same.refl _) e.bh (fun _ z _=>z) e.wb)⟩
 | pin v d=>exact ⟨this.1,this.2.mono (mixB_re e.toWd (Same.refl _) e.bh (fun _ z _=>z) e.wb)⟩
 | val d=>exact this
 | own ds =>
  obtain ⟨a,q1,q2,_⟩:=this
  exact absurd q2 (e.wr a (hm j a (.inl ⟨join_some q1,.inr ⟨ds,hj⟩⟩)))
 | deep c=>exact absurd (this.2.fr _ List.mem_cons_self).1 (e.wr _ (hm j _ (.inr ⟨c,hj,List.mem_cons_self⟩)))
 | bag =>
  obtain ⟨c,c1,c2,c3,c4⟩:=this
  exact ⟨c,c1,.inl (hm j c (.inl ⟨join_some c1,.inl hj⟩)),c3,c4⟩
theorem Ev.unbase {R:Hp} {W:Addr→Prop} {B H B' H':Hp} {σ:St} {ρ:List Sl} (e:Ev K R W B H σ ρ) (hm:∀ j a,MutAt σ ρ j a→W a) (e':Ev K H W B' H' σ ρ) (g:Grow H B B'):Ev K R W B' H' σ ρ∧Grow R B B':=by
 refine ⟨⟨⟨fun a o z nw=>e'.fr a o (e.fr a o z nw) nw,e'.bh,e'.wb,e'.wh,e.wr⟩,e'.len,fun j kk hj=>?_,e'.sep⟩,⟨g.s,fun a o z=>?_⟩⟩
 ·have:=e'.ok j kk hj
  cases kk with
  | no=>trivial
  | new d =>
   obtain ⟨v,h1,h2⟩:=e.ok j _ hj
   exact ⟨v,h1,h2.mono (mixB_mono g.s)⟩
  | pin v d =>
   obtain ⟨h1,h2⟩:=e.ok j _ hj
   exact ⟨h1,h2.mono (mixB_mono g.s)⟩
  | val d=>exact this
  | own ds =>
   obtain ⟨a,q1,q2,_⟩:=e.ok j _ hj
   exact absurd q2 (e.wr a (hm j a (.inl ⟨join_some q1,.inr ⟨ds,hj⟩⟩)))
  | deep c=>exact absurd ((e.deepAt hj).2.fr _ List.mem_cons_self).1 (e.wr _ (hm j _ (.inr ⟨c,hj,List.mem_cons_self⟩)))
  | bag =>
   obtain ⟨c,c1,c2,c3,c4⟩:=this
   exact ⟨c,c1,.inl (hm j c (.inl ⟨join_some c1,.inl hj⟩)),c3,c4⟩
 ·rcases g.n a o z with q | q
  ·exact .inl q
  ·exact .inr (e.toWd.fresh q).1
theorem refCompG {wi:TI} {g:TG} {tt:TT} {te:TE} {ug:UG} {ut:UT} {nt:Nat} {js:List Nat} (h0:RefI K wi w) (hg:RefG K g ug) (ht:RefT K tt ut) (h1:RefE K te u) (hnd:js.Nodup):RefO K (tCompG wi g tt te nt js) (uCompG w ug ut u nt js):=by
 intro ρ k h R W B H σ Q e q
 refine h0 ρ _ h R W B H σ _ e fun ds J B1 H1 z1 e1 g1 it=>?_
 obtain ⟨hl,z1⟩:=z1
 intro D hD
 obtain ⟨f1,f2,f3⟩:=e1.toWd.fresh hD
 have nm1:∀ i,¬ MutAt σ ρ i D:=fun i m=>e1.notNew hD m rfl
 have ei:=e1.within nt hnd
 have hmi:∀ j a,MutAt (List.replicate nt none ++ freeV σ js) (List.replicate nt .no ++ js.map (frS ρ)) j a→∃ j,j∈js∧σ[j]?=some (some (V.ref a))∧ρ[j]?=some Sl.bag:=fun j a m=>by
  have q2:=(ei.mutOk m).2
  rcases m with ⟨m1,z | ⟨es,z⟩⟩ | ⟨c,z,mc⟩
  ·obtain ⟨c,c1,c2,_⟩:=ei.bagAt z
   rw [m1] at c1; cases c1
   rcases c2 with c2 | c2
   ·exact c2
   ·exact absurd c2 q2
  ·obtain ⟨c,c1,c2,_⟩:=ei.ownC z
   rw [m1] at c1; cases c1
   exact absurd c2 q2
  ·exact absurd ((ei.deepAt z).2.fr a mc).1 q2
 generalize hWW:(fun a=>∃ j,j∈js∧σ[j]?=some (some (V.ref a))∧ρ[j]?=some Sl.bag)=WW at ei
 have hmi:∀ j a,MutAt (List.replicate nt none ++ freeV σ js) (List.replicate nt .no ++ js.map (frS ρ)) j a→WW a:=fun j a m=>by rw [← hWW]; exact hmi j a m
 have hW:∀ a,WW a→∃ i:Nat,σ[i]?=some (some (.ref a))∧ρ[i]?=some .bag:=fun a z=>by
  rw [← hWW] at z
  obtain ⟨j,_,z⟩:=z
  exact ⟨j,z⟩
 have nWD:¬ WW D:=fun z=>by
  obtain ⟨i',y1,y2⟩:=hW D z
  exact nm1 i' (.inl ⟨y1,.inl y2⟩)
 refine ⟨fun i m σi H'=>∃ B' ys es ρi,m=ds.length - i∧i≤ds.length∧Ev K H1 WW B' H' σi ρi∧Grow H1 B1 B'∧H' D=some (.lst ys)∧B' D=none∧(∀ j a,MutAt σi ρi j a→WW a)∧ys.length≤i∧Reps K B' ys es∧compG ug ut u (ds.drop i) ρi fun r=>k (es ++ r),
  ⟨ds.length,B1,[],[],_,by simp,Nat.zero_le _,ei.allocH hD _,Grow.refl _ _,upd_same,f3,hmi,Nat.le_refl _,.nil,by simpa using z1⟩,?_⟩
 rintro i m σi H2 ⟨B2,ys,es,ρi,rfl,hi,e2,g2,hy,hb,hnm,hyl,ry,z2⟩
 obtain ⟨t1,t2,t3⟩:=it H2 (g2.s.trans e2.bh) i
 by_cases hlt:i < ds.length
 ·refine .inr ⟨t1 hlt,fun x H' y=>?_⟩
  obtain ⟨rfl,d,hd,rx⟩:=t3 x H' hlt y
  have ed:ds.drop i=d :: ds.drop (i + 1):=by
   rw [List.drop_eq_getElem_cons hlt]
   rw [List.getElem?_eq_getElem hlt] at hd
   rw [Option.some.inj hd]
  rw [ed] at z2
  refine hg d ρi _ z2 H1 WW B2 H' σi x _ e2 (rx.mono g2.s) fun ρ3 σ3 z3 e3 mm=>?_
  have hnm3:∀ j a,MutAt σ3 ρ3 j a→WW a:=fun j a m=>hnm j a (mm j a m)
  have bD:∀ {B4:Hp},Grow H' B2 B4→B4 D=none:=fun {B4} g4=>by
   cases qd:B4 D with
   | none=>rfl
   | some o =>
    rcases g4.n D o qd with z | z
    ·rw [hb] at z; cases z
    ·rw [hy] at z; cases z
  refine ht ρ3 _ z3 H' WW B2 H' σ3 _ (e3.rebase hnm3) fun b B4 H4 z4 e4 g4=>?_
  have hD4:H4 D=some (.lst ys):=e4.fr D _ hy nWD
  cases b with
  | false =>
   rw [if_neg Bool.false_ne_true] at z4 ⊢
   obtain ⟨e5,g5⟩:=e3.unbase hnm3 e4 g4
   exact ⟨ds.length - (i + 1),by lia,B4,ys,es,ρ3,rfl,hlt,e5,g2.trans g5,hD4,bD g4,hnm3,by lia,ry.mono g4.s,z4⟩
  | true =>
   rw [if_pos rfl] at z4 ⊢
   refine h1 ρ3 _ z4 H' WW B4 H4 σ3 _ e4 fun y' v B5 H5 z5 e5 g5 s5=>?_
   have g45:=g4.trans g5
   have hD5:H5 D=some (.lst ys):=e5.fr D _ hy nWD
   obtain ⟨e6,g6⟩:=e3.unbase hnm3 e5 g45
   refine ⟨ys,hD5,by lia,ds.length - (i + 1),by lia,B5,ys ++ [v],es ++ [y'],ρ3,rfl,hlt,e6.scribble hD (bD g45) (fun j m=>nWD (hnm3 j D m)) _,g2.trans g6,upd_same,bD g45,hnm3,by rw [List.length_append,List.length_singleton]; lia,(ry.mono g45.s).append (.cons s5 .nil),?_⟩
   simpa [List.append_assoc] using z5
 ·have eq:i=ds.length:=by lia
  subst eq
  rw [List.drop_length] at z2
  obtain ⟨e4,g4⟩:=e1.after hW e2.toWd g2
  refine .inl ⟨t2 (Nat.le_refl _),q _ D ys B2 H2 (by simpa [compG] using z2) e4 (g1.trans g4) f1 hb hy ry nm1⟩
def PIfs3 (X:Cx) (ifs:List Expr) (ut:UT):Prop:=∃ t,PIfs X ifs t∧RefT X.K t ut
theorem ifs_nil:PIfs3 X [] utTrue:=⟨_,pifs_nil,fun ρ k h R W B H σ Q e q=>q true B H h e (Grow.refl _ _)⟩
theorem ifs_one {c:Expr} {ut:UT} (h:PT3 X c ut):PIfs3 X [c] ut:=by
 obtain ⟨_,h1,r1⟩:=h
 exact ⟨_,pifs_one h1,r1⟩
theorem joinE {elt:Expr} {α:Type} {Xs:α→Cx} (hK:∀ a,(Xs a).K=K) (h:∀ a,PE3 (Xs a) elt u):∃ t,(∀ a,PE (Xs a) elt t)∧RefE K t u:=by
 refine ⟨fun σ H Q=>∀ a,∃ t,PE (Xs a) elt t∧RefE K t u∧t σ H Q,fun a pins s σ H Q I q=>?_,fun ρ k q R W B H σ Q e z a=>?_⟩
 ·obtain ⟨t,ht,_,hq⟩:=q a
  exact ht pins s σ H Q I hq
 ·obtain ⟨t,ht,hr⟩:=h a
  rw [hK a] at hr
  exact ⟨t,ht,hr,hr ρ k q R W B H σ Q e z⟩
theorem joinI {ifs:List Expr} {ut:UT} {α:Type} {Xs:α→Cx} (hK:∀ a,(Xs a).K=K) (h:∀ a,PIfs3 (Xs a) ifs ut):∃ t,(∀ a,PIfs (Xs a) ifs t)∧RefT K t ut:=by
 refine ⟨fun σ H Q=>∀ a,∃ t,PIfs (Xs a) ifs t∧RefT K t ut∧t σ H Q,fun a pins s σ H Q I q=>?_,fun ρ k q R W B H σ Q e z a=>?_⟩
 ·obtain ⟨t,ht,_,hq⟩:=q a
  exact ht pins s σ H Q I hq
 ·obtain ⟨t,ht,hr⟩:=h a
  rw [hK a] at hr
  exact ⟨t,ht,hr,hr ρ k q R W B H σ Q e z⟩
theorem joinG {tg:Expr} {ug:UG} {α:Type} {Xs:α→Cx} (hK:∀ a,(Xs a).K=K) (h:∀ a,PG3 (Xs a) tg ug):∃ t,(∀ a,PG (Xs a) tg t)∧RefG K t ug:=by
 refine ⟨fun v σ H Q=>∀ a,∃ t,PG (Xs a) tg t∧RefG K t ug∧t v σ H Q,fun a pins s σ H v x Q I r q=>?_,fun d ρ k q R W B H σ v Q e r z a=>?_⟩
 ·obtain ⟨t,ht,_,hq⟩:=q a
  exact ht pins s σ H v x Q I r hq
 ·obtain ⟨t,ht,hr⟩:=h a
  rw [hK a] at hr
  exact ⟨t,ht,hr,hr d ρ k q R W B H σ v Q e r z⟩
variable {elt iter tg:Expr} {ifs:List Expr} {scope:Scope} {cl:List (Str×Addr)} {ts fr:List Str} {js:List Nat} {ug:UG} {ut:UT}
theorem o_compG (hi:PI3 X tg iter w) (hg:∀ C s H ex,PG3 (compCx X (ts ++ fr) scope cl C s H ex) tg ug) (hts:∀ C s H ex,PIfs3 (compCx X (ts ++ fr) scope cl C s H ex) ifs ut) (helt:∀ C s H ex,PE3 (compCx X (ts ++ fr) scope cl C s H ex) elt u)
  (F:FreeOk X scope cl fr js) (hjn:js.Nodup:=by decide) (hc:X.calm=true:=by rfl) (hs:∀ v,foldedSetIterable iter X.env v=pure v:=by intro _; rfl):PO3 X (.ListComp elt [⟨tg,iter,ifs,0⟩] scope pos) (uCompG w ug ut u ts.length js):=by
 obtain ⟨_,h0,r0⟩:=hi
 obtain ⟨tg',hg',rg⟩:=joinG (K:=X.K) (Xs:=fun a:Addr×Shared×Hp×List Addr=>compCx X (ts ++ fr) scope cl a.1 a.2.1 a.2.2.1 a.2.2.2) (fun _=>rfl) fun a=>hg a.1 a.2.1 a.2.2.1 a.2.2.2
 obtain ⟨tt,ht',rt⟩:=joinI (K:=X.K) (Xs:=fun a:Addr×Shared×Hp×List Addr=>compCx X (ts ++ fr) scope cl a.1 a.2.1 a.2.2.1 a.2.2.2) (fun _=>rfl) fun a=>hts a.1 a.2.1 a.2.2.1 a.2.2.2
 obtain ⟨te,he',re⟩:=joinE (K:=X.K) (Xs:=fun a:Addr×Shared×Hp×List Addr=>compCx X (ts ++ fr) scope cl a.1 a.2.1 a.2.2.1 a.2.2.2) (fun _=>rfl) fun a=>helt a.1 a.2.1 a.2.2.1 a.2.2.2
 exact ⟨_,pe_compG h0 (fun C s H ex=>hg' (C,s,H,ex)) (fun C s H ex=>ht' (C,s,H,ex)) (fun C s H ex=>he' (C,s,H,ex)) F hc hs,refCompG r0 rg rt re hjn⟩
theorem s_compA {i:Nat} {y:Str} {py spos:Pos} (hN:X.N.Nodup) (hiN:X.N[i]?=some y) (hy:X.env.scope.names.lookup y=some .local)
  (hi:PI3 X tg iter w) (hg:∀ C s H ex,PG3 (compCx X (ts ++ fr) scope cl C s H ex) tg ug) (hts:∀ C s H ex,PIfs3 (compCx X (ts ++ fr) scope cl C s H ex) ifs ut) (helt:∀ C s H ex,PE3 (compCx X (ts ++ fr) scope cl C s H ex) elt u)
  (F:FreeOk X scope cl fr js) (hjn:js.Nodup:=by decide) (hc:X.calm=true:=by rfl) (hs:∀ v,foldedSetIterable iter X.env v=pure v:=by intro _; rfl)
  (hsw:swapsWith (.ListComp elt [⟨tg,iter,ifs,0⟩] scope pos) (some (.Name y py)) spos.line X.env=pure true:=by rfl) :
  PS3 X (.Assign [.Name y py] (.ListComp elt [⟨tg,iter,ifs,0⟩] scope pos) spos) (uSetO i (uCompG w ug ut u ts.length js)):=by
 obtain ⟨_,h0,r0⟩:=hi
 obtain ⟨tg',hg',rg⟩:=joinG (K:=X.K) (Xs:=fun a:Addr×Shared×Hp×List Addr=>compCx X (ts ++ fr) scope cl a.1 a.2.1 a.2.2.1 a.2.2.2) (fun _=>rfl) fun a=>hg a.1 a.2.1 a.2.2.1 a.2.2.2
 obtain ⟨tt,ht',rt⟩:=joinI (K:=X.K) (Xs:=fun a:Addr×Shared×Hp×List Addr=>compCx X (ts ++ fr) scope cl a.1 a.2.1 a.2.2.1 a.2.2.2) (fun _=>rfl) fun a=>hts a.1 a.2.1 a.2.2.1 a.2.2.2
 obtain ⟨te,he',re⟩:=joinE (K:=X.K) (Xs:=fun a:Addr×Shared×Hp×List Addr=>compCx X (ts ++ fr) scope cl a.1 a.2.1 a.2.2.1 a.2.2.2) (fun _=>rfl) fun a=>helt a.1 a.2.1 a.2.2.1 a.2.2.2
 refine ⟨_,ps_compA hN hiN hy h0 (fun C s H ex=>hg' (C,s,H,ex)) (fun C s H ex=>ht' (C,s,H,ex)) (fun C s H ex=>he' (C,s,H,ex)) F hc hs hsw,fun U ρ h R W B H σ D e s=>?_⟩
 exact refCompG r0 rg rt re hjn ρ _ h R W B H σ _ e fun ds a vs B1 H1 z1 e1 g1 f1 f2 f3 f4 f5=>s.nx _ _ B1 H1 z1 (e1.setO i f1 f2 f3 f4 fun j _=>f5 j) g1
theorem s_thenFz {st:Stmt} {s:US} (i:Nat) (h:PS3 X st s):PS3 X st (fun U ρ=>s { U with nx:=fun ρ'=>∃ ds:List D,ρ'[i]?=some (.own ds)∧U.nx (ρ'.set i (.val (.lst ds))) } ρ):=by
 obtain ⟨_,h1,r1⟩:=h
 refine ⟨_,h1,fun U ρ h R W B H σ D e sm=>?_⟩
 refine r1 _ ρ h R W B H σ D e ⟨fun ρ' σ' B' H' z e' g=>?_,sm.bk,sm.ct,sm.rt⟩
 obtain ⟨ds,ho,z⟩:=z
 obtain ⟨B2,e2,g2⟩:=e'.fz ho
 exact sm.nx _ σ' B2 H' z e2 (g.trans g2)
end
end L3
namespace L2
open PySem PySem.Spec PyProof.Rows
end L2
namespace L3
open PySem L2
end L3
namespace L3
open PySem L2
theorem forR_map {α:Type} {f:α→D} {s:US} {U:UEnds} {m:Nat} (I:List α→List Sl→Prop):∀ {rs done:List α} {ρ:List Sl},I done ρ →
  (∀ (pre:List α) (r:α) (rest:List α) ρ,done ++ rs=pre ++ r :: rest→I pre ρ→∀ N:List Sl→Prop,(∀ r',I (pre ++ [r]) r'→N r')→s { U with nx:=N,ct:=N,bk:=U.nx } (ρ.set m (.val (f r))))→(∀ ρ,I (done ++ rs) ρ→U.nx ρ)→forR (ugName m) s U (rs.map f) ρ
 | [],done,ρ,h0,_,h2=>h2 ρ (by rw [List.append_nil]; exact h0)
 | r :: rs,done,ρ,h0,h1,h2=>by
  refine h1 done r rs ρ rfl h0 _ fun r' hr=>?_
  have e:done ++ r :: rs=(done ++ [r]) ++ rs:=by simp
  rw [e] at h1 h2
  exact forR_map I hr h1 h2
theorem forR_rng0 {s:US} {U:UEnds} {m:Nat} (I:Nat→List Sl→Prop):∀ {n i:Nat} {ρ:List Sl},I i ρ→(∀ (j:Nat) ρ,i≤j→j < i + n→I j ρ→∀ N:List Sl→Prop,(∀ r,I (j + 1) r→N r)→s { U with nx:=N,ct:=N,bk:=U.nx } (ρ.set m (.val (.int j)))) →
  (∀ ρ,I (i + n) ρ→U.nx ρ)→forR (ugName m) s U ((List.range' i n).map fun j:Nat=>D.int j) ρ
 | 0,i,ρ,h0,_,h2=>h2 ρ h0
 | n + 1,i,ρ,h0,h1,h2=>by
  show forR (ugName m) s U (D.int i :: (List.range' (i + 1) n).map fun j:Nat=>D.int j) ρ
  refine h1 i ρ (Nat.le_refl _) (by lia) h0 _ fun r hr=>?_
  exact forR_rng0 I hr (fun j ρ hj hj2=>h1 j ρ (by lia) (by lia)) fun ρ h=>h2 ρ (by rw [show i + (n + 1)=i + 1 + n by lia]; exact h)
theorem forR_rng {s:US} {U:UEnds} {m n:Nat} {ρ:List Sl} (I:Nat→List Sl→Prop) (h0:I 0 ρ) (h1:∀ (j:Nat) ρ,j < n→I j ρ→∀ N:List Sl→Prop,(∀ r,I (j + 1) r→N r)→s { U with nx:=N,ct:=N,bk:=U.nx } (ρ.set m (.val (.int j))))
  (h2:∀ ρ,I n ρ→U.nx ρ):forR (ugName m) s U ((List.range n).map fun j:Nat=>D.int j) ρ:=by
 rw [List.range_eq_range']
 exact forR_rng0 I h0 (fun j ρ _ hj=>h1 j ρ (by lia)) fun ρ h=>h2 ρ (by rw [Nat.zero_add] at h; exact h)
theorem compG_map {α:Type} {f h:α→D} {u:UE} {fs:List Sl}:∀ {rs:List α} {v0:Sl} {k:List D→Prop},(∀ r∈rs,∀ k:D→Prop,k (h r)→u (.val (f r) :: fs) k)→k (rs.map h)→compG (ugName 0) utTrue u (rs.map f) (v0 :: fs) k
 | [],v0,k,_,hk=>hk
 | r :: rs,v0,k,hu,hk=>by
  show (if true=true then u (.val (f r) :: fs) fun y=>compG (ugName 0) utTrue u (rs.map f) (.val (f r) :: fs) fun ys=>k (y :: ys) else compG (ugName 0) utTrue u (rs.map f) (.val (f r) :: fs) k)
  rw [if_pos rfl]
  exact hu r List.mem_cons_self _ (compG_map (fun q hq=>hu q (List.mem_cons_of_mem _ hq)) hk)
theorem atI_map {α β:Type} {f:α→β} {rs:List α} {i:Int} {r:α} (h:atI rs i=some r):atI (rs.map f) i=some (f r):=by
 unfold atI at h ⊢
 rw [List.length_map]
 cases q:ixN rs.length i with
 | none=>rw [q] at h; cases h
 | some j =>
  rw [q] at h
  show (rs.map f)[j]?=_
  rw [List.getElem?_map,show rs[j]?=some r from h]
  rfl
theorem atI_ofNat {α:Type} {rs:List α} {i:Nat} (h:i < rs.length):atI rs (i:Int)=some rs[i]:=by
 unfold atI ixN
 rw [if_pos (by lia),if_pos (by lia)]
 show rs[((i:Int)).toNat]?=_
 rw [show ((i:Int)).toNat=i by lia,List.getElem?_eq_getElem h]
theorem cutL_drop {α:Type} {xs:List α} {i:Int} (h0:0≤i) (h1:i≤xs.length):cutL xs (some i) none=xs.drop i.toNat:=by
 unfold cutL
 have e1:HT.sIx xs.length 0 (some i)=i.toNat:=by
  unfold HT.sIx
  first | lia | (simp only []; split <;> lia) | (split <;> lia) | (dsimp only; split <;> (try split) <;> lia)
 have e2:HT.sIx xs.length xs.length none=xs.length:=rfl
 rw [e1,e2]
 exact List.take_of_length_le (by rw [List.length_drop]; lia)
theorem cutL_take {α:Type} {xs:List α} {i:Int} (h0:0≤i) (h1:i≤xs.length):cutL xs none (some i)=xs.take i.toNat:=by
 unfold cutL
 have e1:HT.sIx xs.length xs.length (some i)=i.toNat:=by
  unfold HT.sIx
  first | lia | (simp only []; split <;> lia) | (split <;> lia) | (dsimp only; split <;> (try split) <;> lia)
 have e2:HT.sIx xs.length 0 none=0:=rfl
 rw [e1,e2]
 rfl
end L3
namespace L3
open PySem L2
end L3
namespace L3
open PySem L2
end L3
namespace Cut
open PySem L2 L3
open PySem.Builtin.Int (intBits)
def dR (r:Int×Int):D:=.tup [.int r.1,.int r.2]
def dP (p:Int×Int×Int):D:=.tup [.int p.1,.int p.2.1,.int p.2.2]
def gsg (t b:Int):Int:=if b < 0 then -((Int.gcd t b:Nat):Int) else ((Int.gcd t b:Nat):Int)
def nrat (t b:Int):Int×Int:=(t.fdiv (gsg t b),b.fdiv (gsg t b))
theorem nrat_spec {t b:Int} (hb:b≠0):Low (nrat t b).1 (nrat t b).2∧(nrat t b).1 * b=t * (nrat t b).2∧(nrat t b).1.natAbs≤t.natAbs∧(nrat t b).2.natAbs≤b.natAbs:=by
 unfold nrat gsg
 split
 ·exact low_of hb rfl (.inr ⟨rfl,by assumption⟩)
 ·exact low_of hb rfl (.inl ⟨rfl,by lia⟩)
def g3 (a b n:Int):Int:=((Int.gcd (Int.gcd a n:Nat) b:Nat):Int)
def gsp (a b n:Int):Int:=if n < 0 then -g3 a b n else g3 a b n
def npt (a b n:Int):Int×Int×Int:=(a.fdiv (gsp a b n),b.fdiv (gsp a b n),n.fdiv (gsp a b n))
theorem npt_spec {a b n:Int} (hn:n≠0):Pt (npt a b n).1 (npt a b n).2.1 (npt a b n).2.2∧(npt a b n).1 * n=a * (npt a b n).2.2∧(npt a b n).2.1 * n=b * (npt a b n).2.2∧(npt a b n).1.natAbs≤a.natAbs∧(npt a b n).2.1.natAbs≤b.natAbs∧(npt a b n).2.2.natAbs≤n.natAbs:=by
 unfold npt gsp
 split
 ·exact pt_of hn rfl (.inr ⟨rfl,by assumption⟩)
 ·exact pt_of hn rfl (.inl ⟨rfl,by lia⟩)
theorem g3_an (a b n:Int):((Int.gcd (Int.gcd a n:Nat) b:Nat):Int)=g3 a b n:=rfl
theorem g3_pos {a b n:Int} (hn:n≠0):0 < g3 a b n:=gcd3_pos hn
theorem g3_bits {a b n:Int} {k:Nat} (hn:n≠0) (h:intBits n≤k):intBits (g3 a b n)≤k:=gcd3_bits hn h
theorem gcd_bits {a b:Int} {k:Nat} (hb:b≠0) (h:intBits b≤k):intBits ((Int.gcd a b:Nat):Int)≤k:=by
 refine intBits_le_of_natAbs ?_ h
 exact Nat.le_of_dvd (by lia) (by simpa using Int.natAbs_dvd_natAbs.mpr (Int.gcd_dvd_right a b))
theorem fdiv_of {a s x:Int} (h:a=s * x) (s0:s≠0):a.fdiv s=x:=by rw [h]; exact Int.mul_fdiv_cancel_left x s0
theorem gcd_fac {a b s x y:Int} (h1:a=s * x) (h2:b=s * y):Int.gcd a b=s.natAbs * Int.gcd x y:=by rw [h1,h2,Int.gcd_mul_left]
theorem dP_inj {p q:Int×Int×Int} (h:dP p=dP q):p=q:=by
 obtain ⟨a,b,c⟩:=p
 obtain ⟨d,e,f⟩:=q
 unfold dP at h
 cases h
 rfl
theorem dR_inj {p q:Int×Int} (h:dR p=dR q):p=q:=by
 obtain ⟨a,b⟩:=p
 obtain ⟨d,e⟩:=q
 unfold dR at h
 cases h
 rfl
theorem npt_inj {x y x' y' n:Int} (hn:n≠0) (h:dP (npt x y n)=dP (npt x' y' n)):x=x'∧y=y':=by
 have h:=dP_inj h
 obtain ⟨p,e1,e2,_⟩:=npt_spec (a:=x) (b:=y) hn
 obtain ⟨_,f1,f2,_⟩:=npt_spec (a:=x') (b:=y') hn
 rw [← h] at f1 f2
 have z:(npt x y n).2.2≠0:=Int.ne_of_gt p.1
 exact ⟨Int.eq_of_mul_eq_mul_right z (e1.symm.trans f1),Int.eq_of_mul_eq_mul_right z (e2.symm.trans f2)⟩
theorem nrat_cross {a b c d:Int} (hb:b≠0) (hd:d≠0) (h:a * d=c * b):nrat a b=nrat c d:=by
 obtain ⟨l1,e1,_⟩:=nrat_spec (t:=a) hb
 obtain ⟨l2,e2,_⟩:=nrat_spec (t:=c) hd
 have e:(nrat a b).1 * (nrat c d).2=(nrat c d).1 * (nrat a b).2:=by
  refine Int.eq_of_mul_eq_mul_right (Int.mul_ne_zero hb hd) ?_
  grind
 obtain ⟨x,y⟩:=low_uniq l1 l2 e
 exact Prod.ext x y
theorem nrat_low {x y:Int} (h:Low x y):nrat x y=(x,y):=by
 obtain ⟨l,e,_⟩:=nrat_spec (t:=x) (Int.ne_of_gt h.1)
 obtain ⟨a,b⟩:=low_uniq l h e
 exact Prod.ext a b
end Cut
namespace Cut
open PySem L2 L3
open PySem.Builtin.Int (intBits)
end Cut
namespace Cut
open PySem L2 L3
open PySem.Builtin.Int (intBits)
end Cut
namespace Cut
open PySem L2 L3
open PySem.Builtin.Int (intBits)
abbrev P3:=Int×Int×Int
def crs (p q:P3):P3:=(p.2.1 * q.2.2 - p.2.2 * q.2.1,p.2.2 * q.1 - p.1 * q.2.2,p.1 * q.2.1 - p.2.1 * q.1)
def nP (p:P3):P3:=npt p.1 p.2.1 p.2.2
abbrev PtP (p:P3):Prop:=Pt p.1 p.2.1 p.2.2
theorem nP_pt {p:P3} (hn:p.2.2≠0):PtP (nP p):=(npt_spec hn).1
structure BP (m:Nat) (p:P3):Prop where
 a:intBits p.1≤m
 b:intBits p.2.1≤m
 c:intBits p.2.2≤m
theorem BP.mono {m n:Nat} {p:P3} (h:BP m p) (l:m≤n):BP n p:=⟨Nat.le_trans h.a l,Nat.le_trans h.b l,Nat.le_trans h.c l⟩
theorem BP.nP {m:Nat} {p:P3} (h:BP m p) (hn:p.2.2≠0):BP m (Cut.nP p):=by
 obtain ⟨_,_,_,c1,c2,c3⟩:=npt_spec (a:=p.1) (b:=p.2.1) hn
 exact ⟨bits_of_abs c1 h.a,bits_of_abs c2 h.b,bits_of_abs c3 h.c⟩
theorem BP.crs {m n:Nat} {p q:P3} (hp:BP m p) (hq:BP n q):BP (m + n + 1) (Cut.crs p q):=by
 have e:∀ {x y u v:Int},intBits x≤m→intBits y≤n→intBits u≤m→intBits v≤n→intBits (x * y - u * v)≤m + n + 1:=fun a b c d=>Nat.le_trans (intBits_sub_le (intBits_mul_le a b) (intBits_mul_le c d)) (by lia)
 exact ⟨e hp.b hq.c hp.c hq.b,e hp.c hq.a hp.a hq.c,e hp.a hq.b hp.b hq.a⟩
end Cut
namespace PySem
open Sem (wp)
abbrev IsZ (h:Heap) (z TI TO:Addr) (f0 f1:Value):Prop :=
 h.get? z=some { cls:=.type "zip", dict:=none,data:=.fields #[f0,f1,.bool false,.ref TI,.ref TO],slots := #[] }
section
variable {prog:Program} {w:World} {A:Around} {E:Value→Shared→Prop} {s:Shared}
theorem wpAny_alive {a:Addr} {Q:Option Obj→Shared→Prop} (h:Q (s.heap.get? a) s):wpAny (model prog w) A (loadIfAlive a) Q E s:=fun _ _ _=>h
theorem zip_notFree {z TI TO T:Addr} {b:Bool} {oT:Obj} {Q:Bool→Shared→Prop} (hz:IsZ s.heap z TI TO (rawInt T) (.bool b)) (hT:s.heap.get? T=some oT)
  (hQ:∀ h',IsZ h' z TI TO (rawInt T) (.bool true)→Heap.SameBut z s.heap h'→Q false { s with heap:=h' }):wpAny (model prog w) A (Builtin.SmallTypes.ownedTupleIsFree (.ref z)) Q E s:=by
 unfold Builtin.SmallTypes.ownedTupleIsFree
 refine wpAny_bind (wpAny_field hz rfl (x:=rawInt T) rfl ?_)
 show wpAny _ _ (loadIfAlive ((T:Int).toNat) >>= _) _ _ _
 rw [Int.toNat_natCast]
 refine wpAny_bind (wpAny_alive ?_)
 rw [hT]
 show wpAny _ _ (field (.ref z) 1 >>= _) _ _ _
 refine wpAny_bind (wpAny_field hz rfl (x:=.bool b) rfl ?_)
 cases b with
 | true =>
  show wpAny _ _ (pure false) _ _ _
  exact wpAny_pure (hQ s.heap hz ⟨rfl,fun _ _=>rfl⟩)
 | false =>
  show wpAny _ _ (setField (.ref z) 1 (.bool true) >>= fun _=>pure false) _ _ _
  exact wpAny_bind (wpAny_setField_rec hz (by simp) fun h' hz' hs'=>wpAny_pure (hQ h' hz' hs'))
theorem zip_next_item2 {z TI TO i1 i2 l1 l2 T:Addr} {f1:Bool} {oT:Obj} {k1 k2:Nat} {xs ys:Array Value} {x y:Value} {Q:Value→Shared→Prop} (D:ZipApart z TI TO i1 i2 l1 l2)
  (hz:IsZ s.heap z TI TO (rawInt T) (.bool f1)) (hT:s.heap.get? T=some oT) (hTI:IsPair s.heap TI (.ref i1) (.ref i2))
  (h1:s.heap.IsListIter i1 l1 k1) (h2:s.heap.IsListIter i2 l2 k2) (hl1:s.heap.IsList l1 xs) (hl2:s.heap.IsList l2 ys) (hx:xs[k1]?=some x) (hy:ys[k2]?=some y)
  (hQ:∀ h',IsZ h' z TI TO (rawInt T) (.bool true)→h'.IsListIter i1 l1 (k1 + 1)→h'.IsListIter i2 l2 (k2 + 1)→IsPair h' s.heap.objs.size x y→h'.objs.size=s.heap.objs.size + 1 →
   (∀ c o,c≠z→c≠i1→c≠i2→s.heap.get? c=some o→h'.get? c=some o)→Q (.ref s.heap.objs.size) { s with heap:=h' }) :
  wpAny (model prog w) A (Builtin.«zip.__next__» ⟨[.ref z],[]⟩) (fun fin s'=>∃ v,fin=.done (.ret v)∧Q v s') E s:=by
 show wpAny _ _ (field (.ref z) 2 >>= _) _ _ _
 refine wpAny_bind (wpAny_field hz rfl (x:=.bool false) rfl ?_)
 show wpAny _ _ (field (.ref z) 3 >>= _) _ _ _
 refine wpAny_bind (wpAny_field hz rfl (x:=.ref TI) rfl ?_)
 refine wpAny_bind (wpAny_seqItems hTI rfl ?_)
 show wpAny _ _ (Builtin.SmallTypes.ownedTupleIsFree (.ref z) >>= _) _ _ _
 refine wpAny_bind (zip_notFree hz hT fun h₁ hz₁ hs₁=>?_)
 simp only [Bool.false_eq_true,if_false]
 refine wpAny_bind ?_
 simp only [← Array.forIn_toList,List.forIn_cons,List.forIn_nil]
 refine wpAny_bind (wpAny_bind (wpAny_holding ?_))
 show wpAny _ _ (Builtin.SmallTypes.nextOf (.ref i1) >>= _) _ _ _
 refine wpAny_bind (wpAny_nextOf_list_item (h1.extBut hs₁.extBut D.i1z) (hl1.extBut hs₁.extBut D.l1z) hx fun h₂ h1₂ hs₂=>wpAny_pure ?_)
 refine wpAny_pure ?_
 refine wpAny_bind (wpAny_bind (wpAny_holding ?_))
 show wpAny _ _ (Builtin.SmallTypes.nextOf (.ref i2) >>= _) _ _ _
 refine wpAny_bind (wpAny_nextOf_list_item ((h2.extBut hs₁.extBut D.i2z).extBut hs₂.extBut D.i12.symm) ((hl2.extBut hs₁.extBut D.l2z).extBut hs₂.extBut D.l2i1) hy fun h₃ h2₃ hs₃=>wpAny_pure ?_)
 refine wpAny_pure (wpAny_pure ?_)
 refine wpAny_bind (wpAny_newTuple (hsz:=by show 2≤sizeLine; decide) ?_)
 have hsz:h₃.objs.size=s.heap.objs.size:=by rw [hs₃.1,hs₂.1,hs₁.1]
 have hz₃:IsZ h₃ z TI TO (rawInt T) (.bool true):=hs₃.extBut _ _ D.i2z.symm (hs₂.extBut _ _ D.i1z.symm hz₁)
 have hk₃:∀ c o,c≠z→c≠i1→c≠i2→s.heap.get? c=some o→h₃.get? c=some o:=fun c o c1 c3 c4 e=>hs₃.extBut _ _ c4 (hs₂.extBut _ _ c3 (hs₁.extBut _ _ c1 e))
 have h1₃:h₃.IsListIter i1 l1 (k1 + 1):=h1₂.extBut hs₃.extBut D.i12
 refine wpAny_pure ⟨_,rfl,?_⟩
 show Q (.ref h₃.objs.size) _
 rw [hsz]
 refine hQ _ (Heap.get?_push_of_some _ hz₃) (h1₃.at fun o e=>Heap.get?_push_of_some _ e) (h2₃.at fun o e=>Heap.get?_push_of_some _ e) ?_ (by rw [Heap.size_push,hsz]) fun c o c1 c2 c3 e=>Heap.get?_push_of_some _ (hk₃ c o c1 c2 c3 e)
 have:=Heap.get?_push_size h₃ (o:={ cls:=.type "tuple", data:=.seq #[x,y] }) rfl
 rw [hsz] at this
 exact this
theorem zip_next_end2 {z TI TO i1 i2 l1 l2 T:Addr} {f1:Bool} {oT:Obj} {k1 k2:Nat} {xs ys:Array Value} {Q:Fin→Shared→Prop} (hh:A.handled=none) (D:ZipApart z TI TO i1 i2 l1 l2)
  (hz:IsZ s.heap z TI TO (rawInt T) (.bool f1)) (hT:s.heap.get? T=some oT) (hTI:IsPair s.heap TI (.ref i1) (.ref i2))
  (h1:s.heap.IsListIter i1 l1 k1) (h2:s.heap.IsListIter i2 l2 k2) (hl1:s.heap.IsList l1 xs) (hl2:s.heap.IsList l2 ys) (hend:xs[k1]?=none∨ys[k2]?=none)
  (hE:∀ h' e,(∀ c o,c≠z→c≠i1→c≠i2→s.heap.get? c=some o→h'.get? c=some o)→(∃ o,h'.get? e=some o∧o.cls=.type "StopIteration")→E (.ref e) { s with heap:=h' }) :
  wpAny (model prog w) A (Builtin.«zip.__next__» ⟨[.ref z],[]⟩) Q E s:=by
 show wpAny _ _ (field (.ref z) 2 >>= _) _ _ _
 refine wpAny_bind (wpAny_field hz rfl (x:=.bool false) rfl ?_)
 show wpAny _ _ (field (.ref z) 3 >>= _) _ _ _
 refine wpAny_bind (wpAny_field hz rfl (x:=.ref TI) rfl ?_)
 refine wpAny_bind (wpAny_seqItems hTI rfl ?_)
 show wpAny _ _ (Builtin.SmallTypes.ownedTupleIsFree (.ref z) >>= _) _ _ _
 refine wpAny_bind (zip_notFree hz hT fun h₁ hz₁ hs₁=>?_)
 simp only [Bool.false_eq_true,if_false]
 refine wpAny_bind ?_
 simp only [← Array.forIn_toList,List.forIn_cons,List.forIn_nil]
 refine wpAny_bind (wpAny_bind (wpAny_holding ?_))
 show wpAny _ _ (Builtin.SmallTypes.nextOf (.ref i1) >>= _) _ _ _
 cases hx:xs[k1]? with
 | none =>
  exact wpAny_bind (wpAny_nextOf_list_end hh (h1.extBut hs₁.extBut D.i1z) (hl1.extBut hs₁.extBut D.l1z) hx fun h₂ e hs₂ he=>hE h₂ e (fun c o c1 c3 _ x=>hs₂ _ _ c3 (hs₁.extBut _ _ c1 x)) he)
 | some x =>
  have hy:ys[k2]?=none:=by rcases hend with h | h; rw [hx] at h; cases h; exact h
  refine wpAny_bind (wpAny_nextOf_list_item (h1.extBut hs₁.extBut D.i1z) (hl1.extBut hs₁.extBut D.l1z) hx fun h₂ h1₂ hs₂=>wpAny_pure ?_)
  refine wpAny_pure ?_
  refine wpAny_bind (wpAny_bind (wpAny_holding ?_))
  show wpAny _ _ (Builtin.SmallTypes.nextOf (.ref i2) >>= _) _ _ _
  exact wpAny_bind (wpAny_nextOf_list_end hh ((h2.extBut hs₁.extBut D.i2z).extBut hs₂.extBut D.i12.symm) ((hl2.extBut hs₁.extBut D.l2z).extBut hs₂.extBut D.l2i1) hy fun h₄ e hs₄ he=>hE h₄ e (fun c o c1 c3 c4 x=>hs₄ _ _ c4 (hs₂.extBut _ _ c3 (hs₁.extBut _ _ c1 x))) he)
structure ZSt (S z TI TO i1 i2 l1 l2:Addr) (xs ys:Array Value) (i:Nat) (h:Heap):Prop where
 fl:(IsZ h z TI TO .none (.bool false)∧∃ a b,IsPair h TO a b)∨∃ (T:Addr) (b:Bool) (oT:Obj),IsZ h z TI TO (rawInt T) (.bool b)∧h.get? T=some oT∧T≠z∧T≠i1∧T≠i2∧T≠S
 tp:IsPair h TI (.ref i1) (.ref i2)
 it1:h.IsListIter i1 l1 i
 it2:h.IsListIter i2 l2 i
 ls1:h.IsList l1 xs
 ls2:h.IsList l2 ys
theorem ZSt.frame {S z TI TO i1 i2 l1 l2:Addr} {xs ys:Array Value} {i:Nat} {h h':Heap} (Z:ZSt S z TI TO i1 i2 l1 l2 xs ys i h) (nS:S ∉ [z,TI,TO,i1,i2,l1,l2]) (k:∀ c o,c≠S→h.get? c=some o→h'.get? c=some o):ZSt S z TI TO i1 i2 l1 l2 xs ys i h':=by
 have ne:∀ c,c∈[z,TI,TO,i1,i2,l1,l2]→c≠S:=fun c hc e=>nS (e ▸ hc)
 refine ⟨?_,k _ _ (ne _ (by simp)) Z.tp,Z.it1.at fun o e=>k _ o (ne _ (by simp)) e,Z.it2.at fun o e=>k _ o (ne _ (by simp)) e,Z.ls1.at fun o e=>k _ o (ne _ (by simp)) e,Z.ls2.at fun o e=>k _ o (ne _ (by simp)) e⟩
 rcases Z.fl with ⟨h1,a,b,h2⟩ | ⟨T,b,oT,h1,h2,h3,h4,h5,h6⟩
 ·exact .inl ⟨k _ _ (ne _ (by simp)) h1,a,b,k _ _ (ne _ (by simp)) h2⟩
 ·exact .inr ⟨T,b,oT,k _ _ (ne _ (by simp)) h1,k _ _ h6 h2,h3,h4,h5,h6⟩
theorem zip_step {S z TI TO i1 i2 l1 l2:Addr} {xs ys:Array Value} {i:Nat} {x y:Value} {Q:Option Value→Shared→Prop} (D:ZipApart z TI TO i1 i2 l1 l2) (Z:ZSt S z TI TO i1 i2 l1 l2 xs ys i s.heap) (hS:S < s.heap.objs.size) (hx:xs[i]?=some x) (hy:ys[i]?=some y)
  (hQ:∀ h',ZSt S z TI TO i1 i2 l1 l2 xs ys (i + 1) h'→IsPair h' s.heap.objs.size x y→h'.objs.size=s.heap.objs.size + 1→(∀ c o,c≠z→c≠TO→c≠i1→c≠i2→s.heap.get? c=some o→h'.get? c=some o)→Q (some (.ref s.heap.objs.size)) { s with heap:=h' }) :
  wpAny (model prog w) A (pyNext (.ref z)) Q E s:=by
 have lt1:i1 < s.heap.objs.size:=by obtain ⟨_,e,_⟩:=Z.it1; exact Heap.lt_size e
 have lt2:i2 < s.heap.objs.size:=by obtain ⟨_,e,_⟩:=Z.it2; exact Heap.lt_size e
 rcases Z.fl with ⟨hz,a,b,hTO⟩ | ⟨T,b,oT,hz,hT,t1,t2,t3,t4⟩
 ·have ltz:z < s.heap.objs.size:=Heap.lt_size hz
  refine wpAny_pyNext_zip_item D hz Z.tp hTO Z.it1 Z.it2 Z.ls1 Z.ls2 hx hy fun h' a1 a2 a3 a4 a5 a6 hk=>?_
  exact hQ h' ⟨.inr ⟨_,false,_,a1,a5,Nat.ne_of_gt ltz,Nat.ne_of_gt lt1,Nat.ne_of_gt lt2,Nat.ne_of_gt hS⟩,hk _ _ D.TIz D.TITO D.TIi1 D.TIi2 Z.tp,a3,a4,Z.ls1.at fun o e=>hk _ o D.l1z D.l1TO D.l1i1 D.l1i2 e,Z.ls2.at fun o e=>hk _ o D.l2z D.l2TO D.l2i1 D.l2i2 e⟩ a5 a6 hk
 ·have hTy:s.TypeIs (.ref z) "zip" := ⟨_,hz,rfl⟩
  unfold pyNext
  refine wpAny_bind (wpAny_attempt (wpAny_callSpecial?_slot (name:=Str.ofString "__next__") hTy F.slot_zip_next
   (wpAny_call_entry F.slot_zip_next hTy F.entry_zip_next
    (zip_next_item2 D hz hT Z.tp Z.it1 Z.it2 Z.ls1 Z.ls2 hx hy fun h' a1 a3 a4 a5 a6 hk=>wpAny_pure ?_) (F.args_zip_next_1 _))))
  exact hQ h' ⟨.inr ⟨T,true,oT,a1,hk _ _ t1 t2 t3 hT,t1,t2,t3,t4⟩,hk _ _ D.TIz D.TIi1 D.TIi2 Z.tp,a3,a4,Z.ls1.at fun o e=>hk _ o D.l1z D.l1i1 D.l1i2 e,Z.ls2.at fun o e=>hk _ o D.l2z D.l2i1 D.l2i2 e⟩ a5 a6 fun c o c1 _ c3 c4 e=>hk c o c1 c3 c4 e
theorem zip_stop {S z TI TO i1 i2 l1 l2:Addr} {xs ys:Array Value} {i:Nat} {Q:Option Value→Shared→Prop} (hh:A.handled=none) (D:ZipApart z TI TO i1 i2 l1 l2) (Z:ZSt S z TI TO i1 i2 l1 l2 xs ys i s.heap) (hend:xs[i]?=none∨ys[i]?=none)
  (hQ:∀ h',(∀ c o,c≠z→c≠TO→c≠i1→c≠i2→s.heap.get? c=some o→h'.get? c=some o)→Q none { s with heap:=h' }) :
  wpAny (model prog w) A (pyNext (.ref z)) Q E s:=by
 rcases Z.fl with ⟨hz,a,b,hTO⟩ | ⟨T,b,oT,hz,hT,t1,t2,t3,t4⟩
 ·exact wpAny_pyNext_zip_end hh D hz Z.tp hTO Z.it1 Z.it2 Z.ls1 Z.ls2 hend hQ
 ·have hTy:s.TypeIs (.ref z) "zip" := ⟨_,hz,rfl⟩
  unfold pyNext
  refine wpAny_bind (wpAny_attempt (wpAny_callSpecial?_slot (name:=Str.ofString "__next__") hTy F.slot_zip_next
   (wpAny_call_entry F.slot_zip_next hTy F.entry_zip_next (zip_next_end2 hh D hz hT Z.tp Z.it1 Z.it2 Z.ls1 Z.ls2 hend fun h' e hk he=>?_) (F.args_zip_next_1 _))))
  obtain ⟨o,ho,hc⟩:=he
  refine wpAny_bind (wpAny_isInstance (T := "StopIteration") (b:=true) ⟨o,ho,hc⟩ isSubtype_stop ?_)
  exact wpAny_pure (hQ _ fun c o c1 _ c3 c4 e=>hk c o c1 c3 c4 e)
end
structure Got (lo:Nat) (av:List Addr) (xs ys:Array Value) (h:Heap) (ts:List Addr):Prop where
 nd:ts.Nodup
 new:∀ t∈ts,lo≤t∧t ∉ av
 pair:∀ (j:Nat) (t:Addr),ts[j]?=some t→∃ x y,xs[j]?=some x∧ys[j]?=some y∧IsPair h t x y
theorem Got.frame {lo:Nat} {av:List Addr} {xs ys:Array Value} {h h':Heap} {ts:List Addr} (g:Got lo av xs ys h ts) (k:∀ c o,c ∉ av→h.get? c=some o→h'.get? c=some o):Got lo av xs ys h' ts :=
 ⟨g.nd,g.new,fun j t e=>let ⟨x,y,h1,h2,h3⟩:=g.pair j t e; ⟨x,y,h1,h2,k t _ (g.new t (List.mem_of_getElem? e)).2 h3⟩⟩
section
variable {prog:Program} {w:World} {A:Around} {R:Result→Shared→Prop}
theorem zip_loop {S z TI TO i1 i2 l1 l2:Addr} {xs ys:Array Value} {lo n:Nat} (hh:A.in1.handled=none) (D:ZipApart z TI TO i1 i2 l1 l2) (nS:S ∉ [z,TI,TO,i1,i2,l1,l2]) (hn:n≤sizeLine) (en:n=min xs.size ys.size) (hav:∀ a∈[z,TO,i1,i2,S],a < lo) (res:Value) :
  ∀ (k i:Nat) (s:Shared) (ts:List Addr) (c:Nat),n - i=k→i≤n→lo≤s.heap.objs.size→ZSt S z TI TO i1 i2 l1 l2 xs ys i s.heap→s.heap.get? S=some { cls:=.type "list", dict:=none,data:=.seq (ts.map Value.ref).toArray c,slots := #[] }→ts.length=i→Got lo [z,TO,i1,i2,S] xs ys s.heap ts →
  (∀ h' ts' c',h'.get? S=some { cls:=.type "list", dict:=none,data:=.seq (ts'.map Value.ref).toArray c',slots := #[] }→ts'.length=n→Got lo [z,TO,i1,i2,S] xs ys h' ts'→(∀ c o,c ∉ [z,TO,i1,i2,S]→s.heap.get? c=some o→h'.get? c=some o)→R (.ok (.ret res)) { s with heap:=h' }) →
  codeAny (model prog w) A (.builtin "list.extend.loop" ⟨[.ref S,.ref z,res],[]⟩) R s:=by
 intro k
 induction k with
 | zero =>
  intro i s ts c hk hi hlo hst hS hl hg hR
  have hin:i=n:=by lia
  subst hin
  refine codeAny_builtin F.entry_extend_loop ?_
  rw [Around.under_plainId F.plain_extend_loop _]
  show wpAny _ A.in1 (pyNext (.ref z) >>= _) _ _ s
  refine wpAny_bind (zip_stop hh D hst ?_ fun h' hk'=>?_)
  ·rcases Nat.le_total xs.size ys.size with h | h
   ·exact .inl (Array.getElem?_eq_none (by lia))
   ·exact .inr (Array.getElem?_eq_none (by lia))
  have k2:∀ c o,c ∉ [z,TO,i1,i2,S]→s.heap.get? c=some o→h'.get? c=some o:=fun c o hc e=>hk' c o (fun h=>hc (by simp [h])) (fun h=>hc (by simp [h])) (fun h=>hc (by simp [h])) (fun h=>hc (by simp [h])) e
  exact wpAny_pure (hR h' ts c (hk' S _ (fun h=>nS (by simp [h])) (fun h=>nS (by simp [h])) (fun h=>nS (by simp [h])) (fun h=>nS (by simp [h])) hS) hl (hg.frame k2) k2)
 | succ k ih =>
  intro i s ts c hk hi hlo hst hS hl hg hR
  have hlt:i < n:=by lia
  refine codeAny_builtin F.entry_extend_loop ?_
  rw [Around.under_plainId F.plain_extend_loop _]
  show wpAny _ A.in1 (pyNext (.ref z) >>= _) _ _ s
  have hx:xs[i]?=some xs[i]:=Array.getElem?_eq_getElem (by lia)
  have hy:ys[i]?=some ys[i]:=Array.getElem?_eq_getElem (by lia)
  refine wpAny_bind (zip_step D hst (Heap.lt_size hS) hx hy fun h' Z' pr sz hk'=>?_)
  have hS':h'.get? S=_:=hk' S _ (fun h=>nS (by simp [h])) (fun h=>nS (by simp [h])) (fun h=>nS (by simp [h])) (fun h=>nS (by simp [h])) hS
  have k2:∀ c o,c ∉ [z,TO,i1,i2,S]→s.heap.get? c=some o→h'.get? c=some o:=fun c o hc e=>hk' c o (fun h=>hc (by simp [h])) (fun h=>hc (by simp [h])) (fun h=>hc (by simp [h])) (fun h=>hc (by simp [h])) e
  have ltS:S < s.heap.objs.size:=Heap.lt_size hS
  have nav:s.heap.objs.size ∉ [z,TO,i1,i2,S]:=fun hm=>by
   exact absurd (hav _ hm) (Nat.not_lt.mpr hlo)
  show wpAny _ A.in1 (updateSeq S (·.push (.ref s.heap.objs.size)) >>= _) _ _ _
  refine wpAny_bind ?_
  have sz1:(ts.map Value.ref).toArray.size=i:=by simp [hl]
  have sb:Heap.SameBut S h' (h'.update S (Obj.mapSeq (·.push (Value.ref s.heap.objs.size)))):=Heap.SameBut.update ..
  have e1:(ts.map Value.ref).toArray.push (.ref s.heap.objs.size)=((ts ++ [s.heap.objs.size]).map Value.ref).toArray:=by simp
  have hS₂:=Heap.get?_update_self (Obj.mapSeq (·.push (Value.ref s.heap.objs.size))) hS' rfl
  replace hS₂:(h'.update S (Obj.mapSeq (·.push (Value.ref s.heap.objs.size)))).get? S=some { cls:=.type "list", dict:=none,data:=.seq ((ts.map Value.ref).toArray.push (.ref s.heap.objs.size)) _,slots := #[] }:=hS₂
  rw [e1] at hS₂
  refine wpAny_updateSeq hS' rfl (wpAny_pure ⟨plainId_quiet F.plain_extend_loop _,ih (i + 1) _ (ts ++ [s.heap.objs.size]) _ (by lia) hlt ?_ (Z'.frame nS fun c o hc e=>?_) hS₂ (by simp [hl]) ?_ fun h'' ts' c' q1 q2 q3 q4=>?_⟩)
   (by rw [sz1]; lia) (by show (Array.push _ _).size≤sizeLine + 1; rw [Array.size_push,sz1]; lia)
  ·show lo≤(h'.update S (Obj.mapSeq (·.push (Value.ref s.heap.objs.size)))).objs.size
   rw [sb.1,sz]
   lia
  ·exact sb.extBut _ _ hc e
  ·refine Got.frame (h:=h') ⟨?_,fun t ht=>?_,fun j t hj=>?_⟩ fun c o hc e=>sb.extBut _ _ (fun h=>hc (by simp [h])) e
   ·refine List.nodup_append.mpr ⟨hg.nd,by simp,fun a ha b hb e=>?_⟩
    have hb:b=s.heap.objs.size:=by simpa using hb
    subst hb e
    obtain ⟨j,hj⟩:=List.getElem?_of_mem ha
    obtain ⟨_,_,_,_,q⟩:=hg.pair j _ hj
    exact Nat.lt_irrefl _ (Heap.lt_size q)
   ·rcases List.mem_append.mp ht with ht | ht
    ·exact hg.new t ht
    ·have:t=s.heap.objs.size:=by simpa using ht
     subst this
     exact ⟨hlo,nav⟩
   ·rcases Nat.lt_or_ge j ts.length with hjl | hjl
    ·rw [List.getElem?_append_left hjl] at hj
     obtain ⟨x,y,q1,q2,q3⟩:=hg.pair j t hj
     exact ⟨x,y,q1,q2,k2 _ _ (hg.new t (List.mem_of_getElem? hj)).2 q3⟩
    ·rw [List.getElem?_append_right hjl] at hj
     have jl:j - ts.length=0:=by
      rcases Nat.eq_zero_or_pos (j - ts.length) with z | z
      ·exact z
      ·rw [List.getElem?_eq_none (by show 1≤_; lia)] at hj; cases hj
     rw [jl] at hj
     have ej:j=i:=by lia
     subst ej
     cases hj
     exact ⟨_,_,hx,hy,pr⟩
  ·exact hR h'' ts' c' q1 q2 q3 fun c o hc e=>q4 c o hc (sb.extBut _ _ (fun h=>hc (by simp [h])) (k2 c o hc e))
theorem zip_no_len:typeLookup (.type "zip") "__len__" = pure none:=by rw [typeLookup_type,builtinLookup_eq_fast]; kernel_rfl
theorem zip_no_hint:typeLookup (.type "zip") "__length_hint__" = pure none:=by rw [typeLookup_type,builtinLookup_eq_fast]; kernel_rfl
theorem list_init_zip {s:Shared} {S z TI TO i1 i2 l1 l2:Addr} {xs ys:Array Value} {lo n:Nat} (hh:A.in1.handled=none) (D:ZipApart z TI TO i1 i2 l1 l2) (nS:S ∉ [z,TI,TO,i1,i2,l1,l2]) (hn:n≤sizeLine) (en:n=min xs.size ys.size) (hav:∀ a∈[z,TO,i1,i2,S],a < lo)
  (hlo:lo≤s.heap.objs.size) (Z:ZSt S z TI TO i1 i2 l1 l2 xs ys 0 s.heap) (hz0:IsZ s.heap z TI TO .none (.bool false)) (hS:s.heap.get? S=some { cls:=.type "list", data:=.seq #[] })
  (hR:∀ h' ts c',h'.get? S=some { cls:=.type "list", dict:=none,data:=.seq (ts.map Value.ref).toArray c',slots := #[] }→ts.length=n→Got lo [z,TO,i1,i2,S] xs ys h' ts→(∀ c o,c ∉ [z,TO,i1,i2,S]→s.heap.get? c=some o→h'.get? c=some o)→R (.ok (.ret .none)) { s with heap:=h' }) :
  wpAny (model prog w) A.in1 (Builtin.«list.__init__» ⟨[.ref S,.ref z],[]⟩)
   (fun fin s'=>match fin with | .done f=>R (.ok f) s' | .again c'=>c'.quiet=true∧codeAny (model prog w) A c' R s') (fun e s'=>R (.error e) s') s:=by
 have zS:z≠S:=fun h=>nS (by simp [h])
 show wpAny _ A.in1 (do let old ← Builtin.List.listItems (.ref S); Builtin.List.listUpdate (.ref S) (fun _ => #[]); letGo old.toList.reverse; Builtin.List.listExtendWith (.ref S) (.ref z) .none) _ _ s
 refine wpAny_bind ?_
 unfold Builtin.List.listItems
 refine wpAny_bind (wpAny_seqItems hS rfl (wpAny_pure ?_))
 show wpAny _ A.in1 (updateSeq S (fun _ => #[]) >>= fun _=>letGo (#[]:Array Value).toList.reverse >>= fun _=>Builtin.List.listExtendWith (.ref S) (.ref z) .none) _ _ s
 refine wpAny_bind (wpAny_updateSeq hS rfl ?_)
 have sb1:Heap.SameBut S s.heap (s.heap.update S (Obj.mapSeq (fun _=>(#[]:Array Value)))):=Heap.SameBut.update ..
 have hS₂:=Heap.get?_update_self (Obj.mapSeq (fun _=>(#[]:Array Value))) hS rfl
 refine wpAny_bind (wpAny_letGo ?_)
 have hz1:IsZ (s.heap.update S (Obj.mapSeq (fun _=>(#[]:Array Value)))) z TI TO .none (.bool false):=sb1.extBut _ _ zS hz0
 have hT:Shared.TypeIs { s with heap:=s.heap.update S (Obj.mapSeq (fun _=>(#[]:Array Value))) } (.ref z) "zip" := ⟨_,hz1,rfl⟩
 unfold Builtin.List.listExtendWith
 refine wpAny_bind (wpAny_typeOf hT ?_)
 have h1:Builtin.List.listSameRef (.ref S) (.ref z)=false:=by simp [Builtin.List.listSameRef,zS.symm]
 have h2:(Value.type "zip" == Value.type "list")=false:=by decide
 have h3:(Value.type "zip" == Value.type "tuple")=false:=by decide
 simp only [h1,h2,h3,Bool.or_false,Bool.false_eq_true,if_false]
 refine wpAny_bind (wpAny_pyIter_zip hz1 ?_)
 refine wpAny_bind (wpAny_holding ?_)
 unfold Builtin.List.listLengthHint
 refine wpAny_bind (wpAny_specialOf hT zip_no_len ?_)
 show wpAny _ A.in1 (specialOf (Value.ref z) (Str.ofString "__length_hint__") >>= _) _ _ _
 refine wpAny_bind (wpAny_specialOf hT zip_no_hint ?_)
 refine wpAny_pure ?_
 show wpAny _ A.in1 (rule "list.extend.makes-room" >>= fun _=>Builtin.List.listTouch (.ref S) >>= fun _ =>
  again (.builtin "list.extend.loop" ⟨[.ref S,.ref z,.none],[]⟩)) _ _ _
 refine wpAny_bind (wpAny_rule ?_)
 refine wpAny_bind ?_
 show wpAny _ A.in1 (updateSeq S (·.push .none) >>= fun _=>updateSeq S (·.pop)) _ _ _
 refine wpAny_bind (wpAny_updateSeq hS₂ rfl ?_)
 have hS₃:=Heap.get?_update_self (Obj.mapSeq (·.push Value.none)) hS₂ rfl
 refine wpAny_updateSeq (hz:=by seq_fits) hS₃ rfl ?_
 have hS₄:=Heap.get?_update_self (Obj.mapSeq (·.pop)) hS₃ rfl
 have sb2:Heap.SameBut S (s.heap.update S (Obj.mapSeq (fun _=>(#[]:Array Value)))) ((s.heap.update S (Obj.mapSeq (fun _=>(#[]:Array Value)))).update S (Obj.mapSeq (·.push Value.none))):=Heap.SameBut.update ..
 have sb3:Heap.SameBut S ((s.heap.update S (Obj.mapSeq (fun _=>(#[]:Array Value)))).update S (Obj.mapSeq (·.push Value.none))) (((s.heap.update S (Obj.mapSeq (fun _=>(#[]:Array Value)))).update S (Obj.mapSeq (·.push Value.none))).update S (Obj.mapSeq (·.pop))):=Heap.SameBut.update ..
 have oth:∀ b o,b≠S→s.heap.get? b=some o→(((s.heap.update S (Obj.mapSeq (fun _=>(#[]:Array Value)))).update S (Obj.mapSeq (·.push Value.none))).update S (Obj.mapSeq (·.pop))).get? b=some o :=
  fun b o hb e=>sb3.extBut _ _ hb (sb2.extBut _ _ hb (sb1.extBut _ _ hb e))
 refine wpAny_pure ⟨plainId_quiet F.plain_extend_loop _,zip_loop (lo:=lo) (n:=n) hh D nS hn en hav .none n 0 _ [] _ rfl (Nat.zero_le _) ?_ (Z.frame nS fun c o hc e=>oth c o hc e) hS₄ rfl ⟨by simp,by simp,by simp⟩ fun h' ts c' q1 q2 q3 q4=>?_⟩
 ·show lo≤(((s.heap.update S (Obj.mapSeq (fun _=>(#[]:Array Value)))).update S (Obj.mapSeq (·.push Value.none))).update S (Obj.mapSeq (·.pop))).objs.size
  rw [sb3.1,sb2.1,sb1.1]
  exact hlo
 ·exact hR h' ts c' q1 q2 q3 fun c o hc e=>q4 c o hc (oth c o (fun h=>hc (by simp [h])) e)
end
section
variable {prog:Program} {w:World} {A:Around} {E:Value→Shared→Prop} {s:Shared}
theorem call_list_zip {Q:Value→Shared→Prop} {z TI TO i1 i2 l1 l2:Addr} {xs ys:Array Value} {n:Nat} (hh:A.handled=none) (D:ZipApart z TI TO i1 i2 l1 l2) (hn:n≤sizeLine) (en:n=min xs.size ys.size)
  (hz:IsZ s.heap z TI TO .none (.bool false)) (hTO:∃ a b,IsPair s.heap TO a b) (hTI:IsPair s.heap TI (.ref i1) (.ref i2)) (h1:s.heap.IsListIter i1 l1 0) (h2:s.heap.IsListIter i2 l2 0) (hl1:s.heap.IsList l1 xs) (hl2:s.heap.IsList l2 ys)
  (hQ:∀ h' ts c',h'.get? s.heap.objs.size=some { cls:=.type "list", dict:=none,data:=.seq (ts.map Value.ref).toArray c',slots := #[] }→ts.length=n→Got (s.heap.objs.size + 1) [] xs ys h' ts→(∀ c o,c ∉ [z,TO,i1,i2]→s.heap.get? c=some o→h'.get? c=some o)→Q (.ref s.heap.objs.size) { s with heap:=h' }) :
  wpAny (model prog w) A (call (.type "list") [.ref z]) Q E s:=by
 refine callType_codes (Q₁:=fun obj s₁=>obj=.ref s.heap.objs.size∧s₁={ s with heap:=s.heap.push { cls:=.type "list", data:=.seq #[] } }) F.called_list (F.typeCall_list_1 _) F.entry_list_init
  (code_list_new _ ⟨rfl,rfl⟩) fun obj s₁ h₁=>?_
 obtain ⟨rfl,rfl⟩:=h₁
 have hS:(s.heap.push { cls:=.type "list", data:=.seq #[] }).get? s.heap.objs.size=some { cls:=.type "list", data:=.seq #[] }:=Heap.get?_push_size _ rfl
 have up:∀ {b o},s.heap.get? b=some o→(s.heap.push { cls:=.type "list", data:=.seq #[] }).get? b=some o:=fun e=>Heap.get?_push_of_some _ e
 obtain ⟨a,b,hTO⟩:=hTO
 have lz:z < s.heap.objs.size:=Heap.lt_size hz
 have lTI:TI < s.heap.objs.size:=Heap.lt_size hTI
 have lTO:TO < s.heap.objs.size:=Heap.lt_size hTO
 have li1:i1 < s.heap.objs.size:=by obtain ⟨_,e,_⟩:=h1; exact Heap.lt_size e
 have li2:i2 < s.heap.objs.size:=by obtain ⟨_,e,_⟩:=h2; exact Heap.lt_size e
 have ll1:l1 < s.heap.objs.size:=by obtain ⟨_,e,_⟩:=hl1; exact Heap.lt_size e
 have ll2:l2 < s.heap.objs.size:=by obtain ⟨_,e,_⟩:=hl2; exact Heap.lt_size e
 have nS:s.heap.objs.size ∉ [z,TI,TO,i1,i2,l1,l2]:=fun hm=>by
  simp only [List.mem_cons,List.not_mem_nil,or_false] at hm
  have ne:∀ {b:Addr},b < s.heap.objs.size→s.heap.objs.size≠b:=fun l e=>Nat.lt_irrefl _ (Nat.lt_of_lt_of_eq l e)
  rcases hm with h | h | h | h | h | h | h <;> first | exact ne lz h | exact ne lTI h | exact ne lTO h | exact ne li1 h | exact ne li2 h | exact ne ll1 h | exact ne ll2 h
 refine ⟨⟨_,hS,rfl⟩,F.args_list_init_2 _ _,list_init_zip (lo:=s.heap.objs.size + 1) (n:=n) hh D nS hn en ?_ (by rw [Heap.size_push]; exact Nat.le_refl _) ⟨.inl ⟨up hz,a,b,up hTO⟩,up hTI,h1.at fun o e=>up e,h2.at fun o e=>up e,hl1.at fun o e=>up e,hl2.at fun o e=>up e⟩ (up hz) hS fun h' ts c' q1 q2 q3 q4=>⟨rfl,?_⟩⟩
 ·intro a ha
  simp only [List.mem_cons,List.not_mem_nil,or_false] at ha
  rcases ha with rfl | rfl | rfl | rfl | rfl
  ·exact Nat.lt_succ_of_lt lz
  ·exact Nat.lt_succ_of_lt lTO
  ·exact Nat.lt_succ_of_lt li1
  ·exact Nat.lt_succ_of_lt li2
  ·exact Nat.lt_succ_self _
 ·refine hQ h' ts c' q1 q2 ⟨q3.nd,fun t ht=>⟨(q3.new t ht).1,by simp⟩,q3.pair⟩ fun c o hc e=>q4 c o ?_ (up e)
  have:=Heap.lt_size e
  intro hm
  simp only [List.mem_cons,List.not_mem_nil,or_false] at hm hc
  rcases hm with h | h | h | h | h
  ·exact hc (.inl h)
  ·exact hc (.inr (.inl h))
  ·exact hc (.inr (.inr (.inl h)))
  ·exact hc (.inr (.inr (.inr h)))
  ·exact Nat.lt_irrefl _ (Nat.lt_of_lt_of_eq this h.symm)
end
end PySem
namespace L2
open PySem PySem.Spec PyProof.Rows PySem.W
def lays (H:Hp):List Addr→List (V×V)→Hp
 | t :: ts,p :: ps=>lays (upd H t (.tup [p.1,p.2])) ts ps
 | _,_=>H
theorem lays_old:∀ {ts:List Addr} {ps:List (V×V)} {H:Hp} {b:Addr},b ∉ ts→lays H ts ps b=H b
 | [],_,_,_,_=>rfl
 | _ :: _,[],_,_,_=>rfl
 | t :: ts,p :: ps,H,b,h=>by
  show lays (upd H t _) ts ps b=H b
  rw [lays_old (fun z=>h (List.mem_cons_of_mem _ z)),upd_ne (fun z:b=t=>h (by rw [z]; exact List.mem_cons_self))]
theorem lays_cases:∀ {ts:List Addr} {ps:List (V×V)} {H:Hp} {b:Addr} {o:HO},lays H ts ps b=some o→(∃ (j:Nat) (p:V×V),ts[j]?=some b∧ps[j]?=some p∧o=.tup [p.1,p.2])∨H b=some o
 | [],_,_,_,_,h=>.inr h
 | _ :: _,[],_,_,_,h=>.inr h
 | t :: ts,p :: ps,H,b,o,h=>by
  rcases lays_cases (ts:=ts) (ps:=ps) h with ⟨j,q,h1,h2,h3⟩ | h
  ·exact .inl ⟨j + 1,q,by simpa using h1,by simpa using h2,h3⟩
  ·by_cases hb:b=t
   ·subst hb
    rw [upd_same] at h
    cases h
    exact .inl ⟨0,p,rfl,rfl,rfl⟩
   ·rw [upd_ne hb] at h
    exact .inr h
theorem vals_refs2:∀ (ts:List Addr),Vals (ts.map V.ref) (ts.map Value.ref)
 | []=>.nil
 | t :: ts=>.cons rfl (vals_refs2 ts)
theorem neN {x y:Nat} (h:x < y∨y < x):x≠y:=by lia
theorem zipApart_at {n a b:Nat} (ha:a < n) (hb:b < n):ZipApart (n + 4) (n + 2) (n + 3) n (n + 1) a b :=
 ⟨neN (by lia),neN (by lia),neN (by lia),neN (by lia),neN (by lia),neN (by lia),neN (by lia),neN (by lia),neN (by lia),neN (by lia),neN (by lia),neN (by lia),neN (by lia),neN (by lia),neN (by lia),neN (by lia),neN (by lia),neN (by lia)⟩
theorem outN {n c:Nat} (h:c < n) (hm:c∈[n + 4,n + 3,n,n + 1]):False:=by
 simp only [List.mem_cons,List.not_mem_nil,or_false] at hm
 lia
section
variable {X:Cx}
def tLZ (t:TA):TE:=fun σ H Q=>t σ H fun vs H1=>∃ a b xs ys,vs=[.ref a,.ref b]∧H1 a=some (.lst xs)∧H1 b=some (.lst ys) ∧
 ∀ (ts:List Addr) (S:Addr),ts.length=(xs.zip ys).length→ts.Nodup→S ∉ ts→(∀ t∈ts,H1 t=none)→H1 S=none→Q (.ref S) (upd (lays H1 ts (xs.zip ys)) S (.lst (ts.map V.ref)))
theorem pe_listzip {e1 e2:Expr} {t:TA} {p1 p2 pos1 pos2:Pos} (ha:PA X [e1,e2] t) (hc:X.calm=true) (hgl:Gl X "list") (hml:X.mg "list" = none) (hgz:Gl X "zip") (hmz:X.mg "zip" = none)
  (he1:starEach [.Call (.Name "zip" p2) [e1,e2] [] pos2] X.env=(false,eval (.Call (.Name "zip" p2) [e1,e2] [] pos2) X.env) :: starEach [] X.env:=by rfl)
  (he2:starEach [e1,e2] X.env=(false,eval e1 X.env) :: starEach [e2] X.env:=by rfl) (hpl:(backTo pos2 (starEach [e2] X.env)).any (·.1)=false:=by rfl) :
  PE X (.Call (.Name "list" p1) [.Call (.Name "zip" p2) [e1,e2] [] pos2] [] pos1) (tLZ t):=by
 intro pins s σ H Q I h
 refine wpAny_Call_Name_kw (ld_blt (u:=.type "list") I hgl hml (by decide +kernel) ?_)
 refine PyProof.Rows.callWith_type1 ?_ he1 rfl
 rw [he1]
 refine Calls.spliced_cons ?_
 refine wpAny_Call_Name_kw (ld_blt (u:=.type "zip") I hgz hmz (by decide +kernel) ?_)
 refine PyProof.Rows.callWith_type1 (thn (ha pos2 pins s σ H _ I h) fun us s1 ⟨vs,H1,I1,r1,q1⟩=>?_) he2 hpl
 obtain ⟨a,b,xs,ys,rfl,hA,hB,q⟩:=q1
 obtain ⟨u,v,rfl,ru,rv⟩:=vals2 r1
 cases ru; cases rv
 obtain ⟨z1,its1,n1,v1,len1,o1⟩:=I1.lstM hA
 obtain ⟨z2,its2,n2,v2,len2,o2⟩:=I1.lstM hB
 have L1:s1.heap.IsList a its1.toArray:=⟨_,o1,rfl,n1,rfl⟩
 have L2:s1.heap.IsList b its2.toArray:=⟨_,o2,rfl,n2,rfl⟩
 have la:a < s1.heap.objs.size:=Heap.lt_size o1
 have lb:b < s1.heap.objs.size:=Heap.lt_size o2
 refine call_zip_2 L1 L2 fun h1 a1 a2 a3 a4 a5 a6 k1=>?_
 refine Calls.spliced_nil ?_
 have D:ZipApart (s1.heap.objs.size + 4) (s1.heap.objs.size + 2) (s1.heap.objs.size + 3) s1.heap.objs.size (s1.heap.objs.size + 1) a b:=zipApart_at la lb
 refine call_list_zip (n:=min its1.length its2.length) (I1.ok.hd hc) D (by lia) (by simp) a1 ⟨_,_,a3⟩ a2 a4 a5 (L1.at fun o e=>k1 _ _ e) (L2.at fun o e=>k1 _ _ e) fun h2 ts c' g1 g2 g3 g4=>?_
 have keep:∀ c o,s1.heap.get? c=some o→h2.get? c=some o:=fun c o e=>g4 c o (fun hm=>outN (Heap.lt_size e) hm) (k1 c o e)
 have S5:h1.objs.size=s1.heap.objs.size + 5:=a6
 have big:∀ t∈ts,s1.heap.objs.size≤t∧t≠h1.objs.size:=fun t ht =>
  have q:h1.objs.size + 1≤t:=(g3.new t ht).1
  ⟨Nat.le_trans (by rw [S5]; exact Nat.le_add_right _ 6) q,fun z=>Nat.lt_irrefl _ (Nat.lt_of_lt_of_eq q z)⟩
 have nS:h1.objs.size ∉ ts:=fun hm=>(big _ hm).2 rfl
 have fr:∀ {t:Addr},s1.heap.objs.size≤t→H1 t=none:=fun h=>I1.hok.fresh h
 have leS:s1.heap.objs.size≤h1.objs.size:=by rw [S5]; exact Nat.le_add_right _ 5
 have frS:H1 h1.objs.size=none:=fr leS
 have tl:ts.length=(xs.zip ys).length:=by rw [List.length_zip,g2]; lia
 have old:∀ {b:Addr} {o:HO},H1 b=some o→upd (lays H1 ts (xs.zip ys)) h1.objs.size (.lst (ts.map V.ref)) b=some o:=fun {b o} e=>by
  have hb:b < s1.heap.objs.size:=I1.hok.lt e
  rw [upd_ne (Nat.ne_of_lt (Nat.lt_of_lt_of_le hb leS)),lays_old (fun hm=>Nat.lt_irrefl _ (Nat.lt_of_lt_of_le hb (big b hm).1))]
  exact e
 have newN:∀ {b:Addr} {o:Obj},s1.heap.get? b=some o→H1 b=none→upd (lays H1 ts (xs.zip ys)) h1.objs.size (.lst (ts.map V.ref)) b=none:=fun {b o} e n=>by
  have hb:=Heap.lt_size e
  rw [upd_ne (Nat.ne_of_lt (Nat.lt_of_lt_of_le hb leS)),lays_old (fun hm=>Nat.lt_irrefl _ (Nat.lt_of_lt_of_le hb (big b hm).1))]
  exact n
 refine ⟨.ref h1.objs.size,upd (lays H1 ts (xs.zip ys)) h1.objs.size (.lst (ts.map V.ref)),I1.un (t':=s1.toks) ⟨fun b o e _ _ _=>keep b o e,fun b o e _ _ _=>⟨o.slots,keep b o e⟩,fun b o e n _=>newN e n,fun b o e _=>⟨o,keep b o e⟩,fun b xs e=>old e,fun b o u e=>old e,fun b ps e=>⟨#[],by rw [old e]; simp⟩⟩ ?_,rfl,q ts _ tl g3.nd nS (fun t ht=>fr (big t ht).1) frS⟩
 intro b o e
 by_cases hb:b=h1.objs.size
 ·subst hb
  rw [upd_same] at e
  cases e
  exact ⟨by rw [List.length_map,g2]; lia,_,c',vals_refs2 ts,g1⟩
 ·rw [upd_ne hb] at e
  rcases lays_cases e with ⟨j,p,e1,e2,rfl⟩ | e
  ·obtain ⟨x,y,q1,q2,q3⟩:=g3.pair j b e1
   rw [List.getElem?_zip_eq_some] at e2
   obtain ⟨w1,w2⟩:=e2
   obtain ⟨u1,m1,m2⟩:=v1.get w1
   obtain ⟨u2,m3,m4⟩:=v2.get w2
   rw [List.getElem?_toArray] at q1 q2
   rw [m1] at q1; rw [m3] at q2
   cases q1; cases q2
   exact ⟨by show 2≤sizeLine; decide,[_,_],.cons m2 (.cons m4 .nil),⟨_,q3,rfl,_,rfl⟩⟩
  ·exact (I1.hok b o e).stay (fun c u _ g=>keep c u g) (fun c g=>old g) (fun c xs g=>old g) fun c ob u g=>old g
end
end L2
namespace L3
open PySem L2
section
variable {K:PySem.W.Frag} {R:Hp} {W:Addr→Prop} {σ:St} {ρ:List Sl}
theorem Ev.lays:∀ {ts:List Addr} {vs ws:List V} {ds es:List D} {B H:Hp},Ev K R W B H σ ρ→Reps K B vs ds→Reps K B ws es→ts.length=(vs.zip ws).length→ts.Nodup→(∀ t∈ts,H t=none) →
  Ev K R W (L2.lays B ts (vs.zip ws)) (L2.lays H ts (vs.zip ws)) σ ρ∧Grow R B (L2.lays B ts (vs.zip ws))∧Reps K (L2.lays B ts (vs.zip ws)) (ts.map V.ref) ((ds.zip es).map fun p=>D.tup [p.1,p.2])
 | [],vs,ws,ds,es,B,H,e,r1,r2,hl,_,_=>by
  have q:(ds.zip es).length=0:=by
   rw [List.length_zip,← r1.length,← r2.length,← List.length_zip]
   exact hl.symm
  rw [List.length_eq_zero_iff.mp q]
  exact ⟨e,Grow.refl _ _,.nil⟩
 | t :: ts,vs,ws,ds,es,B,H,e,r1,r2,hl,nd,fr=>by
  cases r1 with
  | nil=>simp at hl
  | cons a1 r1 =>
   cases r2 with
   | nil=>simp at hl
   | cons a2 r2 =>
    rename_i v d vs ds w d2 ws es
    have ht:=fr t List.mem_cons_self
    have g:=e.grow ht (.tup [v,w])
    have nd':=List.nodup_cons.mp nd
    obtain ⟨h1,h2,h3⟩:=Ev.lays (ts:=ts) (e.alloc ht (.tup [v,w])) (r1.mono g.s) (r2.mono g.s) (by simpa using hl) nd'.2 (fun x hx=>by
     rw [upd_ne (fun z:x=t=>nd'.1 (by rw [← z]; exact hx))]
     exact fr x (List.mem_cons_of_mem _ hx))
    refine ⟨h1,g.trans h2,.cons (.tup (vs:=[v,w]) (h2.s _ _ upd_same) (.cons ((a1.mono g.s).mono h2.s) (.cons ((a2.mono g.s).mono h2.s) .nil))) h3⟩
end
section
variable {X:Cx} {e1 e2:Expr} {ua ub:UE}
def uZip (ua ub:UE):UL:=fun ρ k=>ua ρ fun x=>ub ρ fun y=>∃ ds es,x=.lst ds∧y=.lst es∧k ((ds.zip es).map fun p=>.tup [p.1,p.2])
theorem o_zip {p1 p2 pos1 pos2:Pos} (ha:PE3 X e1 ua) (hb:PE3 X e2 ub) (hc:X.calm=true) (hgl:Gl X "list") (hml:X.mg "list" = none) (hgz:Gl X "zip") (hmz:X.mg "zip" = none)
  (he1:starEach [.Call (.Name "zip" p2) [e1,e2] [] pos2] X.env=(false,eval (.Call (.Name "zip" p2) [e1,e2] [] pos2) X.env) :: starEach [] X.env:=by rfl)
  (he2:starEach [e1,e2] X.env=(false,eval e1 X.env) :: starEach [e2] X.env:=by rfl) (he3:starEach [e2] X.env=(false,eval e2 X.env) :: starEach [] X.env:=by rfl) (hpl:(backTo pos2 (starEach [e2] X.env)).any (·.1)=false:=by rfl) :
  PO3 X (.Call (.Name "list" p1) [.Call (.Name "zip" p2) [e1,e2] [] pos2] [] pos1) (uZip ua ub):=by
 obtain ⟨_,h1,r1⟩:=ha; obtain ⟨_,h2,r2⟩:=hb
 refine ⟨_,pe_listzip (pa_cons h1 (pa_cons h2 pa_nil he3) he2) hc hgl hml hgz hmz he1 he2 hpl,fun ρ k h R W B H σ Q e q=>?_⟩
 refine r1 ρ _ h R W B H σ _ e fun d v B1 H1 z1 e1 g1 s1=>?_
 refine r2 ρ _ z1 R W B1 H1 σ _ e1 fun d' v' B2 H2 z2 e2 g2 s2=>?_
 obtain ⟨ds,es,rfl,rfl,z⟩:=z2
 obtain ⟨a,vs,rfl,ha,rs⟩:=(s1.mono g2.s).lstV
 obtain ⟨b,ws,rfl,hb,rt⟩:=s2.lstV
 refine ⟨a,b,vs,ws,rfl,e2.bh _ _ ha,e2.bh _ _ hb,fun ts S hl nd nS fr frS=>?_⟩
 obtain ⟨e3,g3,r3⟩:=e2.lays rs rt hl nd fr
 obtain ⟨f1,f2,f3,f4,f5⟩:=e3.newO (by rw [lays_old nS]; exact frS) r3
 exact q _ S _ _ _ z f1 ((g1.trans g2).trans g3) f2 f3 f4 r3 f5
end
end L3
namespace L2
open PySem PySem.Spec PyProof.Rows PySem.W
theorem rev_take (its:List Value):∀ m,m≤its.length→(List.range m).filterMap (fun k=>its[its.length - 1 - k]?)=its.reverse.take m
 | 0,_=>rfl
 | m + 1,h=>by
  rw [List.range_succ,List.filterMap_append,rev_take its m (by lia),List.take_add_one,List.getElem?_reverse (by lia)]
  congr 1
theorem slicePick_rev (its:List Value):slicePick its.toArray none none (some (-1))=its.reverse.toArray:=by
 have hb:sliceBounds none none (some (-1)) its.toArray.size=((its.length:Int) - 1,-1,-1):=by simp [sliceBounds]
 unfold slicePick
 rw [hb]
 have hr:sliceRange ((its.length:Int) - 1) (-1) (-1)=(List.range its.length).map fun k=>its.length - 1 - k:=by
  unfold sliceRange
  have c:(if (-1:Int) > 0 then (if (its.length:Int) - 1 < -1 then (-1 - ((its.length:Int) - 1) + -1 - 1) / -1 else 0) else (if (its.length:Int) - 1 > -1 then ((its.length:Int) - 1 - -1 - -1 - 1) / (- -1) else 0))=(its.length:Int):=by
   rw [if_neg (by decide)]
   split
   ·rw [show (- -1:Int)=1 by decide,Int.ediv_one]; lia
   ·lia
  simp only [c,Int.toNat_natCast]
  refine List.map_congr_left fun k hk=>?_
  lia
 simp only [hr,List.filterMap_map]
 have:=rev_take its its.length (Nat.le_refl _)
 rw [List.take_of_length_le (by simp)] at this
 rw [← this]
 have e:((fun x=>its.toArray[x]?) ∘ fun k=>its.length - 1 - k)=fun k=>its[its.length - 1 - k]?:=by
  funext k
  simp
 rw [e]
section
variable {X:Cx} {e st:Expr} {te ts:TE} {p2 pos:Pos}
def tRev (te ts:TE) (K:PySem.W.Frag):TE:=fun σ H Q=>te σ H fun x H1=>ts σ H1 fun i H2=>i=.int (-1)∧∃ a xs,x=.ref a∧SqL K H2 a xs∧∀ p,H2 p=none→Q (.ref p) (upd H2 p (.lst xs.reverse))
theorem pe_rev (he:PE X e te) (hs:PE X st ts):PE X (.Subscript e (.Slice none none (some st) p2) pos) (tRev te ts X.K):=by
 intro pins s σ H Q I h
 refine Subscript_ (thn (he pins s σ H _ I h) fun v s1 ⟨x,H1,I1,r1,q1⟩=>?_)
 refine wpAny_Slice ?_
 rw [evalPart_none]
 refine wpAny_pure ?_
 refine wpAny_pure ?_
 rw [evalPart_some]
 refine thn (hs pins s1 σ H1 _ I1 q1) fun u s3 ⟨i,H3,I3,ri,q3⟩=>?_
 obtain ⟨rfl,a,xs,rfl,hx,q⟩:=q3
 obtain ⟨tk,rfl⟩:=ri
 cases r1
 have I4:Inv X pins σ H3 { s3 with heap:=s3.heap.push { cls:=.type "slice", data:=.fields #[.none,.none,.int (-1) tk] } }:=I3.kept (t':=s3.toks) fun b ob q=>Heap.get?_push_of_some _ q
 obtain ⟨its,r,ht,hz⟩:=I4.list hx
 have hlen:=r.length
 show wpAny (model X.prog X.w) X.A (subscriptTail e (.Slice none none (some st) p2) (.ref a) (.ref s3.heap.objs.size)) (EP X pins σ Q) X.xe { s3 with heap:=s3.heap.push { cls:=.type "slice", data:=.fields #[.none,.none,.int (-1) tk] } }
 refine tail_any (ops:=[.ref a,.ref s3.heap.objs.size]) ht.isList.typeIs slot_list_getitem.lookup ?_ (by with_unfolding_all rfl)
 refine wpAny_getItem_list_slice (st:=some (-1)) ht.isList (Heap.IsSliceOf.new ..) .none .none (.int _ _) (by simp) ?_ (by rw [List.size_toArray] <;> lia)
 rw [slicePick_rev]
 refine ⟨.ref _,_,I4.laid (t':=s3.toks) (o:=.lst xs.reverse) (fun b ob q=>Heap.get?_push_of_some _ q) (Nat.le_refl _) ?_,rfl,q _ (I4.hok.fresh (Nat.le_refl _))⟩
 exact ⟨by rw [List.length_reverse]; exact hz,_,0,r.reverse,Heap.get?_push_size _ rfl⟩
end
end L2
namespace L3
open PySem L2
section
variable {X:Cx} {e st:Expr} {u us:UE} {p2 pos:Pos}
theorem Reps.reverse {K:PySem.W.Frag} {B:Hp}:∀ {vs:List V} {ds:List D},Reps K B vs ds→Reps K B vs.reverse ds.reverse
 | _,_,.nil=>.nil
 | _,_,.cons h r=>by
  rw [List.reverse_cons,List.reverse_cons]
  exact (Reps.reverse r).append (.cons h .nil)
def uRev (u us:UE):UL:=fun ρ k=>u ρ fun x=>us ρ fun i=>i=.int (-1)∧∃ ds,itemsD x=some ds∧k ds.reverse
theorem o_rev (he:PE3 X e u) (hs:PE3 X st us):PO3 X (.Subscript e (.Slice none none (some st) p2) pos) (uRev u us):=by
 obtain ⟨_,h1,r1⟩:=he; obtain ⟨_,h2,r2⟩:=hs
 refine ⟨_,pe_rev h1 h2,fun ρ k h R W B H σ Q e q=>?_⟩
 refine r1 ρ _ h R W B H σ _ e fun d v B1 H1 z1 e1 g1 s1=>?_
 refine r2 ρ _ z1 R W B1 H1 σ _ e1 fun i iv B2 H2 z2 e2 g2 s2=>?_
 obtain ⟨rfl,ds,hd,z⟩:=z2
 obtain ⟨a,vs,rfl,ha,rs⟩:=itemsD_ok e2.bh (s1.mono g2.s) hd
 refine ⟨s2.intV,a,vs,rfl,ha,fun p hp=>?_⟩
 obtain ⟨f1,f2,f3,f4,f5⟩:=e2.newO hp rs.reverse
 exact q _ p _ B2 _ z f1 (g1.trans g2) f2 f3 f4 rs.reverse f5
end
end L3
namespace Cut
open PySem L2 L3
open PySem.Builtin.Int (intBits)
abbrev F2:=Int×Int
def fadd (x y:F2):F2:=(x.1 * y.2 + y.1 * x.2,x.2 * y.2)
def fsum:List F2→F2
 | []=>(0,1)
 | x :: l=>fadd x (fsum l)
theorem fadd_comm (x y:F2):fadd x y=fadd y x:=by unfold fadd; refine Prod.ext ?_ ?_ <;> simp only <;> grind
theorem fadd_assoc (x y z:F2):fadd (fadd x y) z=fadd x (fadd y z):=by unfold fadd; refine Prod.ext ?_ ?_ <;> simp only <;> grind
theorem fadd_zero (x:F2):fadd (0,1) x=x:=by unfold fadd; refine Prod.ext ?_ ?_ <;> simp only <;> grind
theorem fsum_append:∀ (a b:List F2),fsum (a ++ b)=fadd (fsum a) (fsum b)
 | [],b=>(fadd_zero _).symm
 | x :: a,b=>by
  show fadd x (fsum (a ++ b))=fadd (fadd x (fsum a)) (fsum b)
  rw [fsum_append a b,fadd_assoc]
theorem fsum_swap (a b:List F2):fsum (a ++ b)=fsum (b ++ a):=by rw [fsum_append,fsum_append,fadd_comm]
theorem fsum_one (x:F2):fsum [x]=x:=by
 show fadd x (0,1)=x
 rw [fadd_comm,fadd_zero]
theorem fsum_snoc (a:List F2) (x:F2):fsum (a ++ [x])=fadd (fsum a) x:=by rw [fsum_append,fsum_one]
def sdf (p q:P3):F2:=(p.1 * q.2.1 - p.2.1 * q.1,p.2.2 * q.2.2)
def chn (x:P3):List P3→List F2
 | []=>[]
 | a :: l=>sdf x a :: chn a l
def lastP (x:P3):List P3→P3
 | []=>x
 | a :: l=>lastP a l
theorem chn_append:∀ (x:P3) (l m:List P3),chn x (l ++ m)=chn x l ++ chn (lastP x l) m
 | _,[],_=>rfl
 | x,a :: l,m=>by
  show sdf x a :: chn a (l ++ m)=sdf x a :: (chn a l ++ chn (lastP a l) m)
  rw [chn_append a l m]
def cyc:List P3→List F2
 | []=>[]
 | x :: l=>chn x (l ++ [x])
theorem chn_last (x:P3) (l:List P3):fsum (chn (lastP x l) (x :: l))=fsum (cyc (x :: l)):=by
 show fsum ([sdf (lastP x l) x] ++ chn x l)=fsum (chn x (l ++ [x]))
 rw [chn_append,fsum_swap]
 rfl
theorem chn_zip:∀ (x:P3) (l m:List P3),m.length=l.length + 1→True→∀ (h:∃ y,m=l ++ [y]),((x :: l).zip m).map (fun s=>sdf s.1 s.2)=chn x m
 | x,[],_,_,_,⟨y,rfl⟩=>rfl
 | x,a :: l,_,_,_,⟨y,rfl⟩=>by
  show sdf x a :: ((a :: l).zip (l ++ [y])).map (fun s=>sdf s.1 s.2)=sdf x a :: chn a (l ++ [y])
  rw [chn_zip a l (l ++ [y]) (by simp) trivial ⟨y,rfl⟩]
theorem cyc_sides:∀ (l:List P3),(l.zip (l.drop 1 ++ l.take 1)).map (fun s=>sdf s.1 s.2)=cyc l
 | []=>rfl
 | x :: l=>chn_zip x l (l ++ [x]) (by simp) trivial ⟨x,rfl⟩
def IsF (r s:F2):Prop:=Low r.1 r.2∧0 < s.2∧r.1 * s.2=s.1 * r.2
theorem IsF.uniq {r t s:F2} (h:IsF r s) (g:IsF t s):r=t:=by
 have s0:=Int.ne_of_gt h.2.1
 have:=low_uniq h.1 g.1 (Int.eq_of_mul_eq_mul_right s0 (by have:=h.2.2; have:=g.2.2; grind))
 exact Prod.ext this.1 this.2
theorem IsF.zero:IsF (0,1) (fsum []):=⟨⟨by decide,by decide⟩,by decide,rfl⟩
theorem IsF.low {c d:Int} (hd:0 < d):IsF (nrat c d) (c,d):=by
 obtain ⟨l,e,_⟩:=nrat_spec (t:=c) (b:=d) (Int.ne_of_gt hd)
 exact ⟨l,hd,e⟩
theorem IsF.add {r t s u:F2} (h:IsF r s) (g:IsF t u):IsF (nrat (r.1 * t.2 + t.1 * r.2) (r.2 * t.2)) (fadd s u):=by
 have p1:=h.1.1
 have p2:=g.1.1
 obtain ⟨l,e,_⟩:=nrat_spec (t:=r.1 * t.2 + t.1 * r.2) (b:=r.2 * t.2) (one_ne p1 p2)
 refine ⟨l,Int.mul_pos h.2.1 g.2.1,?_⟩
 generalize nrat (r.1 * t.2 + t.1 * r.2) (r.2 * t.2)=w at *
 have e1:=h.2.2
 have e2:=g.2.2
 refine Int.eq_of_mul_eq_mul_right (one_ne p1 p2) ?_
 unfold fadd
 simp only
 grind
theorem IsF.bounds {r s:F2} (h:IsF r s):r.1.natAbs≤s.1.natAbs∧r.2.natAbs≤s.2.natAbs:=by
 have e:r=nrat s.1 s.2:=h.uniq (IsF.low h.2.1)
 obtain ⟨_,_,c1,c2⟩:=nrat_spec (t:=s.1) (b:=s.2) (Int.ne_of_gt h.2.1)
 rw [e]
 exact ⟨c1,c2⟩
theorem fsum_bits {m:Nat}:∀ {l:List F2},(∀ x∈l,intBits x.1≤m∧intBits x.2≤m)→intBits (fsum l).1≤l.length * (m + 1) + 1∧intBits (fsum l).2≤l.length * (m + 1) + 1
 | [],_=>⟨Nat.le_trans (show intBits 0≤1 by decide +kernel) (Nat.le_add_left _ _),Nat.le_trans (show intBits 1≤1 by decide +kernel) (Nat.le_add_left _ _)⟩
 | x :: l,h=>by
  obtain ⟨a,b⟩:=h x List.mem_cons_self
  obtain ⟨c,d⟩:=fsum_bits (l:=l) fun y hy=>h y (List.mem_cons_of_mem _ hy)
  have e:(x :: l).length * (m + 1) + 1=m + (l.length * (m + 1) + 1) + 1:=by
   rw [List.length_cons,Nat.succ_mul]
   lia
  rw [e]
  have q1:=intBits_mul_le a d
  have q2:=intBits_mul_le c b
  have q3:=intBits_mul_le b d
  constructor
  ·show intBits (x.1 * (fsum l).2 + (fsum l).1 * x.2)≤_
   exact Nat.le_trans (intBits_add_le q1 q2) (by lia)
  ·exact Nat.le_trans q3 (by lia)
theorem sdf_bits {m:Nat} {p q:P3} (hp:BP m p) (hq:BP m q):intBits (sdf p q).1≤2 * m + 1∧intBits (sdf p q).2≤2 * m + 1:=by
 constructor
 ·exact Nat.le_trans (intBits_sub_le (intBits_mul_le hp.a hq.b) (intBits_mul_le hp.b hq.a)) (by lia)
 ·exact Nat.le_trans (intBits_mul_le hp.c hq.c) (by lia)
end Cut
namespace Cut
open PySem L2 L3
open PySem.Builtin.Int (intBits)
theorem chn_length:∀ (z:P3) (l:List P3),(chn z l).length=l.length
 | _,[]=>rfl
 | _,a :: l=>by rw [chn,List.length_cons,List.length_cons,chn_length a l]
theorem cyc_length (l:List P3):(cyc l).length=l.length:=by
 cases l with
 | nil=>rfl
 | cons x l=>show (chn x (l ++ [x])).length=_; rw [chn_length,List.length_append]; rfl
theorem chn_all {P:F2→Prop} {G:P3→Prop} (h:∀ p q,G p→G q→P (sdf p q)):∀ {z:P3} {l:List P3},G z→(∀ p∈l,G p)→∀ x∈chn z l,P x
 | _,[],_,_,_,hx=>by cases hx
 | z,a :: l,gz,gl,x,hx=>by
  rcases List.mem_cons.mp hx with rfl | hx
  ·exact h _ _ gz (gl a List.mem_cons_self)
  ·exact chn_all h (gl a List.mem_cons_self) (fun p hp=>gl p (List.mem_cons_of_mem _ hp)) x hx
theorem cyc_all {P:F2→Prop} {G:P3→Prop} (h:∀ p q,G p→G q→P (sdf p q)) {l:List P3} (gl:∀ p∈l,G p):∀ x∈cyc l,P x:=by
 cases l with
 | nil=>intro x hx; cases hx
 | cons a l =>
  refine chn_all h (gl a List.mem_cons_self) fun p hp=>?_
  rcases List.mem_append.mp hp with hp | hp
  ·exact gl p (List.mem_cons_of_mem _ hp)
  ·have:p=a:=by simpa using hp
   rw [this]
   exact gl a List.mem_cons_self
end Cut
namespace Cut
open PySem L2 L3
open PySem.Builtin.Int (intBits)
theorem has_pts (ps:List P3):has (.L (.T [.I,.I,.I])) (.lst (ps.map dP))=true:=by
 show ((ps.map dP).all fun x=>has (.T [.I,.I,.I]) x)=true
 rw [List.all_eq_true]
 intro x hx
 obtain ⟨p,_,rfl⟩:=List.mem_map.mp hx
 rfl
end Cut
namespace L2
open PySem PySem.Spec PyProof.Rows PySem.W
end L2
namespace L3
open PySem L2 PySem.W
end L3
namespace L2
open PySem PySem.Spec PyProof.Rows
section
variable {X:Cx} {pos:Pos}
def tPar3 (i j k:Nat) (ta:TA):TS:=fun D σ H=>ta σ H fun vs H1=>∃ v w z,vs=[v,w,z]∧D.nx (((σ.set k (some z)).set j (some w)).set i (some v)) H1
theorem ps_par3 {i j k:Nat} {x y n:Str} {a b c:Expr} {ta:TA} {px py pn pt:Pos} {kt k2 pt2} (hc:X.calm=true) (hN:X.N.Nodup) (hi:X.N[i]?=some x) (hj:X.N[j]?=some y) (hk:X.N[k]?=some n)
  (hx:X.env.scope.names.lookup x=some .local) (hy:X.env.scope.names.lookup y=some .local) (hn:X.env.scope.names.lookup n=some .local) (ha:PA X [a,b,c] ta)
  (hw:swappedStores [.Tuple [.Name x px,.Name y py,.Name n pn] kt pt] (.Tuple [a,b,c] k2 pt2) X.env=pure (some [x,y,n]))
  (hs:swapsWithSole [.Tuple [.Name x px,.Name y py,.Name n pn] kt pt] (.Tuple [a,b,c] k2 pt2) pos.line X.env=pure false:=by rfl) :
  PS X (.Assign [.Tuple [.Name x px,.Name y py,.Name n pn] kt pt] (.Tuple [a,b,c] k2 pt2) pos) (tPar3 i j k ta):=by
 intro pins s σ H D I h
 rw [exec_Assign_arm]
 refine wpAny_bind (wpAny_standAt ?_)
 rw [hs]
 refine wpAny_bind (wpAny_pure ?_)
 rw [if_neg (by decide)]
 refine wpAny_bind (Tuple_ (thn (ha _ pins s σ H _ I h) fun us s1 ⟨vs,H1,I1,r1,q1⟩=>?_))
 obtain ⟨v,w,z,e1,q1⟩:=q1
 subst e1
 obtain ⟨u1,u2,u3,rfl,rv,rw',rz⟩:∃ u1 u2 u3,us=[u1,u2,u3]∧RelV v u1∧RelV w u2∧RelV z u3:=by
  cases r1 with
  | cons p q =>
   cases q with
   | cons p' q' =>
    cases q' with
    | cons p'' q'' =>
     cases q''
     exact ⟨_,_,_,rfl,p,p',p''⟩
 refine wpAny_newObj_type ?_ (by show 3≤sizeLine; decide)
 have I2:Inv X pins σ H1 { s1 with heap:=s1.heap.push { cls:=.type "tuple", data:=.seq [u1,u2,u3].toArray } }:=I1.kept (t':=s1.toks) fun b o e=>Heap.get?_push_of_some _ e
 rw [hw]
 refine wpAny_bind (wpAny_pure ?_)
 show wpAny (model X.prog X.w) X.A (do rule "assign.swapped-stores"; let items ← unpackItems (.ref s1.heap.objs.size) 3 none; assignInOrder [fun v=>bindName X.env n v,fun v=>bindName X.env y v,fun v=>bindName X.env x v] items.reverse; pure Flow.next) _ _ _
 refine wpAny_bind (wpAny_rule (wpAny_bind (unpackItems_tuple (items := #[u1,u2,u3]) (I.ok.hd hc) (IsTup.new s1.heap _) fun h' hx'=>?_)))
 have I3:=I2.kept (h':=h') (t':=s1.toks) fun b o e=>hx' b o (Nat.ne_of_lt (Heap.lt_size e)) e
 show wpAny _ _ (assignInOrder [fun v=>bindName X.env n v,fun v=>bindName X.env y v,fun v=>bindName X.env x v] [u3,u2,u1] >>= fun _=>pure Flow.next) _ _ _
 refine wpAny_bind (assignInOrder_cons (wpAny_bindName (store_ok I3 hN hk (.inl hn) rz (fun s2 I4=>?_) (.inr hn))))
 refine assignInOrder_cons (wpAny_bindName (store_ok I4 hN hj (.inl hy) rw' (fun s3 I5=>?_) (.inr hy)))
 exact assignInOrder_cons (wpAny_bindName (store_ok I5 hN hi (.inl hx) rv (fun s4 I6=>assignInOrder_nil (wpAny_pure ⟨_,H1,I6,q1⟩)) (.inr hx)))
end
end L2
namespace L3
open PySem L2
section
variable {X:Cx} {w:UL} {pos:Pos}
def uPar3 (i j k:Nat) (w:UL):US:=fun U ρ=>w ρ fun ds=>∃ x y z,ds=[x,y,z]∧U.nx (((ρ.set k (.val z)).set j (.val y)).set i (.val x))
theorem s_par3 {i j k:Nat} {x y n:Str} {a b c:Expr} {px py pn pt:Pos} {kt k2 pt2} (hc:X.calm=true) (hN:X.N.Nodup) (hi:X.N[i]?=some x) (hj:X.N[j]?=some y) (hk:X.N[k]?=some n)
  (hx:X.env.scope.names.lookup x=some .local) (hy:X.env.scope.names.lookup y=some .local) (hn:X.env.scope.names.lookup n=some .local) (ha:PL3 X [a,b,c] w)
  (hw:swappedStores [.Tuple [.Name x px,.Name y py,.Name n pn] kt pt] (.Tuple [a,b,c] k2 pt2) X.env=pure (some [x,y,n]))
  (hs:swapsWithSole [.Tuple [.Name x px,.Name y py,.Name n pn] kt pt] (.Tuple [a,b,c] k2 pt2) pos.line X.env=pure false:=by rfl) :
  PS3 X (.Assign [.Tuple [.Name x px,.Name y py,.Name n pn] kt pt] (.Tuple [a,b,c] k2 pt2) pos) (uPar3 i j k w):=by
 obtain ⟨_,h1,r1⟩:=ha
 refine ⟨_,ps_par3 hc hN hi hj hk hx hy hn h1 hw hs,fun U ρ h R W B H σ D e s=>?_⟩
 refine r1 ρ _ h R W B H σ _ e fun ds vs B1 H1 z1 e1 g1 s1=>?_
 obtain ⟨x,y,z,rfl,z1⟩:=z1
 cases s1 with
 | cons ra rb=>cases rb with
  | cons rb rc=>cases rc with
   | cons rc rd =>
    cases rd
    exact ⟨_,_,_,rfl,s.nx _ _ B1 H1 z1 (((e1.setV k rc).setV j rb).setV i ra) g1⟩
end
end L3
namespace L3
open PySem L2
section
variable {K:PySem.W.Frag} {R:Hp} {W:Addr→Prop} {B B' H H':Hp} {σ:St} {ρ:List Sl}
def fz1:Sl→Sl
 | .own (.l ds)=>.val (.lst ds)
 | .own (.d b _ ks ds)=>.val (.dct b ks ds)
 | .deep _=>.no
 | s=>s
def frW (W:Addr→Prop) (σ:St) (ρ:List Sl) (a:Addr):Prop:=W a∨∃ i:Nat,σ[i]?=some (some (.ref a))∧ρ[i]?=some .bag
def OwnAd (σ:St) (ρ:List Sl) (a:Addr):Prop:=∃ (i:Nat) (ds:Cn),σ[i]?=some (some (.ref a))∧ρ[i]?=some (.own ds)
open Classical in
noncomputable def frB (B H:Hp) (σ:St) (ρ:List Sl):Hp:=fun a=>if OwnAd σ ρ a then H a else B a
theorem frB_own {a:Addr} (h:OwnAd σ ρ a):frB B H σ ρ a=H a:=by unfold frB; rw [if_pos h]
theorem frB_not {a:Addr} (h:¬ OwnAd σ ρ a):frB B H σ ρ a=B a:=by unfold frB; rw [if_neg h]
theorem Ev.frW_B (e:Ev K R W B H σ ρ) {a:Addr} (h:frW W σ ρ a):B a=none∧Bag H a:=by
 rcases h with h | ⟨i,h1,h2⟩
 ·exact ⟨e.wb a h,e.wh a h⟩
 ·obtain ⟨b,c1,_,c3,c4⟩:=e.bagAt h2
  rw [h1] at c1; cases c1
  exact ⟨c3,c4⟩
theorem Ev.own_out (e:Ev K R W B H σ ρ) {a:Addr} (h:OwnAd σ ρ a):R a=none∧B a=none∧H a≠none∧¬ frW W σ ρ a:=by
 obtain ⟨i,ds,h1,h2⟩:=h
 obtain ⟨b,c1,c2,c3,c4⟩:=e.ownC h2
 rw [h1] at c1; cases c1
 refine ⟨c2,c3,c4.ne,fun z=>?_⟩
 rcases z with z | ⟨j,z1,z2⟩
 ·exact e.wr a z c2
 ·have:=e.sep i j a (.inl ⟨h1,.inr ⟨ds,h2⟩⟩) (.inl ⟨z1,.inl z2⟩)
  subst this
  rw [h2] at z2; cases z2
theorem Ev.deep_out (e:Ev K R W B H σ ρ) {i:Nat} {c:Dp} (h:ρ[i]?=some (.deep c)) {a:Addr} (m:a∈c.adr :: c.ins):¬ frW W σ ρ a:=fun z=>by
 rcases z with z | ⟨j,z1,z2⟩
 ·exact e.wr a z ((e.deepAt h).2.fr a m).1
 ·have:=e.sep i j a (.inr ⟨c,h,m⟩) (.inl ⟨z1,.inl z2⟩)
  subst this
  rw [h] at z2; cases z2
theorem Ev.frB_same (e:Ev K R W B H σ ρ):Same B (frB B H σ ρ):=fun a o h=>by
 by_cases z:OwnAd σ ρ a
 ·rw [(e.own_out z).2.1] at h; cases h
 ·rw [frB_not z]; exact h
theorem Ev.frame (e:Ev K R W B H σ ρ):Ev K H (frW W σ ρ) (frB B H σ ρ) H σ (ρ.map fz1):=by
 have nb:∀ a,frW W σ ρ a→frB B H σ ρ a=none:=fun a h=>by
  by_cases z:OwnAd σ ρ a
  ·exact absurd h (e.own_out z).2.2.2
  ·rw [frB_not z]; exact (e.frW_B h).1
 refine ⟨⟨fun _ _ z _=>z,fun a o h=>?_,nb,fun a h=>(e.frW_B h).2,fun a h=>?_⟩,by rw [List.length_map]; exact e.len,fun i k h=>?_,fun i j a m1 m2=>?_⟩
 ·by_cases z:OwnAd σ ρ a
  ·rw [frB_own z] at h; exact h
  ·rw [frB_not z] at h; exact e.bh a o h
 ·obtain ⟨x,y,q,_⟩:=(e.frW_B h).2
  rw [q]; simp
 ·rw [List.getElem?_map] at h
  cases q:ρ[i]? with
  | none=>rw [q] at h; cases h
  | some k0 =>
   rw [q] at h
   have h:=Option.some.inj h
   subst h
   have z:=e.ok i _ q
   cases k0 with
   | no=>trivial
   | new d =>
    obtain ⟨v,h1,h2⟩:=z
    refine ⟨v,h1,h2.mono (mixB_re e.toWd e.frB_same (fun a o h=>?_) (fun a z hr=>?_) nb)⟩
    ·by_cases z:OwnAd σ ρ a
     ·rw [frB_own z] at h; exact h
     ·rw [frB_not z] at h; exact e.bh a o h
    ·rcases z with z | ⟨i,z1,z2⟩
     ·exact z
     ·obtain ⟨b,c1,c2,_⟩:=e.bagAt z2
      rw [z1] at c1; cases c1
      exact c2.resolve_right hr
   | deep c=>trivial
   | pin v d =>
    obtain ⟨h1,h2⟩:=z
    refine ⟨h1,h2.mono (mixB_re e.toWd e.frB_same (fun a o h=>?_) (fun a z hr=>?_) nb)⟩
    ·by_cases z:OwnAd σ ρ a
     ·rw [frB_own z] at h; exact h
     ·rw [frB_not z] at h; exact e.bh a o h
    ·rcases z with z | ⟨i,z1,z2⟩
     ·exact z
     ·obtain ⟨b,c1,c2,_⟩:=e.bagAt z2
      rw [z1] at c1; cases c1
      exact c2.resolve_right hr
   | val d =>
    obtain ⟨v,h1,h2⟩:=z
    exact ⟨v,h1,h2.mono e.frB_same⟩
   | own ds =>
    obtain ⟨a,h1,h2,h3,z⟩:=z
    cases ds with
    | l ds =>
     obtain ⟨vs,h4,h5⟩:=z
     exact ⟨.ref a,h1,.lst (by rw [frB_own ⟨i,_,join_some h1,q⟩]; exact h4) (h5.mono e.frB_same)⟩
    | d b t ks ds =>
     obtain ⟨ep,as,vs,_,h4,h5,h6,h7⟩:=z
     exact ⟨.ref a,h1,.dct (by rw [frB_own ⟨i,_,join_some h1,q⟩]; exact h4) (h5.mono e.frB_same) h6 (h7.mono e.frB_same)⟩
   | bag =>
    obtain ⟨b,h1,h2,h3,h4⟩:=z
    have w:frW W σ ρ b:=.inr ⟨i,join_some h1,q⟩
    exact ⟨b,h1,.inl w,nb b w,h4⟩
 ·have back:∀ i,MutAt σ (ρ.map fz1) i a→MutAt σ ρ i a:=fun i m=>by
   rcases m with ⟨h1,h2⟩ | ⟨c,h1,_⟩
   rotate_left
   ·rw [List.getElem?_map] at h1
    cases q:ρ[i]? with
    | none=>rw [q] at h1; cases h1
    | some k0 =>
     rw [q] at h1
     cases k0 with
     | own ds=>cases ds <;> cases h1
     | _=>cases h1
   refine .inl ⟨h1,?_⟩
   rw [List.getElem?_map] at h2
   cases q:ρ[i]? with
   | none=>rw [q] at h2; rcases h2 with h2 | ⟨_,h2⟩ <;> cases h2
   | some k0 =>
    rw [q] at h2
    cases k0 with
    | bag=>exact .inl rfl
    | no=>rcases h2 with h2 | ⟨_,h2⟩ <;> cases h2
    | new d=>rcases h2 with h2 | ⟨_,h2⟩ <;> cases h2
    | pin v d=>rcases h2 with h2 | ⟨_,h2⟩ <;> cases h2
    | deep d=>rcases h2 with h2 | ⟨_,h2⟩ <;> cases h2
    | val d=>rcases h2 with h2 | ⟨_,h2⟩ <;> cases h2
    | own ds=>cases ds <;> rcases h2 with h2 | ⟨_,h2⟩ <;> cases h2
  exact e.sep i j a (back i m1) (back j m2)
theorem Ev.unframe (e:Ev K R W B H σ ρ) (fr:∀ a o,H a=some o→¬ frW W σ ρ a→H' a=some o) (wh:∀ a,frW W σ ρ a→Bag H' a):Ev K R W B H' σ ρ:=by
 have nW:∀ a,R a≠none→¬ W a→¬ frW W σ ρ a:=fun a h1 h2 z=>by
  rcases z with z | ⟨i,z1,z2⟩
  ·exact h2 z
  ·obtain ⟨b,c1,c2,_⟩:=e.bagAt z2
   rw [z1] at c1; cases c1
   rcases c2 with c2 | c2
   ·exact h2 c2
   ·exact h1 c2
 refine ⟨⟨fun a o h nw=>fr a o (e.fr a o h nw) (nW a (by rw [h]; simp) nw),fun a o h=>fr a o (e.bh a o h) fun z=>?_,e.wb,fun a h=>wh a (.inl h),e.wr⟩,e.len,fun i k h=>?_,e.sep⟩
 ·rw [(e.frW_B z).1] at h; cases h
 ·have z:=e.ok i k h
  cases k with
  | no=>trivial
  | new d=>exact z
  | pin v d=>exact z
  | val d=>exact z
  | own ds =>
   obtain ⟨a,h1,h2,h3,h4⟩:=z
   refine ⟨a,h1,h2,h3,h4.mono (Same.refl _) ?_⟩
   cases q:H a with
   | none=>exact absurd q h4.ne
   | some o=>exact fr a _ q (e.own_out ⟨i,ds,join_some h1,h⟩).2.2.2
  | deep c =>
   refine ⟨z.1,z.2.fr,z.2.nd,z.2.ok.mono (Same.refl _) fun a ma=>?_⟩
   cases q:H a with
   | none=>exact absurd q (z.2.ok.ne ma)
   | some o=>exact fr a _ q (e.deep_out h ma)
  | bag =>
   obtain ⟨b,h1,h2,h3,h4⟩:=z
   exact ⟨b,h1,h2,h3,wh b (.inr ⟨i,join_some h1,h⟩)⟩
end
section
variable {K:PySem.W.Frag} {X:Cx} {e:Expr} {es:List Expr} {u:UE} {w:UL} {pos p:Pos}
theorem t_tmp {c:Expr} {uc:UT} (h:PT3 X c uc):PT3 X c (fun ρ k=>uc (ρ.map fz1) k):=by
 obtain ⟨_,h1,r1⟩:=h
 refine ⟨_,h1,fun ρ k h R W B H σ Q e q=>?_⟩
 exact r1 _ _ h _ _ _ _ _ _ e.frame fun b B' H' z e' g=>q b B H' z (e.unframe e'.fr e'.wh) (Grow.refl _ _)
variable {elt iter tg:Expr} {ifs:List Expr} {scope:Scope} {cl:List (Str×Addr)} {ts fr:List Str} {js:List Nat} {ug:UG} {ut:UT}
end
end L3
namespace L3
open PySem L2
section
variable {K:PySem.W.Frag} {X:Cx} {e:Expr} {es:List Expr} {u:UE} {w:UL} {pos p:Pos} {I:List Nat} {i:Nat} {rest:List Stmt} {uz:UEnds→List Sl→D→List Sl→Prop}
theorem atI_zero {α:Type} {x:α} {r:List α}:atI (x :: r) 0=some x:=by simp [atI,ixN]
end
end L3
namespace L3
open PySem L2
end L3
namespace L2
open PySem PySem.Spec PyProof.Rows PySem.W
end L2
namespace L3
open PySem L2
end L3
namespace L3
open PySem L2
end L3
namespace L3
open PySem PySem.W L2
def allK (h:Heap):Frag:=(List.range h.objs.size).filterMap fun a=>(h.get? a).map fun o=>(a,o)
theorem lookup_pairs (g:Nat→Option Obj) (a:Nat):∀ l:List Nat,(l.filterMap fun b=>(g b).map fun o=>(b,o)).lookup a=if a∈l then g a else none
 | []=>rfl
 | b :: l=>by
  have ih:=lookup_pairs g a l
  cases q:g b with
  | none =>
   rw [List.filterMap_cons_none (by rw [q]; rfl),ih]
   by_cases e:a=b
   ·subst e; rw [q]; simp
   ·simp [e]
  | some o =>
   rw [List.filterMap_cons_some (b:=(b,o)) (by rw [q]; rfl),List.lookup_cons]
   by_cases e:a=b
   ·subst e; simp [q]
   ·have:(a == b)=false:=by simpa using e
    simp only [this,ih,List.mem_cons,e,false_or]
theorem allK_at (h:Heap) (a:Addr):(allK h).lookup a=h.get? a:=by
 refine (lookup_pairs h.get? a _).trans ?_
 by_cases e:a < h.objs.size
 ·rw [if_pos (List.mem_range.mpr e)]
 ·rw [if_neg (fun z=>e (List.mem_range.mp z))]
  exact (Heap.get?_none_of_le (Nat.le_of_not_lt e)).symm
theorem allK_in (h:Heap):Frag.In (allK h) h:=fun a o e=>by rw [allK_at] at e; exact e
theorem nsH_is (h:Heap) (name:Str):nsIn (allK h) mainGlobals name=nsH h name:=by unfold nsIn nsH; rw [allK_at]; rfl
theorem cdH_is (h:Heap) (cd:Value) (q:Str):codeIn (allK h) cd q=cdH h cd q:=by
 unfold codeIn cdH
 cases cd <;> first | rfl | (simp only [allK_at]; rfl)
def FunOf (K:Frag) (x:Str) (st:Stmt):Prop:=∃ f fd,nsIn K mainGlobals x=some (some (.ref f))∧Fun K x x st f fd
theorem dueF_is (x:Str) (st:Stmt):dueF x st=some (x,x,defArgs st,.stmts (defBody st),defScope st,mainGlobals,[],.none,builtinsNs,true):=by cases st <;> rfl
theorem seeF_ok {h:Heap} {x:Str} {st:Stmt} (e:seeF h x=dueF x st):FunOf (allK h) x st:=by
 unfold seeF at e
 split at e
 ·rename_i f hf
  split at e
  ·rename_i oc od fd osl ho
   obtain ⟨nm,qn,ps,bd,sc,gl,cl,df,kd,doc,pm,an,cdv,ct,bu⟩:=fd
   rw [dueF_is] at e
   simp only [Option.some.injEq,Prod.mk.injEq] at e
   obtain ⟨rfl,rfl,rfl,rfl,rfl,rfl,rfl,rfl,rfl,e⟩:=e
   refine ⟨f,_,by rw [nsH_is]; exact hf,fun_mk (oc:=oc) (od:=od) (osl:=osl) (kV:=kd) (doc:=doc) (pm:=pm) (an:=an) (cdv:=cdv) (ct:=ct) (by rw [allK_at]; exact ho) (by rw [cdH_is]; exact e) ?_⟩
   unfold keepIn
   simp only [allK_at,ho]
  ·rw [dueF_is] at e; cases e
 ·rw [dueF_is] at e; cases e
def AllF (K:Frag):List (Str×Stmt)→Prop
 | []=>True
 | p :: l=>FunOf K p.1 p.2∧AllF K l
def AllB (K:Frag):List Str→Prop
 | []=>True
 | b :: l=>nsIn K mainGlobals b=some none∧AllB K l
def TupOf (K:Frag) (x:Str) (i j:Int):Prop:=∃ p od sl n ti tj,nsIn K mainGlobals x=some (some (.ref p))∧K.lookup p=some ⟨.type "tuple", od,.seq #[.int i ti,.int j tj] n,sl⟩
def AllT (K:Frag):List (Str×Int×Int)→Prop
 | []=>True
 | p :: l=>TupOf K p.1 p.2.1 p.2.2∧AllT K l
def ConOf (K:Frag) (x:Str) (c:Int ⊕ Str):Prop:=match c with
 | .inl i=>∃ t,nsIn K mainGlobals x=some (some (.int i t))
 | .inr s=>∃ t,nsIn K mainGlobals x=some (some (.str s t))
def AllC (K:Frag):List (Str×(Int ⊕ Str))→Prop
 | []=>True
 | p :: l=>ConOf K p.1 p.2∧AllC K l
structure Tab (t:Tabs) (K:Frag):Prop where
 tf:AllF K t.fs
 tb:AllB K t.bs
 tt:AllT K t.ts
 tc:AllC K t.cs
def saysH (t:Tabs) (_:World) (h:Heap):Prop:=∃ h1:Heap,(∀ b o,h1.get? b=some o→h.get? b=some o)∧Tab t (allK h1)
theorem allK_mem {h:Heap} {a:Addr} {o:Obj} (m:(a,o)∈allK h):h.get? a=some o:=by
 obtain ⟨i,_,q⟩:=List.mem_filterMap.mp m
 obtain ⟨o',q4,q5⟩:=Option.map_eq_some_iff.mp q
 cases q5; exact q4
theorem tabs_none {h h1:Heap} {mg:Str→Option Value} (k:∀ b o,h1.get? b=some o→h.get? b=some o) (G:h.Ns mainGlobals mg):L2.tabsK (allK h1)=[]:=by
 refine List.filterMap_eq_nil_iff.mpr fun p hp=>?_
 obtain ⟨b,c,d,dt,sl⟩:=p
 have e:=k _ _ (allK_mem hp)
 split
 ·rename_i q
  split
  ·split
   ·rename_i z
    cases q
    obtain ⟨o,es,ep,e1,e2,_⟩:=G
    rw [z] at e
    rw [e1] at e; cases e
    cases e2
   ·rfl
  ·rfl
 ·rfl
theorem allF_of {h:Heap}:∀ {l:List (Str×Stmt)},(l.map fun p=>seeF h p.1)=(l.map fun p=>dueF p.1 p.2)→AllF (allK h) l
 | [],_=>trivial
 | p :: l,e=>by
  simp only [List.map_cons,List.cons.injEq] at e
  exact ⟨seeF_ok e.1,allF_of e.2⟩
theorem allB_of {h:Heap}:∀ {l:List Str},(l.map fun b=>nsH h b)=(l.map fun _=>some none)→AllB (allK h) l
 | [],_=>trivial
 | p :: l,e=>by
  simp only [List.map_cons,List.cons.injEq] at e
  exact ⟨by rw [nsH_is]; exact e.1,allB_of e.2⟩
theorem seeT_ok {h:Heap} {x:Str} {i j:Int} (e:seeT h x=some (x,i,j)):TupOf (allK h) x i j:=by
 unfold seeT at e
 split at e
 ·rename_i p hp
  split at e
  ·rename_i od its n sl ho
   split at e
   ·rename_i i' ti j' tj hi
    simp only [Option.some.injEq,Prod.mk.injEq] at e
    obtain ⟨_,rfl,rfl⟩:=e
    have ea:its = #[.int i' ti,.int j' tj]:=Array.toList_inj.mp hi
    subst ea
    exact ⟨p,od,sl,n,ti,tj,by rw [nsH_is]; exact hp,by rw [allK_at]; exact ho⟩
   ·cases e
  ·cases e
 ·cases e
theorem allT_of {h:Heap}:∀ {l:List (Str×Int×Int)},(l.map fun p=>seeT h p.1)=(l.map fun p=>some p)→AllT (allK h) l
 | [],_=>trivial
 | p :: l,e=>by
  simp only [List.map_cons,List.cons.injEq] at e
  exact ⟨seeT_ok e.1,allT_of e.2⟩
theorem seeC_ok {h:Heap} {x:Str} {c:Int ⊕ Str} (e:seeC h x=some (x,c)):ConOf (allK h) x c:=by
 unfold seeC at e
 split at e
 ·rename_i i t hp
  simp only [Option.some.injEq,Prod.mk.injEq] at e
  obtain ⟨_,rfl⟩:=e
  exact ⟨t,by rw [nsH_is]; exact hp⟩
 ·rename_i i t hp
  simp only [Option.some.injEq,Prod.mk.injEq] at e
  obtain ⟨_,rfl⟩:=e
  exact ⟨t,by rw [nsH_is]; exact hp⟩
 ·cases e
theorem allC_of {h:Heap}:∀ {l:List (Str×(Int ⊕ Str))},(l.map fun p=>seeC h p.1)=(l.map fun p=>some p)→AllC (allK h) l
 | [],_=>trivial
 | p :: l,e=>by
  simp only [List.map_cons,List.cons.injEq] at e
  exact ⟨seeC_ok e.1,allC_of e.2⟩
theorem ofH (t:Tabs) (w:World) (s:Shared) (e:obsH t s=valH t w):saysH t w s.heap:=by
 simp only [obsH,valH,Prod.mk.injEq] at e
 exact ⟨s.heap,fun _ _ e=>e,allF_of e.1,allB_of e.2.1,allT_of e.2.2.1,allC_of e.2.2.2⟩
theorem keepsH (t:Tabs) (w:World) (h h':Heap) (y:saysH t w h) (k:∀ b o,h.get? b=some o→h'.get? b=some o):saysH t w h':=by
 obtain ⟨h1,x,r⟩:=y
 exact ⟨h1,fun b o e=>k _ _ (x _ _ e),r⟩
theorem FunOf.fnd {K:Frag} {h:Heap} {mg:Str→Option Value} {x:Str} {st:Stmt} {ps:List Str} (X:K.In h) (G:h.Ns mainGlobals mg) (F:FunOf K x st) (b:∀ f fd,Fun K x x st f fd→Binds K fd ps []):Fnd K mg x st ps:=by
 obtain ⟨f,fd,m,F⟩:=F
 exact ⟨f,fd,mg_of X G m,F,b f fd F⟩
abbrev BnE (x:Str) (st:Stmt) (us:List Value) (r:List (Str×Value)):Prop:=∀ (kV doc pm:Value) (an:Option Addr) (cdv ct:Value),bindArgs (fnOf x x (defArgs st) (defBody st) (defScope st) .none kV doc pm an cdv ct) ⟨us,[]⟩=pure r
abbrev BnA (x:Str) (st:Stmt) (ps:List Str):Prop:=∀ (kV doc pm:Value) (an:Option Addr) (cdv ct:Value) (us:List Value),us.length=ps.length→bindArgs (fnOf x x (defArgs st) (defBody st) (defScope st) .none kV doc pm an cdv ct) ⟨us,[]⟩=pure (ps.zip us)
section
variable {x:Str} {st:Stmt}
theorem bn1 {p:Str} (ee:∀ a,BnE x st [a] [(p,a)]):BnA x st [p]:=fun _ _ _ _ _ _ us hl=>match us,hl with | [a],_=>ee a _ _ _ _ _ _
theorem bn2 {p q:Str} (ee:∀ a b,BnE x st [a,b] [(p,a),(q,b)]):BnA x st [p,q]:=fun _ _ _ _ _ _ us hl=>match us,hl with | [a,b],_=>ee a b _ _ _ _ _ _
theorem bn3 {p q r:Str} (ee:∀ a b c,BnE x st [a,b,c] [(p,a),(q,b),(r,c)]):BnA x st [p,q,r]:=fun _ _ _ _ _ _ us hl=>match us,hl with | [a,b,c],_=>ee a b c _ _ _ _ _ _
theorem bn4 {p q r s:Str} (ee:∀ a b c d,BnE x st [a,b,c,d] [(p,a),(q,b),(r,c),(s,d)]):BnA x st [p,q,r,s]:=fun _ _ _ _ _ _ us hl=>match us,hl with | [a,b,c,d],_=>ee a b c d _ _ _ _ _ _
end
theorem ConOf.int {K:Frag} {h:Heap} {mg:Str→Option Value} {x:Str} {i:Int} (X:K.In h) (G:h.Ns mainGlobals mg) (F:ConOf K x (.inl i)):∃ t,mg x=some (.int i t):=by
 obtain ⟨t,m⟩:=F
 exact ⟨t,mg_of X G m⟩
theorem walkH {l:OpenLaw} {k:Nat} {q:Program} {loose:List Str} {XP:(Str→Option Value)→Heap→Prop} {t:Tabs} {d:DefRec} (hn:l.most=some 63) (hdf:d.params.defaults=[]) (hr:Room k callerA)
  (F:∀ (w:World) (K:Frag) (mg:Str→Option Value) (fa:Addr) (h:Heap),Tab t K→K.In h→h.Ns mainGlobals mg→mg d.name=some (.ref fa) →
   ∃ fd:FuncData,(∀ (s:Shared) (u:Value),BindsTo s fd ⟨[u],[]⟩ [("_law_script", u)])∧∀ base:Heap,K.In base→base.Ns mainGlobals mg→FnOk l.prog w K mg base CX0 k fa fd ["_law_script"] (spLaw K)) :
  WalkO q loose XP (saysH t) l.row.toRowW d [] (fun f vs=>PySem.call f vs):=by
 refine Att.attach_call hn hdf fun w s₀ s₁ mg mb fa o pm cd doc a vs ns G Y ho hd hcd hmg hobj hints hlen hg=>?_
 obtain ⟨h1,kh,T⟩:=Y
 have KX:(allK h1).In s₁.heap:=(allK_in h1).keeps kh
 have tn:=tabs_none kh G.T.g
 obtain ⟨fd,hb,hF⟩:=F w (allK h1) mg fa _ T KX G.T.g hmg
 exact law_call KX G.T.g G.T.b G.T.builtins G.T.nolimit hg hobj hints (Nat.le_trans hlen (by decide)) hr hF hb (fun _=>none) (fun b u z=>by cases z) (fun p hp=>by rw [tn] at hp; cases hp) (fun H hO hS=>⟨a,ns,rfl,hS,hlen,fun _=>rfl⟩) fun H e s' z=>z
end L3
namespace L2
open PySem PySem.Spec PyProof.Rows PySem.W
end L2
namespace L3
open PySem L2
end L3
namespace Cut
open PySem L2 L3
open PySem.Builtin.Int (intBits)
def sld (g p:P3):P3:=(p.1 * g.2.2 + g.1 * p.2.2,p.2.1 * g.2.2 + g.2.1 * p.2.2,p.2.2 * g.2.2)
def trn (p:P3):P3:=(-p.1,-p.2.1,p.2.2)
def det3 (p q r:P3):Int:=(crs p q).1 * r.1 + (crs p q).2.1 * r.2.1 + (crs p q).2.2 * r.2.2
def sg (x:Int):Int:=if 0 < x then 1 else if x < 0 then -1 else 0
end Cut
namespace Cut
open PySem L2 L3
open PySem.Builtin.Int (intBits)
theorem cop_of {a b:Int} (h:∀ k:Int,k ∣ a→k ∣ b→k ∣ 1):Int.gcd a b=1:=by
 have q:=Int.natAbs_dvd_natAbs.mpr (h _ (Int.gcd_dvd_left a b) (Int.gcd_dvd_right a b))
 simpa using q
theorem cop_out {a b k:Int} (g:Int.gcd a b=1) (h1:k ∣ a) (h2:k ∣ b):k ∣ 1:=by
 have:=Int.dvd_coe_gcd h1 h2
 rw [g] at this
 exact this
theorem dvd_co' {k n m:Int} (h:k ∣ n * m) (g:Int.gcd k m=1):k ∣ n:=dvd_co (by rw [Int.mul_comm]; exact h) g
theorem cop_sub {a b k:Int} (g:Int.gcd a b=1) (h:k ∣ a):Int.gcd k b=1:=cop_of fun j h1 h2=>cop_out g (Int.dvd_trans h1 h) h2
theorem nrat_eq {x y t b:Int} (l:Low x y) (hb:b≠0) (e:x * b=t * y):nrat t b=(x,y):=by
 rw [← nrat_low l]
 exact nrat_cross hb (Int.ne_of_gt l.1) e.symm
theorem npt_eq {x y z a b n:Int} (p:Pt x y z) (hn:n≠0) (e1:x * n=a * z) (e2:y * n=b * z):npt a b n=(x,y,z):=by
 obtain ⟨q,f1,f2,_⟩:=npt_spec (a:=a) (b:=b) hn
 obtain ⟨h1,h2,h3⟩:=pt_uniq q p (Int.eq_of_mul_eq_mul_right hn (by grind)) (Int.eq_of_mul_eq_mul_right hn (by grind))
 exact Prod.ext h1 (Prod.ext h2 h3)
theorem gcd_parts {a b:Int} (h:a≠0∨b≠0):∃ x y:Int,a=((Int.gcd a b:Nat):Int) * x∧b=((Int.gcd a b:Nat):Int) * y∧Int.gcd x y=1:=by
 obtain ⟨x,hx⟩:=Int.gcd_dvd_left a b
 obtain ⟨y,hy⟩:=Int.gcd_dvd_right a b
 refine ⟨x,y,hx,hy,?_⟩
 have pos:0 < Int.gcd a b:=by
  rcases h with h | h
  ·exact Int.gcd_pos_of_ne_zero_left b h
  ·exact Int.gcd_pos_of_ne_zero_right a h
 have q:Int.gcd a b=(((Int.gcd a b:Nat):Int)).natAbs * Int.gcd x y:=gcd_fac hx hy
 rw [Int.natAbs_natCast] at q
 exact Nat.eq_of_mul_eq_mul_left pos (by lia)
theorem gcd_ne {a b:Int} (h:a≠0∨b≠0):((Int.gcd a b:Nat):Int)≠0:=by
 have pos:0 < Int.gcd a b:=by
  rcases h with h | h
  ·exact Int.gcd_pos_of_ne_zero_left b h
  ·exact Int.gcd_pos_of_ne_zero_right a h
 lia
theorem gcd_pos2 {a b:Int} (h:a≠0∨b≠0):0 < ((Int.gcd a b:Nat):Int):=by
 have:=gcd_ne h
 lia
theorem pos_r {s y:Int} (s0:0 < s) (h:0 < s * y):0 < y:=Int.pos_of_mul_pos_right h s0
theorem sum_cop {x y u k Y V:Int} (g:Int.gcd x y=1) (hy:Y ∣ y) (gY:Int.gcd Y V=1) (h1:k ∣ x * V + u * Y) (h2:k ∣ Y):k ∣ 1:=by
 have h3:k ∣ x * V:=by
  have:=Int.dvd_sub h1 (Int.dvd_mul_of_dvd_right h2 (b:=u))
  simpa using this
 exact cop_out g (dvd_co' h3 (cop_sub gY h2)) (Int.dvd_trans h2 hy)
theorem plus_low {x y u v:Int} (l1:Low x y) (l2:Low u v) {s top d:Int} (hs:s=(Int.gcd y v:Nat)) (ht:top=x * v.fdiv s + u * y.fdiv s) (hd:d=(Int.gcd s top:Nat)) :
  (top.fdiv d,y.fdiv s * v.fdiv d)=nrat (x * v + u * y) (y * v):=by
 obtain ⟨y0,g1⟩:=l1
 obtain ⟨v0,g2⟩:=l2
 obtain ⟨Y,V,hY,hV,gYV⟩:=gcd_parts (a:=y) (b:=v) (.inl (Int.ne_of_gt y0))
 have s0:0 < s:=by rw [hs]; exact gcd_pos2 (.inl (Int.ne_of_gt y0))
 rw [← hs] at hY hV
 have s1:=Int.ne_of_gt s0
 rw [fdiv_of hV s1,fdiv_of hY s1] at ht
 obtain ⟨S,T,hS,hT,gST⟩:=gcd_parts (a:=s) (b:=top) (.inl s1)
 have d0:0 < d:=by rw [hd]; exact gcd_pos2 (.inl s1)
 rw [← hd] at hS hT
 have d1:=Int.ne_of_gt d0
 have hv2:v=d * (S * V):=by rw [hV,hS,Int.mul_assoc]
 rw [fdiv_of hT d1,fdiv_of hY s1,fdiv_of hv2 d1]
 have Y0:0 < Y:=pos_r s0 (by lia)
 have V0:0 < V:=pos_r s0 (by lia)
 have S0:0 < S:=pos_r d0 (by lia)
 refine (nrat_eq ⟨Int.mul_pos Y0 (Int.mul_pos S0 V0),?_⟩ (Int.ne_of_gt (Int.mul_pos y0 v0)) ?_).symm
 ·refine cop_of fun k h1 h2=>?_
  have kt:k ∣ top:=by rw [hT]; exact Int.dvd_mul_of_dvd_right h1
  have c1:Int.gcd k Y=1:=cop_of fun j j1 j2=>sum_cop g1 ⟨s,by rw [hY,Int.mul_comm]⟩ gYV (by rw [← ht]; exact Int.dvd_trans j1 kt) j2
  have c2:Int.gcd k V=1:=cop_of fun j j1 j2=>sum_cop (x:=u) (u:=x) (Y:=V) (V:=Y) g2 ⟨s,by rw [hV,Int.mul_comm]⟩ (by rw [Int.gcd_comm]; exact gYV) (by rw [Int.add_comm,← ht]; exact Int.dvd_trans j1 kt) j2
  exact cop_out gST (dvd_co' (dvd_co h2 c1) c2) h1
 ·grind
theorem times_low {x y u v:Int} (l1:Low x y) (l2:Low u v) :
  (x.fdiv ((Int.gcd x v:Nat):Int) * u.fdiv ((Int.gcd u y:Nat):Int),y.fdiv ((Int.gcd u y:Nat):Int) * v.fdiv ((Int.gcd x v:Nat):Int))=nrat (x * u) (y * v):=by
 obtain ⟨y0,g1⟩:=l1
 obtain ⟨v0,g2⟩:=l2
 obtain ⟨X,V,hX,hV,gXV⟩:=gcd_parts (a:=x) (b:=v) (.inr (Int.ne_of_gt v0))
 obtain ⟨U,Y,hU,hY,gUY⟩:=gcd_parts (a:=u) (b:=y) (.inr (Int.ne_of_gt y0))
 have f0:=gcd_pos2 (a:=x) (b:=v) (.inr (Int.ne_of_gt v0))
 have h0:=gcd_pos2 (a:=u) (b:=y) (.inr (Int.ne_of_gt y0))
 generalize ((Int.gcd x v:Nat):Int)=f at *
 generalize ((Int.gcd u y:Nat):Int)=h at *
 rw [fdiv_of hX (Int.ne_of_gt f0),fdiv_of hV (Int.ne_of_gt f0),fdiv_of hU (Int.ne_of_gt h0),fdiv_of hY (Int.ne_of_gt h0)]
 have Y0:0 < Y:=pos_r h0 (by lia)
 have V0:0 < V:=pos_r f0 (by lia)
 refine (nrat_eq ⟨Int.mul_pos Y0 V0,?_⟩ (Int.ne_of_gt (Int.mul_pos y0 v0)) ?_).symm
 ·refine cop_of fun k k1 k2=>?_
  have gXY:Int.gcd X Y=1:=cop_of fun j j1 j2=>cop_out g1 (by rw [hX]; exact Int.dvd_mul_of_dvd_right j1) (by rw [hY]; exact Int.dvd_mul_of_dvd_right j2)
  have gUV:Int.gcd U V=1:=cop_of fun j j1 j2=>cop_out g2 (by rw [hU]; exact Int.dvd_mul_of_dvd_right j1) (by rw [hV]; exact Int.dvd_mul_of_dvd_right j2)
  have c1:Int.gcd k Y=1:=cop_of fun j j1 j2=>by
   have h3:j ∣ X * U:=Int.dvd_trans j1 k1
   have h4:j ∣ U:=dvd_co h3 (cop_of fun i i1 i2=>cop_out gXY i2 (Int.dvd_trans i1 j2))
   exact cop_out gUY h4 j2
  have h5:k ∣ V:=dvd_co k2 c1
  have h6:k ∣ U:=dvd_co k1 (cop_of fun i i1 i2=>cop_out gXV i2 (Int.dvd_trans i1 h5))
  exact cop_out gUV h6 h5
 ·grind
theorem pt_cop {x y z:Int} (h:∀ k:Int,k ∣ x→k ∣ y→k ∣ z→k ∣ 1):Int.gcd (Int.gcd x y:Nat) z=1 :=
 cop_of fun k h1 h2=>h k (Int.dvd_trans h1 (Int.gcd_dvd_left x y)) (Int.dvd_trans h1 (Int.gcd_dvd_right x y)) h2
theorem pt_out {x y z k:Int} (g:Int.gcd (Int.gcd x y:Nat) z=1) (h1:k ∣ x) (h2:k ∣ y) (h3:k ∣ z):k ∣ 1:=cop_out g (Int.dvd_coe_gcd h1 h2) h3
theorem slid_cop {a b n r w k N M:Int} (g:Int.gcd (Int.gcd a b:Nat) n=1) (hn:N ∣ n) (gN:Int.gcd N M=1) (h1:k ∣ a * M + r * N) (h2:k ∣ b * M + w * N) (h3:k ∣ N):k ∣ 1:=by
 have q1:k ∣ a * M:=by
  have:=Int.dvd_sub h1 (Int.dvd_mul_of_dvd_right h3 (b:=r))
  simpa using this
 have q2:k ∣ b * M:=by
  have:=Int.dvd_sub h2 (Int.dvd_mul_of_dvd_right h3 (b:=w))
  simpa using this
 exact pt_out g (dvd_co' q1 (cop_sub gN h3)) (dvd_co' q2 (cop_sub gN h3)) (Int.dvd_trans h3 hn)
theorem slid_low {a b n r w m:Int} (p1:Pt a b n) (p2:Pt r w m) {s X Y d:Int} (hs:s=(Int.gcd n m:Nat)) (hX:X=a * m.fdiv s + r * n.fdiv s) (hYY:Y=b * m.fdiv s + w * n.fdiv s) (hd:d=(Int.gcd ((Int.gcd s X:Nat):Int) Y:Nat)) :
  (X.fdiv d,Y.fdiv d,n.fdiv s * m.fdiv d)=npt (a * m + r * n) (b * m + w * n) (n * m):=by
 obtain ⟨n0,g1⟩:=p1
 obtain ⟨m0,g2⟩:=p2
 obtain ⟨N,M,hN,hM,gNM⟩:=gcd_parts (a:=n) (b:=m) (.inl (Int.ne_of_gt n0))
 have s0:0 < s:=by rw [hs]; exact gcd_pos2 (.inl (Int.ne_of_gt n0))
 rw [← hs] at hN hM
 have s1:=Int.ne_of_gt s0
 rw [fdiv_of hN s1,fdiv_of hM s1] at hX hYY
 obtain ⟨S1,X1,hS1,hX1,gSX⟩:=gcd_parts (a:=s) (b:=X) (.inl s1)
 have e1:=gcd_ne (a:=s) (b:=X) (.inl s1)
 obtain ⟨E,Y1,hE,hY1,gEY⟩:=gcd_parts (a:=((Int.gcd s X:Nat):Int)) (b:=Y) (.inl e1)
 have d0:0 < d:=by rw [hd]; exact gcd_pos2 (.inl e1)
 rw [← hd] at hE hY1
 have d1:=Int.ne_of_gt d0
 have hS:s=d * (E * S1):=by
  rw [hS1]
  conv=>lhs; rw [hE]
  rw [Int.mul_assoc]
 have hX2:X=d * (E * X1):=by
  rw [hX1]
  conv=>lhs; rw [hE]
  rw [Int.mul_assoc]
 have hm2:m=d * (E * S1 * M):=by rw [hM,hS,Int.mul_assoc]
 rw [fdiv_of hX2 d1,fdiv_of hY1 d1,fdiv_of hN s1,fdiv_of hm2 d1]
 have N0:0 < N:=pos_r s0 (by lia)
 have M0:0 < M:=pos_r s0 (by lia)
 have S0:0 < E * S1:=pos_r d0 (by lia)
 refine (npt_eq ⟨Int.mul_pos N0 (Int.mul_pos S0 M0),?_⟩ (Int.ne_of_gt (Int.mul_pos n0 m0)) ?_ ?_).symm
 ·refine pt_cop fun k h1 h2 h3=>?_
  have kX:k ∣ X:=by rw [hX2]; exact Int.dvd_mul_of_dvd_right h1
  have kY:k ∣ Y:=by rw [hY1]; exact Int.dvd_mul_of_dvd_right h2
  have c1:Int.gcd k N=1:=cop_of fun j j1 j2=>slid_cop g1 ⟨s,by rw [hN,Int.mul_comm]⟩ gNM (by rw [← hX]; exact Int.dvd_trans j1 kX) (by rw [← hYY]; exact Int.dvd_trans j1 kY) j2
  have c2:Int.gcd k M=1:=cop_of fun j j1 j2=>slid_cop (a:=r) (b:=w) (n:=m) (r:=a) (w:=b) (N:=M) (M:=N) g2 ⟨s,by rw [hM,Int.mul_comm]⟩ (by rw [Int.gcd_comm]; exact gNM) (by rw [Int.add_comm,← hX]; exact Int.dvd_trans j1 kX) (by rw [Int.add_comm,← hYY]; exact Int.dvd_trans j1 kY) j2
  have h4:k ∣ E * S1:=dvd_co' (dvd_co h3 c1) c2
  have h5:k ∣ E:=by
   have z:=Int.dvd_coe_gcd h4 h1
   rw [Int.gcd_mul_left,gSX,Nat.mul_one] at z
   exact Int.dvd_trans z (Int.natAbs_dvd.mpr (Int.dvd_refl E))
  exact cop_out gEY h5 h2
 ·grind
 ·grind
end Cut
namespace Cut
open PySem L2 L3
open PySem.Builtin.Int (intBits)
theorem BP.sld {m n:Nat} {g p:P3} (hg:BP m g) (hp:BP n p):BP (n + m + 1) (Cut.sld g p):=by
 refine ⟨?_,?_,?_⟩
 ·exact Nat.le_trans (intBits_add_le (intBits_mul_le hp.a hg.c) (intBits_mul_le hg.a hp.c)) (by lia)
 ·exact Nat.le_trans (intBits_add_le (intBits_mul_le hp.b hg.c) (intBits_mul_le hg.b hp.c)) (by lia)
 ·exact Nat.le_trans (intBits_mul_le hp.c hg.c) (by lia)
theorem sld_ne {g p:P3} (hg:PtP g) (hp:PtP p):(sld g p).2.2≠0:=one_ne hp.1 hg.1
theorem PtP.sld {g p:P3} (hg:PtP g) (hp:PtP p):PtP (nP (Cut.sld g p)):=nP_pt (sld_ne hg hp)
theorem BP.sldN {m n:Nat} {g p:P3} (hg:BP m g) (hp:BP n p) (qg:PtP g) (qp:PtP p):BP (n + m + 1) (Cut.nP (Cut.sld g p)):=(hg.sld hp).nP (sld_ne qg qp)
end Cut
namespace Cut
open PySem L2 L3
open PySem.Builtin.Int (intBits)
def nth (ps:List P3) (n:Nat):P3:=(ps[n]?).getD (0,0,1)
theorem nth_eq {ps:List P3} {n:Nat} (h:n < ps.length):nth ps n=ps[n]:=by unfold nth; rw [List.getElem?_eq_getElem h]; rfl
theorem atI_nth {ps:List P3} {n:Nat} (h:n < ps.length):atI (ps.map dP) (n:Int)=some (dP (nth ps n)):=by rw [nth_eq h]; exact atI_map (atI_ofNat h)
structure GP (m:Nat) (p:P3):Prop where
 pt:PtP p
 bp:BP m p
theorem GP.sl {m n:Nat} {g p:P3} (hg:GP m g) (h:GP n p):GP (n + m + 1) (nP (sld g p)):=⟨hg.pt.sld h.pt,hg.bp.sldN h.bp hg.pt h.pt⟩
theorem sg_cases (x:Int):sg x=1∨sg x = -1∨sg x=0:=by
 unfold sg
 split
 ·exact .inl rfl
 ·split
  ·exact .inr (.inl rfl)
  ·exact .inr (.inr rfl)
end Cut
namespace Cut
open PySem L2 L3
open PySem.Builtin.Int (intBits)
theorem sg_pos {x:Int} (h:0 < x):sg x=1:=by unfold sg; rw [if_pos h]
theorem atI_back1 {ps:List P3} {k:Nat} (h:k < ps.length):atI (ps.map dP) ((k:Int) - 1)=some (dP (nth ps ((k + ps.length - 1) % ps.length))):=by
 cases k with
 | zero =>
  have e:((0:Nat) + ps.length - 1) % ps.length=ps.length - 1:=by rw [Nat.zero_add]; exact Nat.mod_eq_of_lt (by lia)
  rw [e,nth_eq (by lia)]
  unfold atI ixN
  rw [if_neg (by lia),if_pos (by rw [List.length_map]; lia)]
  show (ps.map dP)[_]?=_
  rw [List.getElem?_map,List.length_map,show (((0:Nat):Int) - 1 + (ps.length:Int)).toNat=ps.length - 1 by lia,List.getElem?_eq_getElem (by lia)]
  rfl
 | succ k =>
  have e:(k + 1 + ps.length - 1) % ps.length=k:=by
   rw [show k + 1 + ps.length - 1=k + ps.length by lia,Nat.add_mod_right]; exact Nat.mod_eq_of_lt (by lia)
  rw [e,show (((k + 1:Nat):Int) - 1)=(k:Int) by lia]
  exact atI_nth (by lia)
end Cut
namespace L2
open PySem PySem.Spec PyProof.Rows PySem.W
end L2
namespace L2
open PySem PySem.Spec PyProof.Rows PySem.W
end L2
namespace L3
open PySem L2
section
variable {X:Cx} {a b c e:Expr} {ua ub uc u:UE} {pos p p1 p2 p3:Pos}
theorem e_glbI {x:Str} {i:Int} {t:Tok} (hm:X.mg x=some (.int i t)) (hg:Gl X x) (hd:(x == ("__debug__" : Str))=false:=by decide):PE3 X (.Name x pos) (uC (.int i)) :=
 ⟨_,pe_glob (v:=.int i) hg hm ⟨_,rfl⟩ hd,refC fun _=>.int _⟩
end
end L3
namespace L3
open PySem L2 PyProof.Rows
end L3
namespace L2
open PySem PySem.Spec PyProof.Rows PySem.W
section
variable {X:Cx}
theorem call_allB (hc:X.calm=true):CallR X (.builtin "all") (fun xs H Q=>∃ (l:Addr) (bs:List Bool),xs=[.ref l]∧H l=some (.lst (bs.map V.bl))∧Q (.bl (bs.all id)) H):=by
 intro pins s σ H xs us Q I r h
 obtain ⟨l,bs,rfl,hl,q⟩:=h
 obtain ⟨u,rfl,r1⟩:=vals1 r
 cases r1
 obtain ⟨its,rv,pl,hz⟩:=I.list (SqL.of hl)
 have hil:=pl.isList
 have hlt:l < s.heap.objs.size:=by
  obtain ⟨_,e,_⟩:=hil
  exact Heap.lt_size e
 refine call_all_walk (wpAny_pyIter_list hil ⟨s.heap.objs.size,[s.heap.objs.size,l],[s.heap.objs.size],its.toArray.size,_,_,fun i=>bs.getD i true,rfl,Walks.list (A:=X.A.in1) (I.ok.hd hc) _ l (Nat.ne_of_lt hlt) its.toArray,?_,?_,?_⟩)
 ·exact ⟨⟨_,Heap.get?_push_size _ rfl,rfl,rfl⟩,hil.push _⟩
 ·intro i v s' Q' E' hP hQ
  obtain ⟨y,ey,ry⟩:=rv.getR (i:=i) (u:=v) (by simpa using hP)
  rw [List.getElem?_map] at ey
  cases hb:bs[i]? with
  | none=>rw [hb] at ey; cases ey
  | some b =>
   rw [hb] at ey
   have e:y=.bl b:=(Option.some.inj ey).symm
   subst e
   cases ry
   have e2:bs.getD i true=b:=by rw [List.getD_eq_getElem?_getD,hb]; rfl
   have hQ:Q' (bs.getD i true) s':=hQ
   rw [e2] at hQ
   exact wpAny_truthy_bool hQ
 ·intro h' tk hk
  have hlen:its.length=bs.length:=by have:=rv.length; rw [List.length_map] at this; exact this.symm
  have e:((List.range its.toArray.size).all fun i=>bs.getD i true)=bs.all id:=by
   rw [List.size_toArray,hlen,Bool.eq_iff_iff,List.all_eq_true,List.all_eq_true]
   constructor
   ·intro z b hb
    obtain ⟨j,hj⟩:=List.getElem?_of_mem hb
    have lt:j < bs.length:=(List.getElem?_eq_some_iff.mp hj).1
    have:=z j (List.mem_range.mpr lt)
    rw [List.getD_eq_getElem?_getD,hj] at this
    exact this
   ·intro z j hj
    have lt:=List.mem_range.mp hj
    rw [List.getD_eq_getElem?_getD,List.getElem?_eq_getElem lt]
    exact z _ (List.getElem_mem lt)
  rw [e]
  refine ⟨.bl _,H,I.kept (h':=h') (t':=tk) fun b o eb=>?_,rfl,q⟩
  refine hk b o (fun hm=>?_) (Heap.get?_push_of_some _ eb)
  rw [List.mem_singleton.mp hm] at eb
  exact Nat.lt_irrefl _ (Heap.lt_size eb)
end
end L2
namespace L3
open PySem L2
section
variable {X:Cx} {a b c e:Expr} {ua ub uc u:UE} {pos p p1 p2 p3:Pos}
def uAllB (u:UE):UE:=fun ρ k=>u ρ fun x=>∃ bs:List Bool,x=.lst (bs.map D.bl)∧k (.bl (bs.all id))
theorem Reps.bls {K:PySem.W.Frag} {B:Hp}:∀ {xs:List Bool} {vs:List V},Reps K B vs (xs.map D.bl)→vs=xs.map V.bl
 | [],_,.nil=>rfl
 | x :: xs,_,.cons h r=>by rw [h.blV,Reps.bls r]; rfl
theorem e_allB (ha:PE3 X e u) (hc:X.calm=true) (hg:Gl X "all") (hm:X.mg "all" = none) (hs:starEach [e] X.env=(false,eval e X.env) :: starEach [] X.env:=by rfl):PE3 X (.Call (.Name "all" p) [e] [] pos) (uAllB u):=by
 obtain ⟨_,h1,r1⟩:=ha
 refine ⟨_,pe_callB (call_allB hc) hg hm (by decide +kernel) (pa_cons h1 pa_nil hs) (by decide) (by decide) hs,refCB1 (f:=fun x k=>∃ bs:List Bool,x=.lst (bs.map D.bl)∧k (.bl (bs.all id))) r1 fun x k h R W B H σ ρ v Q e rx q=>?_⟩
 obtain ⟨bs,rfl,hk⟩:=h
 obtain ⟨a,vs,rfl,ha,rs⟩:=rx.lstV
 exact ⟨a,bs,rfl,by rw [e.bh _ _ ha,rs.bls],q _ _ B H hk e (Grow.refl _ _) (.bl _)⟩
end
end L3
namespace L2
open PySem PySem.Spec PyProof.Rows PySem.W
end L2
namespace L3
open PySem L2 PySem.W
end L3
namespace L3
open PySem L2 PyProof.Rows
end L3
namespace Cut
open PySem L2 L3
open PySem.Builtin.Int (intBits)
theorem nth_succ (a:P3) (r:List P3) (i:Nat):nth (a :: r) (i + 1)=nth r i:=rfl
theorem nth_zero (a:P3) (r:List P3):nth (a :: r) 0=a:=rfl
end Cut
namespace Cut
open PySem L2 L3
end Cut
namespace Cut
open PySem L2 L3
variable {f:P3→Int} {mt:P3→P3→P3}
end Cut
namespace Cut
open PySem L2 L3
theorem opp {x y:Int} (h:x * y < 0):(0 < x∧y < 0)∨(x < 0∧0 < y):=by
 rcases Int.lt_trichotomy x 0 with z | z | z
 ·rcases Int.lt_trichotomy y 0 with w | w | w
  ·have:=Int.mul_pos_of_neg_of_neg z w; lia
  ·rw [w,Int.mul_zero] at h; lia
  ·exact .inr ⟨z,w⟩
 ·rw [z,Int.zero_mul] at h; lia
 ·rcases Int.lt_trichotomy y 0 with w | w | w
  ·exact .inl ⟨z,w⟩
  ·rw [w,Int.mul_zero] at h; lia
  ·have:=Int.mul_pos z w; lia
end Cut
namespace L2
open PySem PySem.Spec PyProof.Rows PySem.W
section
variable {X:Cx} {pins:List (Addr×Obj)} {σ:St} {H:Hp} {s:Shared} {h':Heap}
theorem Inv.turned2 {t':Nat} {it e:Addr} (I:Inv X pins σ H s) (k:∀ b o,b≠it→b≠e→s.heap.get? b=some o→h'.get? b=some o) (fi:FpOk X pins H it) (fe:FpOk X pins H e):Inv X pins σ H { s with heap:=h',toks:=t' }:=by
 obtain ⟨i0,i1,i2,i3,i4,i5⟩:=fi
 obtain ⟨e0,e1,e2,e3,e4,e5⟩:=fe
 have nit:∀ b u,H b=some u→b≠it∧b≠e:=fun b u q=>⟨(fun z=>by rw [z,i0] at q; cases q),(fun z=>by rw [z,e0] at q; cases q)⟩
 have kk:∀ b o,b ∉ [it,e]→s.heap.get? b=some o→h'.get? b=some o:=fun b o hc q=>k b o (fun z=>hc (by simp [z])) (fun z=>hc (by simp [z])) q
 refine I.step (g':=s.gens) (d':=s.drawn) (ch:=[it,e]) (fun b hb=>?_) (fun b o _ _ hc q _=>kk b o hc q) (fun b o _ _ hc q _=>⟨o.slots,kk b o hc q⟩) (fun _ _ _ _ n=>n)
  (fun b o hc q=>⟨o,kk b o hc q⟩) (fun _ _ e=>e) (fun _ _ _ e=>e) (fun b ps q=>⟨#[],by rw [q]; simp⟩) (fun m hm=>?_) (fun b u q=>?_) I.bare
 ·rcases List.mem_cons.mp hb with rfl | hb
  ·exact ⟨i3,i1,i4,i5⟩
  ·rw [List.mem_singleton.mp hb]; exact ⟨e3,e1,e4,e5⟩
 ·obtain ⟨o,es,ep,ho,r⟩:=hm
  exact ⟨o,es,ep,k _ o (Ne.symm i1) (Ne.symm e1) ho,r⟩
 ·refine (I.hok b u q).stay (fun c v hc y=>k c v ?_ ?_ y) (fun _ q=>q) (fun _ _ q=>q) fun _ _ _ q=>q
  ·rcases hc with z | z
   ·rw [z]; exact (nit b u q).1
   ·exact (nit c _ z).1
  ·rcases hc with z | z
   ·rw [z]; exact (nit b u q).2
   ·exact (nit c _ z).2
end
def Ite (K:PySem.W.Frag) (a:Addr):It :=
 ⟨fun i H=>∃ xs x,SqL K H a xs∧xs[i]?=some x,fun i H x H'=>∃ p y,H p=none∧x=.ref p∧H'=upd H p (.tup [.int i,y])∧∀ xs,SqL K H a xs→xs[i]?=some y,fun i H=>∃ xs,SqL K H a xs∧xs.length≤i⟩
theorem turn_enum {P:Program} {w:World} {K:PySem.W.Frag} {elts:List Expr} {k:Nat} {pos:Pos} (a it e:Addr) (hne:e≠it):Turn P w K (.Tuple elts k pos) (Ite K a) [e,it] e (fun i h=>(∃ old,IsEnum h e it (i:Nat) old)∧h.IsListIter it a i) where
 mem:=by simp
 obj:=fun i h st b hb=>by
  obtain ⟨⟨old,he⟩,o,ho,c,d⟩:=st
  rcases List.mem_cons.mp hb with rfl | hb
  ·exact ⟨_,he,fun v z=>by cases z⟩
  ·rw [List.mem_singleton.mp hb]
   exact ⟨o,ho,fun v z=>by rw [d] at z; cases z⟩
 keep:=fun i h h' st kp=>by
  obtain ⟨⟨old,he⟩,hi⟩:=st
  exact ⟨⟨old,kp e (by simp) _ he⟩,hi.at fun o q=>kp it (by simp) o q⟩
 item:=by
  intro X hP hw hK hc i pins s σ H E I hf st hg
  subst hP hw hK
  obtain ⟨xs,x,hq,hx⟩:=hg
  obtain ⟨⟨old,he⟩,hi⟩:=st
  obtain ⟨its,rv,p,hz⟩:=I.list hq
  obtain ⟨u,hu,ru⟩:=rv.get hx
  have fe:=hf e (by simp)
  have fi:=hf it (by simp)
  have elt:e < s.heap.objs.size:=Heap.lt_size he
  have ilt:it < s.heap.objs.size:=by obtain ⟨o,ho,_⟩:=id hi; exact Heap.lt_size ho
  refine wpAny_pyNext_enum_item he hi p.isList (x:=u) (by simpa using hu) hne fun h1 out hi1 ht hs1 kp=>⟨_,rfl,wpAny_letOwnedTupleGo_enum out fun h2 he2 sb=>?_⟩
  have Te:s.heap.objs.size≠e:=Nat.ne_of_gt elt
  have Ti:s.heap.objs.size≠it:=Nat.ne_of_gt ilt
  have I0:Inv X pins σ (upd H s.heap.objs.size (.tup [.int i,x])) { s with heap:=s.heap.push { cls:=.type "tuple", data:=.seq #[.int i s.toks,u] },toks:=s.toks + 1 } :=
   I.laid (t':=s.toks + 1) (fun _ _ q=>Heap.get?_push_of_some _ q) (Nat.le_refl _) ⟨by show 2≤sizeLine; decide,[.int i s.toks,u],.cons ⟨_,rfl⟩ (.cons ru .nil),⟨_,Heap.get?_push_size _ rfl,rfl,_,rfl⟩⟩
  have up:∀ b,FpOk X pins H b→b≠s.heap.objs.size→FpOk X pins (upd H s.heap.objs.size (.tup [.int i,x])) b:=fun b f n=>⟨by rw [upd_ne n]; exact f.1,f.2⟩
  have I1:=I0.turned2 (h':=h2) (t':=s.toks + 1) (it:=it) (e:=e) (fun b o n1 n2 q=>by
   rw [sb.2 b n2]
   by_cases z:b=s.heap.objs.size
   ·subst z
    rw [Heap.get?_push_size _ rfl] at q
    rw [← q]; exact ht
   ·refine kp b o n2 n1 ?_
    rw [← q]
    exact (Heap.get?_push_ne s.heap b _ z).symm) (up it fi (Ne.symm Ti)) (up e fe (Ne.symm Te))
  refine ⟨.ref s.heap.objs.size,_,I1,rfl,⟨s.heap.objs.size,x,I.fresh,rfl,rfl,fun ys hy=>by rw [I.list_inj hy hq]; exact hx⟩,⟨⟨_,he2⟩,hi1.at fun o q=>(sb.2 it (Ne.symm hne)).trans q⟩,fun b hb=>?_⟩
  rcases List.mem_cons.mp hb with rfl | hb
  ·exact (up _ fe (Ne.symm Te)).1
  ·rw [List.mem_singleton.mp hb]; exact (up it fi (Ne.symm Ti)).1
 done:=by
  intro X hP hw hK hc i pins s σ H E I hf st hg
  subst hP hw hK
  obtain ⟨xs,hq,hx⟩:=hg
  obtain ⟨⟨old,he⟩,hi⟩:=st
  obtain ⟨its,rv,p,hz⟩:=I.list hq
  obtain ⟨f0,f1,f2,f3,f4,f5⟩:=hf it (by simp)
  have hl:=rv.length
  exact wpAny_pyNext_enum_end (I.ok.hd hc) he hi p.isList (by simp; lia) fun h' eb=>⟨rfl,I.turned (t':=s.toks) (fun b o hb q=>eb b o hb q) f0 f1 f3 f4 f5⟩
 self:=fun _ _ _ _ _ st h=>by
  obtain ⟨⟨old,he⟩,_⟩:=st
  exact wpAny_pyIter_enum he h
def iEnum (K:PySem.W.Frag) (ta:TA):TI:=fun σ H R=>ta σ H fun vs H1=>∃ a,vs=[.ref a]∧(∃ xs,SqL K H1 a xs)∧R (Ite K a) H1
theorem pi_enum {X:Cx} {elts:List Expr} {k:Nat} {tp:Pos} {a:Expr} {ta:TA} {p pos:Pos} (hg:Gl X "enumerate") (hm:X.mg "enumerate" = none) (ha:PA X [a] ta) (hs:starEach [a] X.env=[(false,eval a X.env)]:=by rfl):PI X (.Tuple elts k tp) (.Call (.Name "enumerate" p) [a] [] pos) (iEnum X.K ta):=by
 intro pins s σ H R I h
 refine Call_ (ld_blt I hg hm (by decide +kernel:bootBuiltins "enumerate" = some (.type "enumerate")) (PyProof.Rows.callWith_type1 (thn (ha pos pins s σ H _ I h) fun us s1 ⟨vs,H1,I1,r1,q1⟩=>?_) hs rfl))
 obtain ⟨l,e,⟨xs,hq⟩,q⟩:=q1
 subst e
 obtain ⟨u,rfl,r⟩:=vals1 r1
 cases r
 obtain ⟨its,rv,pl,hz⟩:=I1.list hq
 refine call_enumerate_list pl.isList fun h' en li sz kp=>wpAny_pyIter_enum en ?_
 refine ⟨s1.heap.objs.size + 1,[s1.heap.objs.size + 1,s1.heap.objs.size],_,_,H1,rfl,I1.kept (t':=s1.toks) kp,turn_enum l s1.heap.objs.size (s1.heap.objs.size + 1) (Nat.succ_ne_self _),⟨⟨_,en⟩,li⟩,fun b hb=>?_,q⟩
 rcases List.mem_cons.mp hb with rfl | hb
 ·exact I1.fpOk (Nat.le_succ _) (I1.hok.fresh (Nat.le_succ _))
 ·rw [List.mem_singleton.mp hb]; exact I1.fpOk (Nat.le_refl _) (I1.hok.fresh (Nat.le_refl _))
end L2
namespace L3
open PySem L2
def prs:Nat→List D→List D
 | _,[]=>[]
 | n,d :: r=>.tup [.int (n:Nat),d] :: prs (n + 1) r
def uForE (u:UE) (g:UG) (s:US):US:=fun U ρ=>u ρ fun d=>∃ ds,d=.lst ds∧forR g s U (prs 0 ds) ρ
section
variable {X:Cx} {a:Expr} {u:UE} {pos p:Pos}
theorem s_forE {elts:List Expr} {k:Nat} {tp:Pos} {body:List Stmt} {g:UG} {s:US} (hp:PassesOwn (model X.prog X.w) X.A X.env X.xe) (hc:X.calm=true) (ha:PE3 X a u) (hge:Gl X "enumerate") (hm:X.mg "enumerate" = none) (hg:PG3 X (.Tuple elts k tp) g) (hb:PSs3 X body s)
  (hsa:starEach [a] X.env=[(false,eval a X.env)]:=by rfl) (hs:∀ x,foldedSetIterable (.Call (.Name "enumerate" p) [a] [] pos) X.env x=pure x:=by intro _; rfl) {pos':Pos} :
  PS3 X (.For (.Tuple elts k tp) (.Call (.Name "enumerate" p) [a] [] pos) body [] pos') (uForE u g s):=by
 obtain ⟨_,h0,r0⟩:=ha; obtain ⟨_,h1,r1⟩:=hg; obtain ⟨_,h2,r2⟩:=hb
 refine ⟨_,ps_for hp hc (pi_enum hge hm (pa_cons h0 pa_nil (by rw [hsa]; rfl)) hsa) h1 h2 hs,fun U ρ h R W B H σ D e sm=>?_⟩
 refine r0 ρ _ h R W B H σ _ e fun d v B1 H1 z1 e1 g1 rv=>?_
 obtain ⟨ds,rfl,z1⟩:=z1
 obtain ⟨l,vs,rfl,hl,rs⟩:=rv.lstV
 refine ⟨l,rfl,⟨vs,SqL.of (e1.bh _ _ hl)⟩,?_⟩
 refine ⟨fun i m σ' H'=>∃ ρ' B',m=ds.length - i∧i≤ds.length∧forR g s U (prs i (ds.drop i)) ρ'∧Ev X.K R W B' H' σ' ρ'∧Grow R B B'∧Same B1 B',⟨ds.length,ρ,B1,by simp,Nat.zero_le _,z1,e1,g1,Same.refl _⟩,?_⟩
 rintro i m σ1 H2 ⟨ρ1,B2,rfl,hi,z2,e2,g2,s2⟩
 have hq:SqL X.K H2 l vs:=SqL.of (e2.bh _ _ (s2 _ _ hl))
 by_cases hlt:i < ds.length
 ·have hlv:i < vs.length:=by rw [rs.length]; exact hlt
  refine .inr ⟨⟨vs,vs[i],hq,List.getElem?_eq_getElem hlv⟩,fun σ' H'=>∃ ρ' B',forR g s U (prs (i + 1) (ds.drop (i + 1))) ρ'∧Ev X.K R W B' H' σ' ρ'∧Grow R B B'∧Same B1 B',?_,?_⟩
  ·rintro σ' H' ⟨ρ',B',z,e',g',s'⟩
   exact ⟨ds.length - (i + 1),by lia,ρ',B',rfl,hlt,z,e',g',s'⟩
  ·rintro x H' ⟨q,y,hq0,rfl,rfl,hy⟩
   obtain ⟨d,hd,rx⟩:=rs.getV (hy vs hq)
   have ed:ds.drop i=d :: ds.drop (i + 1):=by
    rw [List.drop_eq_getElem_cons hlt]
    rw [List.getElem?_eq_getElem hlt] at hd
    rw [Option.some.inj hd]
   rw [ed] at z2
   have g3:=e2.grow hq0 (.tup [.int i,y])
   have e3:=e2.alloc hq0 (.tup [.int i,y])
   refine r1 _ ρ1 _ z2 R W _ _ σ1 (.ref q) _ e3 (.tup upd_same (.cons (.int _) (.cons (rx.mono (s2.trans g3.s)) .nil))) fun ρ' σ' z' e' _=>?_
   have g4:=g2.trans g3
   have s4:=s2.trans g3.s
   exact r2 _ ρ' z' R W _ _ σ' _ e' ⟨fun ρ' σ' B' H' z e' g=>⟨ρ',B',z,e',g4.trans g,s4.trans g.s⟩,fun ρ' σ' B' H' z e' g=>sm.nx ρ' σ' B' H' z e' (g4.trans g),fun ρ' σ' B' H' z e' g=>⟨ρ',B',z,e',g4.trans g,s4.trans g.s⟩,fun r v B' H' z e' g q=>sm.rt r v B' H' z e' (g4.trans g) q⟩
 ·have ei:i=ds.length:=by lia
  subst ei
  rw [List.drop_length] at z2
  exact .inl ⟨⟨vs,hq,by rw [rs.length]; exact Nat.le_refl _⟩,sm.nx ρ1 σ1 B2 H2 z2 e2 g2⟩
end
end L3
namespace L3
open PySem L2
theorem forR_prs {α:Type} {f:α→D} {s:US} {U:UEnds} {i j:Nat} (I:List α→List Sl→Prop):∀ {rs done:List α} {ρ:List Sl},I done ρ →
  (∀ (pre:List α) (r:α) (rest:List α) ρ,done ++ rs=pre ++ r :: rest→I pre ρ→∀ N:List Sl→Prop,(∀ r',I (pre ++ [r]) r'→N r')→s { U with nx:=N,ct:=N,bk:=U.nx } ((ρ.set i (.val (.int pre.length))).set j (.val (f r))))→(∀ ρ,I (done ++ rs) ρ→U.nx ρ) →
  forR (ugTup 2 (ugCons (ugName i) (ugCons (ugName j) ugNil))) s U (prs done.length (rs.map f)) ρ
 | [],done,ρ,h0,_,h2=>h2 ρ (by rw [List.append_nil]; exact h0)
 | r :: rs,done,ρ,h0,h1,h2=>by
  refine ⟨_,rfl,rfl,_,_,rfl,_,_,rfl,rfl,h1 done r rs ρ rfl h0 _ fun r' hr=>?_⟩
  have e:done ++ r :: rs=(done ++ [r]) ++ rs:=by simp
  rw [e] at h1 h2
  have:=forR_prs I hr h1 h2
  rw [List.length_append] at this
  exact this
end L3
namespace Cut
open PySem L2 L3
theorem sg_mul_neg {x y:Int}:sg x * sg y < 0↔x * y < 0:=by
 constructor
 ·intro h
  rcases opp h with ⟨a,b⟩ | ⟨a,b⟩
  ·have h1:0 < x:=by unfold sg at a; split at a <;> first | assumption | (split at a <;> lia)
   have h2:y < 0:=by unfold sg at b; split at b <;> first | lia | (split at b <;> first | assumption | lia)
   exact Int.mul_neg_of_pos_of_neg h1 h2
  ·have h1:x < 0:=by unfold sg at a; split at a <;> first | lia | (split at a <;> first | assumption | lia)
   have h2:0 < y:=by unfold sg at b; split at b <;> first | assumption | (split at b <;> lia)
   rw [Int.mul_comm]
   exact Int.mul_neg_of_pos_of_neg h2 h1
 ·intro h
  rcases opp h with ⟨a,b⟩ | ⟨a,b⟩
  ·have e1:sg x=1:=sg_pos a
   have e2:sg y = -1:=by unfold sg; rw [if_neg (by lia),if_pos b]
   rw [e1,e2]; decide
  ·have e1:sg x = -1:=by unfold sg; rw [if_neg (by lia),if_pos a]
   have e2:sg y=1:=sg_pos b
   rw [e1,e2]; decide
end Cut
namespace Cut
open PySem L2 L3
theorem atI_nat {α:Type} {xs:List α} {i:Nat} {x:α} (h:xs[i]?=some x):atI xs (i:Int)=some x:=by
 have lt:i < xs.length:=(List.getElem?_eq_some_iff.mp h).1
 unfold atI
 have e:L2.ixN xs.length (i:Int)=some i:=by
  unfold L2.ixN
  rw [if_pos (by lia)]
  simp [lt]
 rw [e]
 exact h
end Cut
namespace Cut
open PySem L2 L3
end Cut
namespace Cut
open PySem L2 L3
end Cut
namespace L3
open PySem L2
end L3
namespace Cut
open PySem L2 L3
def prZ:P3→List P3→List (P3×P3)
 | _,[]=>[]
 | z,p :: r=>(z,p) :: prZ p r
def lz:P3→List P3→P3
 | z,[]=>z
 | _,p :: r=>lz p r
def eds (ps:List P3):List (P3×P3):=prZ (lz (0,0,1) ps) ps
theorem lz_mem:∀ {z:P3} {L:List P3},L≠[]→lz z L∈L
 | _,[],h=>absurd rfl h
 | z,[p],_=>List.mem_cons_self
 | z,p :: q :: r,_=>List.mem_cons_of_mem _ (lz_mem (z:=p) (L:=q :: r) (by simp))
theorem prZ_mem:∀ {z:P3} {L:List P3} {e:P3×P3},e∈prZ z L→(e.1=z∨e.1∈L)∧e.2∈L
 | _,[],_,h=>by cases h
 | z,p :: r,e,h=>by
  rcases List.mem_cons.mp h with rfl | h
  ·exact ⟨.inl rfl,List.mem_cons_self⟩
  ·obtain ⟨h1,h2⟩:=prZ_mem h
   refine ⟨.inr ?_,List.mem_cons_of_mem _ h2⟩
   rcases h1 with h1 | h1
   ·rw [h1]; exact List.mem_cons_self
   ·exact List.mem_cons_of_mem _ h1
theorem eds_mem {L:List P3} {e:P3×P3} (h:e∈eds L):e.1∈L∧e.2∈L:=by
 have n:L≠[]:=by rintro rfl; cases h
 obtain ⟨h1,h2⟩:=prZ_mem h
 refine ⟨?_,h2⟩
 rcases h1 with h1 | h1
 ·rw [h1]; exact lz_mem n
 ·exact h1
end Cut
namespace Cut
open PySem L2 L3
open PySem.Builtin.Int (intBits)
end Cut
namespace Cut
open PySem L2 L3
open PySem.Builtin.Int (intBits)
def sumT (T:P3→P3→Rat) (es:List (P3×P3)):Rat:=(es.map fun e=>T e.1 e.2).sum
def rX (p:P3):Rat:=(p.1:Rat) / (p.2.2:Rat)
def rY (p:P3):Rat:=(p.2.1:Rat) / (p.2.2:Rat)
def crR (p q:P3):Rat:=rX p * rY q - rY p * rX q
theorem pos_ne {x:Int} (h:0 < x):(x:Rat)≠0:=fun z=>by
 have:=Rat.intCast_eq_zero_iff.mp z
 lia
def areaR (ps:List P3):Rat:=sumT crR (eds ps)
end Cut
namespace L3
open PySem L2
end L3
namespace L3
open PySem L2
end L3
namespace L3
open PySem L2
end L3
namespace L3
open PySem L2
end L3
namespace Cut
open PySem L2 L3
open PySem.Builtin.Int (intBits)
def vq (a:Int×Int):Rat:=(a.1:Rat) / (a.2:Rat)
theorem prZ_get:∀ (z:P3) (L:List P3) (k:Nat),k < L.length→(prZ z L)[k]?=some (nth (z :: L) k,nth L k)
 | _,[],_,h=>absurd h (by simp)
 | z,p :: L,0,_=>rfl
 | z,p :: L,k + 1,h=>by
  have:=prZ_get p L k (by simpa using h)
  simpa [prZ,nth_succ] using this
theorem prZ_len:∀ (z:P3) (L:List P3),(prZ z L).length=L.length
 | _,[]=>rfl
 | z,p :: L=>by simp [prZ,prZ_len p L]
theorem lz_nth:∀ (z:P3) (L:List P3),L≠[]→lz z L=nth L (L.length - 1)
 | _,[],h=>absurd rfl h
 | z,[p],_=>rfl
 | z,p :: q :: L,_=>by
  have:=lz_nth p (q :: L) (by simp)
  show lz p (q :: L)=_
  rw [this]
  rfl
theorem eds_range (ps:List P3):eds ps=(List.range ps.length).map fun k=>(nth ps ((k + ps.length - 1) % ps.length),nth ps k):=by
 apply List.ext_getElem?
 intro k
 by_cases h:k < ps.length
 ·have hn:ps≠[]:=by rintro rfl; simp at h
  rw [List.getElem?_map,List.getElem?_range h]
  unfold eds
  rw [prZ_get _ _ _ h]
  simp only [Option.map_some]
  congr 2
  cases k with
  | zero =>
   rw [nth_zero,lz_nth _ _ hn,Nat.zero_add,Nat.mod_eq_of_lt (by lia)]
  | succ k =>
   rw [nth_succ,show k + 1 + ps.length - 1=k + ps.length by lia,Nat.add_mod_right,Nat.mod_eq_of_lt (by lia)]
 ·rw [List.getElem?_eq_none (by unfold eds; rw [prZ_len]; lia),List.getElem?_eq_none (by simp; lia)]
end Cut
namespace Cut
open PySem L2 L3
end Cut
namespace L3
open PySem L2
theorem compG_flt {α:Type} {f h:α→D} {P:α→Bool} {ut:UT} {u:UE} {fs:List Sl}:∀ {rs:List α} {v0:Sl} {k:List D→Prop},(∀ r∈rs,∀ k:Bool→Prop,k (P r)→ut (.val (f r) :: fs) k)→(∀ r∈rs,∀ k:D→Prop,k (h r)→u (.val (f r) :: fs) k)→k ((rs.filter P).map h)→compG (ugName 0) ut u (rs.map f) (v0 :: fs) k
 | [],_,_,_,_,hk=>hk
 | r :: rs,v0,k,h1,h2,hk=>by
  refine h1 r List.mem_cons_self _ ?_
  cases c:P r with
  | true =>
   rw [if_pos rfl]
   refine h2 r List.mem_cons_self _ ?_
   refine compG_flt (P:=P) (fun x hx=>h1 x (List.mem_cons_of_mem _ hx)) (fun x hx=>h2 x (List.mem_cons_of_mem _ hx)) ?_
   rw [List.filter_cons_of_pos c] at hk
   exact hk
  | false =>
   rw [if_neg Bool.false_ne_true]
   refine compG_flt (P:=P) (fun x hx=>h1 x (List.mem_cons_of_mem _ hx)) (fun x hx=>h2 x (List.mem_cons_of_mem _ hx)) ?_
   rw [List.filter_cons_of_neg (by rw [c]; decide)] at hk
   exact hk
end L3
namespace Cut
open PySem L2 L3
open PySem.Builtin.Int (intBits)
theorem eds_take {ps:List P3} {i:Nat} (h:i < ps.length):(eds ps).take (i + 1)=(eds ps).take i ++ [(nth ps ((i + ps.length - 1) % ps.length),nth ps i)]:=by
 rw [List.take_succ,eds_range,List.getElem?_map,List.getElem?_range h]
 rfl
theorem eds_all (ps:List P3):(eds ps).take ps.length=eds ps:=List.take_of_length_le (by unfold eds; rw [prZ_len]; exact Nat.le_refl _)
end Cut
namespace Cut
open PySem L2 L3
open PySem.Builtin.Int (intBits)
theorem sg_eq0 (x:Int):sg x=0↔x=0:=by unfold sg; split <;> first | lia | (split <;> lia)
end Cut
namespace Cut
open PySem L2 L3
open PySem.Builtin.Int (intBits)
end Cut
namespace Cut
open PySem L2 L3
open PySem.Builtin.Int (intBits)
end Cut
namespace Cut
open PySem L2 L3
open PySem.Builtin.Int (intBits)
end Cut
namespace L3
open PySem L2
end L3
namespace L3
open PySem L2
end L3
namespace L3
open PySem L2
end L3
namespace L3
open PySem L2
end L3
namespace Cut
open PySem L2 L3
open PySem.Builtin.Int (intBits)
end Cut
namespace Cut
open PySem L2 L3
end Cut
namespace L3
end L3
namespace Cut
open PySem L2 L3
end Cut
namespace Tab
open PySem PySem.SetTable
def Msk (m:Nat):Prop:=m=7∨m=15∨m=31∨m=63∨m=127∨m=255
def stp1 (m i:Nat):Nat:=(i * 5 + 1) % (m + 1)
def orb (m:Nat):Nat→Nat→Nat
 | 0,i=>i
 | k + 1,i=>orb m k (stp1 m i)
theorem orb_add (m:Nat):∀ (a b i:Nat),orb m (a + b) i=orb m b (orb m a i)
 | 0,b,i=>by rw [Nat.zero_add]; rfl
 | a + 1,b,i=>by
  rw [show a + 1 + b=(a + b) + 1 by lia]
  exact orb_add m a b _
def whn (m:Nat):List Nat:=if m=7 then [0,1,6,7,4,5,2,3] else if m=15 then [0,1,6,15,12,13,2,11,8,9,14,7,4,5,10,3] else if m=31 then [0,1,6,15,28,13,2,27,24,25,30,7,20,5,26,19,16,17,22,31,12,29,18,11,8,9,14,23,4,21,10,3] else if m=63 then [0,1,6,47,28,45,2,59,56,25,62,7,20,5,58,19,48,49,54,31,12,29,50,43,40,9,46,55,4,53,42,3,32,33,38,15,60,13,34,27,24,57,30,39,52,37,26,51,16,17,22,63,44,61,18,11,8,41,14,23,36,21,10,35] else if m=127 then [0,1,70,111,28,109,2,123,120,25,126,71,20,5,58,83,112,49,54,31,12,29,114,43,104,73,110,119,4,53,42,3,96,97,38,79,124,77,98,91,88,121,94,39,116,101,26,51,80,17,22,127,108,125,82,11,72,41,78,87,100,21,10,99,64,65,6,47,92,45,66,59,56,89,62,7,84,69,122,19,48,113,118,95,76,93,50,107,40,9,46,55,68,117,106,67,32,33,102,15,60,13,34,27,24,57,30,103,52,37,90,115,16,81,86,63,44,61,18,75,8,105,14,23,36,85,74,35] else [0,1,70,239,156,109,2,123,120,25,254,71,148,5,58,83,240,49,182,159,140,157,114,43,104,73,110,247,132,53,170,3,224,97,38,79,124,205,226,219,88,121,222,167,116,101,26,179,208,145,150,255,108,253,82,139,72,169,78,87,100,149,138,99,192,193,6,175,92,45,194,59,56,217,190,7,84,197,250,19,176,241,118,95,76,93,50,235,40,9,46,183,68,245,106,195,160,33,230,15,60,141,162,155,24,57,158,103,52,37,218,115,144,81,86,191,44,189,18,75,8,105,14,23,36,85,74,35,128,129,198,111,28,237,130,251,248,153,126,199,20,133,186,211,112,177,54,31,12,29,242,171,232,201,238,119,4,181,42,131,96,225,166,207,252,77,98,91,216,249,94,39,244,229,154,51,80,17,22,127,236,125,210,11,200,41,206,215,228,21,10,227,64,65,134,47,220,173,66,187,184,89,62,135,212,69,122,147,48,113,246,223,204,221,178,107,168,137,174,55,196,117,234,67,32,161,102,143,188,13,34,27,152,185,30,231,180,165,90,243,16,209,214,63,172,61,146,203,136,233,142,151,164,213,202,163]
theorem whn7:(List.range 8).all (fun e=>orb 7 ((whn 7).getD e 0) 0 == e && decide ((whn 7).getD e 0≤7))=true:=by decide +kernel
theorem whn15:(List.range 16).all (fun e=>orb 15 ((whn 15).getD e 0) 0 == e && decide ((whn 15).getD e 0≤15))=true:=by decide +kernel
theorem whn31:(List.range 32).all (fun e=>orb 31 ((whn 31).getD e 0) 0 == e && decide ((whn 31).getD e 0≤31))=true:=by decide +kernel
theorem whn63:(List.range 64).all (fun e=>orb 63 ((whn 63).getD e 0) 0 == e && decide ((whn 63).getD e 0≤63))=true:=by decide +kernel
theorem whn127:(List.range 128).all (fun e=>orb 127 ((whn 127).getD e 0) 0 == e && decide ((whn 127).getD e 0≤127))=true:=by decide +kernel
theorem whn255:(List.range 256).all (fun e=>orb 255 ((whn 255).getD e 0) 0 == e && decide ((whn 255).getD e 0≤255))=true:=by decide +kernel
theorem whn_all {m e:Nat} (hm:Msk m) (he:e≤m):∃ k,k≤m∧orb m k 0=e:=by
 have go:∀ {m:Nat},(List.range (m + 1)).all (fun e=>orb m ((whn m).getD e 0) 0 == e && decide ((whn m).getD e 0≤m))=true→e≤m→∃ k,k≤m∧orb m k 0=e:=fun h he=>by
  have:=List.all_eq_true.mp h e (List.mem_range.mpr (by lia))
  rw [Bool.and_eq_true] at this
  exact ⟨_,of_decide_eq_true this.2,eq_of_beq this.1⟩
 rcases hm with rfl | rfl | rfl | rfl | rfl | rfl
 ·exact go whn7 he
 ·exact go whn15 he
 ·exact go whn31 he
 ·exact go whn63 he
 ·exact go whn127 he
 ·exact go whn255 he
theorem orb_round {m:Nat} (hm:Msk m):orb m (m + 1) 0=0:=by
 rcases hm with rfl | rfl | rfl | rfl | rfl | rfl <;> decide +kernel
theorem meets_all {m i e:Nat} (hm:Msk m) (hi:i≤m) (he:e≤m):∃ k,k≤m∧orb m (k + 1) i=e:=by
 obtain ⟨a,a1,a2⟩:=whn_all hm hi
 obtain ⟨b,b1,b2⟩:=whn_all hm he
 by_cases c:a < b
 ·refine ⟨b - a - 1,by lia,?_⟩
  rw [← a2,← orb_add,show a + (b - a - 1 + 1)=b by lia]
  exact b2
 ·refine ⟨m - a + b,by lia,?_⟩
  rw [← a2,← orb_add,show a + (m - a + b + 1)=(m + 1) + b by lia,orb_add,orb_round hm]
  exact b2
def lps (m:Nat):Nat→Nat→Nat→Nat×Nat
 | 0,i,q=>(i,q)
 | k + 1,i,q=>lps m k (leap m i q).1 (leap m i q).2
theorem lps_add (m:Nat):∀ (a b i q:Nat),lps m (a + b) i q=lps m b (lps m a i q).1 (lps m a i q).2
 | 0,b,i,q=>by rw [Nat.zero_add]; rfl
 | a + 1,b,i,q=>by
  rw [show a + 1 + b=(a + b) + 1 by lia]
  exact lps_add m a b _ _
theorem lps_q (m:Nat):∀ (k i q:Nat),(lps m k i q).2=q / 32 ^ k
 | 0,i,q=>by simp [lps]
 | k + 1,i,q=>by
  show (lps m k (leap m i q).1 (leap m i q).2).2=_
  rw [lps_q m k]
  show q / 32 / 32 ^ k=_
  rw [Nat.div_div_eq_div_mul,Nat.pow_succ,Nat.mul_comm]
theorem lps_le (m:Nat):∀ (k i q:Nat),0 < k→(lps m k i q).1≤m
 | 0,_,_,h=>absurd h (by lia)
 | k + 1,i,q,_=>by
  show (lps m k (leap m i q).1 (leap m i q).2).1≤m
  cases k with
  | zero =>
   show (i * 5 + 1 + q / 32) % (m + 1)≤m
   exact Nat.le_of_lt_succ (Nat.mod_lt _ (Nat.succ_pos _))
  | succ k=>exact lps_le m (k + 1) _ _ (by lia)
theorem lps_orb (m:Nat):∀ (k i:Nat),(lps m k i 0).1=orb m k i∧(lps m k i 0).2=0
 | 0,i=>⟨rfl,rfl⟩
 | k + 1,i=>by
  have e:leap m i 0=(stp1 m i,0):=by simp [leap,stp1]
  show (lps m k (leap m i 0).1 (leap m i 0).2).1=orb m k (stp1 m i)∧_
  rw [e]
  exact lps_orb m k (stp1 m i)
theorem lps_meets {m i q e:Nat} (hm:Msk m) (hq:q < 2 ^ 64) (he:e≤m):∃ k,1≤k∧k≤m + 14∧(lps m k i q).1=e:=by
 have z:(lps m 13 i q).2=0:=by
  rw [lps_q]
  exact Nat.div_eq_of_lt (Nat.lt_of_lt_of_le hq (by decide))
 obtain ⟨k,h1,h2⟩:=meets_all hm (lps_le m 13 i q (by decide)) he
 refine ⟨13 + (k + 1),by lia,by lia,?_⟩
 rw [lps_add,z,(lps_orb m (k + 1) _).1]
 exact h2
variable {t:SetTable} {hashAt:Nat→Int} {h:Int}
theorem slot_nodummy (hd:t.dummies = #[]) (j:Nat):t.slot j≠.dummy:=by
 unfold SetTable.slot
 dsimp only
 split
 ·exact fun z=>by cases z
 ·rw [if_neg]
  ·exact fun z=>by cases z
  ·rw [hd]; simp [SetTable.has]
theorem runEnd_le (m i:Nat):runEnd m i - i≤9:=by unfold runEnd; split <;> lia
theorem probe_go (hd:t.dummies = #[]):∀ (k:Nat) (fuel:Nat) (p:Probe),1≤k→t.slot (lps t.mask k p.i p.perturb).1=.empty→p.more + 10 * k≤fuel→p.more≤9→∃ met,SetTable.probe.go t hashAt h (fuel + 1) p=some met:=by
 intro k
 induction k with
 | zero=>intro _ _ h; lia
 | succ k ihk =>
  intro fuel
  induction fuel with
  | zero=>intro p _ _ hf; lia
  | succ fuel ih =>
   intro p hk hs hf hm
   unfold SetTable.probe.go
   cases q:t.slot p.j with
   | empty=>exact ⟨_,rfl⟩
   | dummy=>exact absurd q (slot_nodummy hd _)
   | live i =>
    dsimp only
    split
    ·exact ⟨_,rfl⟩
    ·unfold SetTable.advance
     by_cases c:p.more > 0
     ·rw [if_pos c]
      exact ih { p with j:=p.j + 1,more:=p.more - 1 } hk hs (by dsimp only; lia) (by dsimp only; lia)
     ·rw [if_neg c]
      dsimp only
      have hr:=runEnd_le t.mask (leap t.mask p.i p.perturb).1
      cases k with
      | zero =>
       have hs:t.slot (leap t.mask p.i p.perturb).1=.empty:=hs
       unfold SetTable.probe.go
       dsimp only
       rw [hs]
       exact ⟨_,rfl⟩
      | succ k=>exact ihk fuel { p with j:=(leap t.mask p.i p.perturb).1,more:=runEnd t.mask (leap t.mask p.i p.perturb).1 - (leap t.mask p.i p.perturb).1,i:=(leap t.mask p.i p.perturb).1,perturb:=(leap t.mask p.i p.perturb).2 } (by lia) hs (by dsimp only; lia) (by dsimp only; lia)
theorem sub_len:∀ {l m:List Nat},l.Nodup→(∀ x∈l,x∈m)→l.length≤m.length
 | [],_,_,_=>Nat.zero_le _
 | a :: l,m,hn,h=>by
  have ha:=h a List.mem_cons_self
  have ih:=sub_len (l:=l) (m:=m.erase a) (List.nodup_cons.mp hn).2 fun x hx=>(List.mem_erase_of_ne (fun e=>(List.nodup_cons.mp hn).1 (by rw [← e]; exact hx))).mpr (h x (List.mem_cons_of_mem _ hx))
  have e:=List.length_erase_of_mem ha
  have p:=List.length_pos_of_mem ha
  rw [List.length_cons]
  lia
theorem slot_live {j i:Nat} (e:t.slot j=.live i):t.place[i]?=some j:=by
 unfold SetTable.slot at e
 dsimp only at e
 split at e
 ·rename_i z
  injection e with e
  subst e
  exact eq_of_beq z
 ·split at e <;> cases e
theorem some_empty (hd:t.dummies = #[]) (hf:t.place.size≤t.mask):∃ j,j≤t.mask∧t.slot j=.empty:=by
 apply Classical.byContradiction
 intro n
 have all:∀ j∈List.range (t.mask + 1),j∈t.place.toList:=fun j hj=>by
  cases q:t.slot j with
  | empty=>exact absurd ⟨j,by have:=List.mem_range.mp hj; lia,q⟩ n
  | dummy=>exact absurd q (slot_nodummy hd _)
  | live i =>
   have:=slot_live q
   exact Array.mem_toList_iff.mpr (Array.mem_of_getElem? this)
 have:=sub_len (List.nodup_range (n:=t.mask + 1)) all
 rw [List.length_range,Array.length_toList] at this
 lia
structure Stand (t:SetTable) (p:Probe):Prop where
 more:p.more≤9
 pert:p.perturb < 2 ^ 64
theorem bits_lt (h:Int):bits h < 2 ^ 64:=by
 unfold bits
 have h1:=Int.emod_nonneg h (show (2 ^ 64:Int)≠0 by decide)
 have h2:=Int.emod_lt_of_pos h (show (0:Int) < 2 ^ 64 by decide)
 lia
theorem stand_start (t:SetTable) (h:Int):Stand t (t.probeStart h):=⟨runEnd_le _ _,bits_lt h⟩
theorem Stand.next {p:Probe} (s:Stand t p):Stand t (t.advance p):=by
 unfold SetTable.advance
 split
 ·exact ⟨by dsimp only; have:=s.more; lia,s.pert⟩
 ·refine ⟨runEnd_le _ _,?_⟩
  show p.perturb / 32 < 2 ^ 64
  exact Nat.lt_of_le_of_lt (Nat.div_le_self _ _) s.pert
theorem probe_some (hm:Msk t.mask) (hd:t.dummies = #[]) (hf:t.place.size≤t.mask) {p:Probe} (s:Stand t p):∃ met,t.probe hashAt h p=some met:=by
 obtain ⟨e,he,hs⟩:=some_empty hd hf
 obtain ⟨k,k1,k2,k3⟩:=lps_meets (i:=p.i) hm s.pert he
 have fu:10 * turns t.mask=(10 * turns t.mask - 1) + 1:=by unfold turns; lia
 unfold SetTable.probe
 rw [fu]
 exact probe_go hd k _ p k1 (by rw [k3]; exact hs) (by unfold turns; have:=s.more; lia) s.more
end Tab
namespace Tab
open PySem PySem.SetTable
theorem free_some {m:Nat} {owner:Array (Option Nat)}:∀ (k fuel i q:Nat),(owner.getD (lps m k i q).1 (some 0)).isNone=true→k < fuel→∃ j,SetTable.layClean.free m owner fuel i q=some j∧(owner.getD j (some 0)).isNone=true
 | _,0,_,_,_,h=>absurd h (by lia)
 | k,fuel + 1,i,q,hs,hk=>by
  unfold SetTable.layClean.free
  cases c:(List.range (runEnd m i + 1 - i)).find? fun k=>(owner.getD (i + k) (some 0)).isNone with
  | some a=>exact ⟨i + a,rfl,List.find?_some (p:=fun k=>(owner.getD (i + k) (some 0)).isNone) c⟩
  | none =>
   cases k with
   | zero =>
    have n:=List.find?_eq_none.mp c 0 (List.mem_range.mpr (by unfold runEnd; split <;> lia))
    exact absurd hs n
   | succ k=>exact free_some k fuel (leap m i q).1 (leap m i q).2 hs (by lia)
def cnt (owner:Array (Option Nat)):Nat:=owner.toList.countP Option.isSome
structure Own (m:Nat) (owner:Array (Option Nat)) (k:Nat):Prop where
 sz:owner.size=m + 1
 ct:cnt owner=k
 lt:∀ x∈owner.toList,∀ v,x=some v→v < k
theorem Own.empty {m k:Nat} {owner:Array (Option Nat)} (o:Own m owner k) (hk:k≤m):∃ e,e≤m∧(owner.getD e (some 0)).isNone=true:=by
 apply Classical.byContradiction
 intro n
 have all:∀ x∈owner.toList,Option.isSome x=true:=fun x hx=>by
  obtain ⟨i,hi,e⟩:=List.getElem_of_mem hx
  rw [Array.length_toList] at hi
  cases x with
  | some v=>rfl
  | none =>
   refine absurd ⟨i,by have:=o.sz; lia,?_⟩ n
   rw [Array.getD_eq_getD_getElem?,Array.getElem?_eq_getElem hi]
   have:owner[i]=none:=by rw [← e,Array.getElem_toList]
   rw [this]; rfl
 have e:=List.countP_eq_length.mpr all
 have:=o.ct
 unfold cnt at this
 rw [Array.length_toList,o.sz] at e
 lia
theorem Own.put {m k j:Nat} {owner:Array (Option Nat)} (o:Own m owner k) (hj:(owner.getD j (some 0)).isNone=true):Own m (owner.setIfInBounds j (some k)) (k + 1):=by
 have lt:j < owner.size:=by
  by_cases c:j < owner.size
  ·exact c
  ·rw [Array.getD_eq_getD_getElem?,Array.getElem?_eq_none (by lia)] at hj
   cases hj
 have nn:owner[j]=none:=by
  rw [Array.getD_eq_getD_getElem?,Array.getElem?_eq_getElem lt] at hj
  exact Option.isNone_iff_eq_none.mp hj
 have el:(owner.setIfInBounds j (some k)).toList=owner.toList.set j (some k):=Array.toList_setIfInBounds
 have lt':j < owner.toList.length:=by rw [Array.length_toList]; exact lt
 have nn':owner.toList[j]=none:=by rw [Array.getElem_toList]; exact nn
 refine ⟨by rw [Array.size_setIfInBounds]; exact o.sz,?_,fun x hx v e=>?_⟩
 ·unfold cnt
  rw [el,List.countP_set lt',nn']
  have:=o.ct
  unfold cnt at this
  rw [this]
  rfl
 ·rw [el] at hx
  rcases List.mem_or_eq_of_mem_set hx with h | h
  ·exact Nat.lt_succ_of_lt (o.lt x h v e)
  ·rw [e] at h
   have:=Option.some.inj h
   lia
theorem fold_own {m:Nat} (hm:Msk m):∀ (hs:List Int) (owner:Array (Option Nat)) (k:Nat),Own m owner k→k + hs.length≤m →
  ∃ owner',hs.foldl (init:=some (owner,k)) (fun acc h=>do
   let (owner,k) ← acc
   let j ← SetTable.layClean.free m owner (turns m) (bits h % (m + 1)) (bits h)
   pure (owner.setIfInBounds j (some k),k + 1))=some (owner',k + hs.length)∧Own m owner' (k + hs.length)
 | [],owner,k,o,_=>⟨owner,rfl,o⟩
 | h :: hs,owner,k,o,hl=>by
  rw [List.length_cons] at hl
  obtain ⟨e,he,z⟩:=o.empty (by lia)
  obtain ⟨a,_,a2,a3⟩:=lps_meets (i:=bits h % (m + 1)) hm (bits_lt h) he
  obtain ⟨j,j1,j2⟩:=free_some (m:=m) (owner:=owner) a (turns m) (bits h % (m + 1)) (bits h) (by rw [a3]; exact z) (by unfold turns; lia)
  obtain ⟨o',e1,e2⟩:=fold_own hm hs _ (k + 1) (o.put j2) (by lia)
  refine ⟨o',?_,by rw [List.length_cons,show k + (hs.length + 1)=k + 1 + hs.length by lia]; exact e2⟩
  rw [List.foldl_cons,List.length_cons,show k + (hs.length + 1)=k + 1 + hs.length by lia,← e1]
  congr 1
  show (do let j ← SetTable.layClean.free m owner (turns m) (bits h % (m + 1)) (bits h); pure (owner.setIfInBounds j (some k),k + 1))=some (owner.setIfInBounds j (some k),k + 1)
  rw [j1]
  rfl
theorem own_start (m:Nat):Own m (Array.replicate (m + 1) none) 0:=by
 refine ⟨Array.size_replicate,?_,fun x hx v e=>?_⟩
 ·unfold cnt
  rw [Array.toList_replicate]
  refine List.countP_eq_zero.mpr fun x hx=>?_
  rw [List.eq_of_mem_replicate hx]
  decide
 ·rw [Array.toList_replicate] at hx
  have:=List.eq_of_mem_replicate hx
  rw [e] at this
  cases this
theorem toList_range (owner:Array (Option Nat)):owner.toList=(List.range owner.size).map fun j=>owner.getD j none:=by
 apply List.ext_getElem?
 intro i
 by_cases h:i < owner.size
 ·rw [List.getElem?_map,List.getElem?_range h,Array.getElem?_toList,Array.getElem?_eq_getElem h]
  simp [Array.getD_eq_getD_getElem?,Array.getElem?_eq_getElem h]
 ·rw [List.getElem?_eq_none (by rw [Array.length_toList]; lia),List.getElem?_eq_none (by simp; lia)]
theorem laid_ok {m finger moves:Nat} {led plain:Bool} {hashes:Array Int} (hm:Msk m) (hn:hashes.size≤m) :
  ∃ t order,SetTable.laid m finger moves led plain hashes=some (t,order)∧t.mask=m∧t.dummies = #[]∧t.place.size=hashes.size∧order.size=hashes.size∧(∀ x∈order.toList,x < hashes.size)∧t.led=led∧t.plain=plain:=by
 obtain ⟨o,e,w⟩:=fold_own hm hashes.toList _ 0 (own_start m) (by rw [Array.length_toList]; lia)
 rw [Nat.zero_add,Array.length_toList] at e w
 have lc:SetTable.layClean m hashes=some o:=by
  unfold SetTable.layClean
  rw [← Array.foldl_toList,e]
  rfl
 have len:((List.range (m + 1)).filterMap fun j=>(o.getD j none).map (j,·)).length=hashes.size:=by
  rw [List.length_filterMap_eq_countP]
  have c:=w.ct
  unfold cnt at c
  rw [toList_range,List.countP_map,w.sz] at c
  rw [← c]
  congr 1
  funext j
  simp
 refine ⟨_,_,by unfold SetTable.laid; rw [lc]; rfl,rfl,rfl,?_,?_,fun x hx=>?_,rfl,rfl⟩
 ·show ((((List.range (m + 1)).filterMap fun j=>(o.getD j none).map (j,·)).map (·.1)).toArray).size=_
  rw [List.size_toArray,List.length_map,len]
 ·show ((((List.range (m + 1)).filterMap fun j=>(o.getD j none).map (j,·)).map (·.2)).toArray).size=_
  rw [List.size_toArray,List.length_map,len]
 ·have hx:x∈(((List.range (m + 1)).filterMap fun j=>(o.getD j none).map (j,·)).map (·.2)).toArray.toList:=hx
  rw [List.toList_toArray] at hx
  obtain ⟨p,hp,rfl⟩:=List.mem_map.mp hx
  obtain ⟨j,hj,e2⟩:=List.mem_filterMap.mp hp
  have jl:=List.mem_range.mp hj
  cases q:o.getD j none with
  | none=>rw [q] at e2; cases e2
  | some v =>
   rw [q] at e2
   have e2:=Option.some.inj e2
   rw [← e2]
   refine w.lt (some v) ?_ v rfl
   rw [toList_range]
   exact List.mem_map.mpr ⟨j,by rw [w.sz]; exact hj,q⟩
end Tab
namespace Tab
open PySem PySem.SetTable
def advN (t:SetTable):Nat→Probe→Probe
 | 0,p=>p
 | n + 1,p=>advN t n (t.advance p)
section
variable {t:SetTable} {hashAt:Nat→Int} {h:Int}
theorem adv_dummy (p:Probe):(t.advance p).dummy=p.dummy:=by
 unfold SetTable.advance
 split <;> rfl
theorem go_met (hd:t.dummies = #[]):∀ (fuel:Nat) (p:Probe) (met:Met),SetTable.probe.go t hashAt h fuel p=some met →
  (∃ j n,met=.empty j p.dummy∧n < fuel∧t.slot (advN t n p).j=.empty)∨(∃ j i n,met=.candidate j i (advN t (n + 1) p)∧t.slot j=.live i∧∀ m,m≤n→t.slot (advN t m p).j≠.empty)
 | 0,p,met,e=>by cases e
 | fuel + 1,p,met,e=>by
  unfold SetTable.probe.go at e
  cases q:t.slot p.j with
  | empty =>
   rw [q] at e
   cases e
   exact .inl ⟨_,0,rfl,Nat.succ_pos _,q⟩
  | dummy=>exact absurd q (slot_nodummy hd _)
  | live i =>
   rw [q] at e
   dsimp only at e
   split at e
   ·cases e
    refine .inr ⟨p.j,i,0,rfl,q,fun m hm=>?_⟩
    have:m=0:=by lia
    subst this
    show t.slot p.j≠.empty
    rw [q]; exact fun z=>by cases z
   ·rcases go_met hd fuel (t.advance p) met e with ⟨j,n,a,b,c⟩ | ⟨j,i',n,a,b,c⟩
    ·exact .inl ⟨j,n + 1,by rw [a,adv_dummy],by lia,c⟩
    ·refine .inr ⟨j,i',n + 1,a,b,fun m hm=>?_⟩
     cases m with
     | zero=>show t.slot p.j≠.empty; rw [q]; exact fun z=>by cases z
     | succ m=>exact c m (by lia)
theorem adv_ends (hm:Msk t.mask) (hd:t.dummies = #[]) (hf:t.place.size≤t.mask) {p:Probe} (s:Stand t p):∃ n,n < 10 * turns t.mask∧t.slot (advN t n p).j=.empty:=by
 obtain ⟨met,e⟩:=probe_some (hashAt:=fun _=>1) (h:=0) hm hd hf s
 have e':=e
 unfold SetTable.probe at e
 rcases go_met hd _ p met e with ⟨j,n,_,b,c⟩ | ⟨j,i,n,a,b,c⟩
 ·exact ⟨n,b,c⟩
 ·-- no hash is alike
  exfalso
  have no:∀ (fuel:Nat) (p:Probe) (j i:Nat) (nx:Probe),SetTable.probe.go t (fun _=>1) 0 fuel p≠some (.candidate j i nx):=fun fuel=>by
   induction fuel with
   | zero=>intro p j i nx z; cases z
   | succ fuel ih =>
    intro p j i nx z
    unfold SetTable.probe.go at z
    cases q:t.slot p.j with
    | empty=>rw [q] at z; cases z
    | dummy=>exact absurd q (slot_nodummy hd _)
    | live i' =>
     rw [q] at z
     exact ih _ _ _ _ z
  rw [a] at e
  exact no _ _ _ _ _ e
theorem advN_stand {p:Probe}:∀ (n:Nat) {p:Probe},Stand t p→Stand t (advN t n p)
 | 0,_,s=>s
 | n + 1,_,s=>advN_stand (p:=p) n s.next
theorem advN_dummy:∀ (n:Nat) (p:Probe),(advN t n p).dummy=p.dummy
 | 0,_=>rfl
 | n + 1,p=>by
  show (advN t n (t.advance p)).dummy=_
  rw [advN_dummy n,adv_dummy]
theorem advN_add:∀ (a b:Nat) (p:Probe),advN t (a + b) p=advN t b (advN t a p)
 | 0,b,p=>by rw [Nat.zero_add]; rfl
 | a + 1,b,p=>by
  rw [show a + 1 + b=(a + b) + 1 by lia]
  exact advN_add a b _
end
section
variable {prog:Program} {w:World} {A:Around} {E:Value→Shared→Prop} {s:Shared}
abbrev TK (prog:Program) (w:World) (h:Heap) (b:Addr):Prop:=∃ ks,IsTupleKey (intKind prog w) h ks b
theorem ints_of {ks:List Int} {vs:List Value} (h:ItemsAre (intKind prog w) ks vs):∀ v∈vs,∃ i tk,v=.int i tk:=by
 induction h with
 | nil=>intro v hv; cases hv
 | @cons k v ks vs h1 _ ih =>
  intro u hu
  rcases List.mem_cons.mp hu with rfl | hu
  ·cases u with
   | int i tk=>exact ⟨i,tk,rfl⟩
   | _=>cases h1
  ·exact ih u hu
theorem TK.at {b:Addr} (k:TK prog w s.heap b):∃ o items n,s.heap.get? b=some o∧o.cls=.type "tuple" ∧ o.data=.seq items n∧∀ v∈items.toList,∃ i tk,v=.int i tk:=by
 obtain ⟨ks,o,items,n,h1,h2,h3,h4⟩:=k
 exact ⟨o,items,n,h1,h2,h3,ints_of h4⟩
theorem items_some {b:Addr} {o:Obj} {items:Array Value} {n:Nat} {Q:Option (Array Value)→Shared→Prop} (ho:s.heap.get? b=some o) (hd:o.data=.seq items n) (h:Q (some items) s):wpAny (model prog w) A (seqItems? (.ref b)) Q E s:=by
 unfold seqItems?
 refine wpAny_bind (wpAny_load ho ?_)
 rw [hd]
 exact wpAny_pure h
theorem no_class {b:Addr} {Q:Bool→Shared→Prop} (k:TK prog w s.heap b) (h:Q false s):wpAny (model prog w) A (ofAClassStatement 8 (.ref b)) Q E s:=by
 obtain ⟨o,items,n,ho,hc,hd,hi⟩:=k.at
 unfold ofAClassStatement
 refine wpAny_bind (wpAny_typeOf ⟨o,ho,hc⟩ ?_)
 refine wpAny_bind (wpAny_pure ?_)
 simp only [Bool.not_true,Bool.false_eq_true,if_false]
 refine wpAny_bind (items_some ho hd ?_)
 dsimp only
 refine wpAny_bind ?_
 rw [← Array.forIn_toList]
 refine wpAny_forIn_list _ (fun rest r s'=>r.1=none∧s'=s∧∀ v∈rest,∃ i tk,v=.int i tk) _ ?_ ?_ _ _ ⟨rfl,rfl,hi⟩
 ·rintro v rest r s' ⟨hr,rfl,hv⟩
  obtain ⟨i,tk,rfl⟩:=hv v List.mem_cons_self
  refine wpAny_bind (wpAny_pure ?_)
  exact wpAny_pure ⟨rfl,rfl,fun u hu=>hv u (List.mem_cons_of_mem _ hu)⟩
 ·rintro ⟨r1,r2⟩ s' ⟨hr,rfl,_⟩
  simp only at hr
  subst hr
  exact wpAny_pure h
theorem not_seen {x:Addr} {Q:Bool→Shared→Prop} (hx:TK prog w s.heap x) (ys:List Value) (hy:∀ y∈ys,∃ b,y=.ref b∧TK prog w s.heap b) (h:Q false s):wpAny (model prog w) A (searchCouldBeSeen (.ref x) ys) Q E s:=by
 unfold searchCouldBeSeen
 refine wpAny_bind ?_
 refine wpAny_forIn_list _ (fun rest r s'=>r.1=none∧s'=s∧∀ y∈rest,∃ b,y=.ref b∧TK prog w s.heap b) _ ?_ ?_ _ _ ⟨rfl,rfl,hy⟩
 ·rintro v rest r s' ⟨hr,rfl,hv⟩
  obtain ⟨b,rfl,hb⟩:=hv v List.mem_cons_self
  have tl:∀ y∈rest,∃ b,y=.ref b∧TK prog w s'.heap b:=fun u hu=>hv u (List.mem_cons_of_mem _ hu)
  dsimp only
  split
  ·exact wpAny_pure ⟨rfl,rfl,tl⟩
  ·obtain ⟨kx,kx'⟩:=id hx
   obtain ⟨kb,kb'⟩:=id hb
   refine wpAny_bind (wpAny_eqIsQuiet_tuple kx' ?_)
   simp only [Bool.not_true,Bool.false_eq_true,if_false]
   refine wpAny_bind (wpAny_eqIsQuiet_tuple kb' ?_)
   simp only [Bool.not_true,Bool.false_eq_true,if_false]
   refine wpAny_bind (no_class hx ?_)
   simp only [Bool.false_eq_true,if_false]
   refine wpAny_bind (no_class hb ?_)
   simp only [Bool.false_eq_true,if_false]
   exact wpAny_pure ⟨rfl,rfl,tl⟩
 ·rintro ⟨r1,r2⟩ s' ⟨hr,rfl,_⟩
  simp only at hr
  subst hr
  exact wpAny_pure h
theorem by_hash {x:Addr} {Q:Bool→Shared→Prop} (hx:TK prog w s.heap x) (h:∀ b,Q b s):wpAny (model prog w) A (hashByValue 8 (.ref x)) Q E s:=by
 obtain ⟨o,items,n,ho,hc,hd,hi⟩:=hx.at
 unfold hashByValue
 refine wpAny_bind (wpAny_specialOf ⟨o,ho,hc⟩ F.slot_tuple_hash.lookup ?_)
 dsimp only
 refine wpAny_bind (items_some ho hd ?_)
 refine wpAny_bind ?_
 show wpAny _ _ (forIn items _ _) _ _ s
 rw [← Array.forIn_toList]
 refine wpAny_forIn_list _ (fun rest r s'=>s'=s∧∀ v∈rest,∃ i tk,v=.int i tk) _ ?_ ?_ _ _ ⟨rfl,hi⟩
 ·rintro v rest r s' ⟨rfl,hv⟩
  obtain ⟨i,tk,rfl⟩:=hv v List.mem_cons_self
  refine wpAny_bind (wpAny_pure ?_)
  exact wpAny_pure ⟨rfl,fun u hu=>hv u (List.mem_cons_of_mem _ hu)⟩
 ·rintro ⟨r1,r2⟩ s' ⟨rfl,_⟩
  cases r1 with
  | none=>exact wpAny_pure (h _)
  | some b=>exact wpAny_pure (h _)
end
end Tab
namespace Tab
open PySem PySem.SetTable
section
variable {prog:Program} {w:World} {A:Around} {E:Value→Shared→Prop} {s:Shared}
def TKs (prog:Program) (w:World) (h:Heap) (es:Array (Int×Value)):Prop:=∀ e∈es.toList,∃ b,e.2=.ref b∧TK prog w h b
structure TOk (t:SetTable) (n:Nat):Prop where
 msk:Msk t.mask
 dum:t.dummies = #[]
 sz:t.place.size=n
 lo:n * 5 < t.mask * 3
theorem Msk.odd {m:Nat} (h:Msk m):(m % 2 == 0)=false:=by rcases h with rfl | rfl | rfl | rfl | rfl | rfl <;> rfl
theorem TOk.fits {t:SetTable} {n:Nat} (o:TOk t n):t.fits n=true:=by
 have:=o.lo
 unfold SetTable.fits SetTable.fill
 rw [o.sz,o.dum]
 simp only [beq_self_eq_true,Bool.true_and,decide_eq_true_eq]
 show n + 0≤_
 lia
def SetW (prog:Program) (w:World) (h:Heap) (a:Addr) (n:Nat):Prop :=
 ∃ o es ep t,h.get? a=some o∧o.ExactSet∧o.data=.set es ep t∧es.size=n∧TOk t n∧TKs prog w h es
theorem put_ok {t:SetTable} {n:Nat} (hm:Msk t.mask) (hd:t.dummies = #[]) (hz:t.place.size=n) (j:Nat):(t.put j).1.mask=t.mask∧(t.put j).1.dummies = #[]∧(t.put j).1.place.size=n + 1∧(t.put j).1.led=t.led:=by
 unfold SetTable.put
 refine ⟨rfl,?_,?_,rfl⟩
 ·dsimp only
  rw [hd]
  rfl
 ·show (SetTable.insertAt t.place _ j).size=_
  rw [← Array.length_toList,(SetTable.insertAt_perm _ _ _).length_eq,Array.length_toList,Array.size_push,hz]
theorem grow_ok {n m:Nat} (hm:Msk m) (lo:n * 5 < m * 3) (hi:¬ (n + 1) * 5 < m * 3) (hn:n + 1≤76):Msk (SetTable.sizeAbove (SetTable.grown (n + 1)) - 1)∧(n + 1) * 5 < (SetTable.sizeAbove (SetTable.grown (n + 1)) - 1) * 3∧SetTable.sizeAbove (SetTable.grown (n + 1))≤256:=by
 rcases hm with rfl | rfl | rfl | rfl | rfl | rfl
 ·have:n=4:=by lia
  subst this
  refine ⟨.inr (.inr (.inl rfl)),by decide,by decide⟩
 ·have:n=8:=by lia
  subst this
  refine ⟨.inr (.inr (.inr (.inl rfl))),by decide,by decide⟩
 ·have:n=18:=by lia
  subst this
  refine ⟨.inr (.inr (.inr (.inr (.inl rfl)))),by decide,by decide⟩
 ·have:n=37:=by lia
  subst this
  refine ⟨.inr (.inr (.inr (.inr (.inr rfl)))),by decide,by decide⟩
 ·lia
 ·lia
theorem stored {h:Heap} {a:Addr} {o:Obj} {es:Array (Int×Value)} {ep:Nat} {t:SetTable} (ho:h.get? a=some o) (hd:o.data=.set es ep t) (es':Array (Int×Value)) (t':SetTable) :
  (h.update a (Obj.putSet es' t')).get? a=some { o with data:=.set es' (ep + 1) t' }:=by
 have:=Heap.get?_update_self (Obj.putSet es' t') ho (by rw [putSet_of es' t' hd]; rfl)
 rw [putSet_of es' t' hd] at this
 exact this
end
end Tab
namespace Tab
open PySem PySem.SetTable
end Tab
namespace Tab
open PySem PySem.SetTable
section
variable {prog:Program} {w:World} {A:Around} {E:Value→Shared→Prop} {s:Shared}
theorem TK.iter {h:Heap} {b I l:Addr} {i:Nat} (x:TK prog w h b) (hi:h.IsListIter I l i):b≠I:=fun e=>by
 obtain ⟨q,ob,its,m,h1,h2,_⟩:=x
 obtain ⟨o,h3,h4,_⟩:=hi
 subst e
 rw [h1] at h3
 have:=Option.some.inj h3
 subst this
 rw [h2] at h4
 exact absurd h4 (by decide)
theorem TK.set {h:Heap} {b S:Addr} {n:Nat} (x:TK prog w h b) (hi:SetW prog w h S n):b≠S:=fun e=>by
 obtain ⟨q,ob,its,m,h1,h2,_⟩:=x
 obtain ⟨o,_,_,_,h3,h4,_⟩:=hi
 subst e
 rw [h1] at h3
 have:=Option.some.inj h3
 subst this
 have h5:=h4.1
 rw [h2] at h5
 exact absurd h5 (by decide)
abbrev fresh (led:Bool):Obj:={ cls:=.type "set", dict:=none,data:=.set #[] 0 (.fresh 0 0 led) }
end
end Tab
namespace L2
open PySem PySem.Spec PyProof.Rows PySem.W
theorem items_ints {prog:Program} {w:World} {ns:List Int}:∀ {us:List Value},Vals (ns.map V.int) us→ItemsAre (intKind prog w) ns us:=by
 induction ns with
 | nil=>intro us r; cases r; exact .nil
 | cons n ns ih =>
  intro us r
  cases r with
  | cons r1 r2 =>
   obtain ⟨t,rfl⟩:=r1
   exact .cons (intKind_is _ _ _ _) (ih r2)
end L2
namespace L3
open PySem L2
theorem allInts {K:PySem.W.Frag} {B:Hp}:∀ {ns:List Int} {vs:List V},Reps K B vs (ns.map D.int)→vs=ns.map V.int
 | [],_,r=>by cases r; rfl
 | n :: ns,_,r=>by
  cases r with
  | cons r1 r2=>rw [r1.intV,allInts r2]; rfl
end L3
namespace Tab
open PySem
section
variable {prog:Program} {w:World} {A:Around} {E:Value→Shared→Prop} {s:Shared}
abbrev pairO (v:Value) (c:Nat):Obj:={ cls:=.type "list", dict:=none,data:=.seq #[v,v] c,slots := #[] }
theorem max_end {I S:Addr} {v:Value} {c n:Nat} {fp wr:List Addr} {P:Nat→Value→Prop} {St:Nat→Heap→Prop} {R:Result→Shared→Prop} (W:Walks prog w A.in1 I fp wr n P St) (nS:S ∉ wr) (st:St n s.heap)
  (g:s.heap.get? S=some (pairO v c)) (hR:∀ h' tk,(∀ b o,b ∉ wr→b≠S→s.heap.get? b=some o→h'.get? b=some o)→R (.ok (.ret v)) { s with heap:=h',toks:=tk }) :
  codeAny (model prog w) A (.builtin "max.loop" ⟨[.ref I,.none,.ref S],[]⟩) R s:=by
 refine codeAny_builtin F.entry_max_loop ?_
 simp only [Around.under_plainId F.plain_max_loop]
 show wpAny _ A.in1 (seqItems? (.ref S) >>= _) _ _ _
 refine wpAny_bind (wpAny_seqItems g rfl (show wpAny _ A.in1 (tryCatch (pyNext (.ref I)) _ >>= _) _ _ _ from wpAny_bind (wpAny_tryCatch (W.done s _ _ st fun h' tk kp=>?_))))
 have g':=kp S _ nS g
 show wpAny _ A.in1 (updateSeq S (fun _ => #[]) >>= _) _ _ _
 refine wpAny_bind (wpAny_updateSeq g' rfl (wpAny_bind (wpAny_letGo (wpAny_pure ?_))))
 exact hR _ tk fun b o b1 b2 e=>(Heap.get?_update_other _ _ (Ne.symm b2)).trans (kp b o b1 e)
theorem min_end {I S:Addr} {v:Value} {c n:Nat} {fp wr:List Addr} {P:Nat→Value→Prop} {St:Nat→Heap→Prop} {R:Result→Shared→Prop} (W:Walks prog w A.in1 I fp wr n P St) (nS:S ∉ wr) (st:St n s.heap)
  (g:s.heap.get? S=some (pairO v c)) (hR:∀ h' tk,(∀ b o,b ∉ wr→b≠S→s.heap.get? b=some o→h'.get? b=some o)→R (.ok (.ret v)) { s with heap:=h',toks:=tk }) :
  codeAny (model prog w) A (.builtin "min.loop" ⟨[.ref I,.none,.ref S],[]⟩) R s:=by
 refine codeAny_builtin F.entry_min_loop ?_
 simp only [Around.under_plainId F.plain_min_loop]
 show wpAny _ A.in1 (seqItems? (.ref S) >>= _) _ _ _
 refine wpAny_bind (wpAny_seqItems g rfl (show wpAny _ A.in1 (tryCatch (pyNext (.ref I)) _ >>= _) _ _ _ from wpAny_bind (wpAny_tryCatch (W.done s _ _ st fun h' tk kp=>?_))))
 have g':=kp S _ nS g
 show wpAny _ A.in1 (updateSeq S (fun _ => #[]) >>= _) _ _ _
 refine wpAny_bind (wpAny_updateSeq g' rfl (wpAny_bind (wpAny_letGo (wpAny_pure ?_))))
 exact hR _ tk fun b o b1 b2 e=>(Heap.get?_update_other _ _ (Ne.symm b2)).trans (kp b o b1 e)
end
end Tab
namespace HT
open PySem PySem.Spec PyProof.Rows
open PySem.SeqAt
open PySem.AutoSeq1 (wpAny_loadPart')
open PySem.MeetsSeq PySem.MeetsSeq2 PySem.MeetsSeq3
end HT
namespace L2
open PySem PySem.Spec PyProof.Rows PySem.W
variable {X:Cx}
end L2
namespace L3
open PySem L2
def uTT (g:List Int→List Int→(D→Prop)→Prop) (ua ub:UE):UE:=fun ρ k=>ua ρ fun x=>ub ρ fun y=>∃ ns ms:List Int,x=.tup (ns.map D.int)∧y=.tup (ms.map D.int)∧g ns ms k
variable {X:Cx} {a b:Expr} {ua ub:UE} {p pos:Pos}
end L3
namespace HT
open PySem PySem.Spec PyProof.Rows
open PySem.SeqAt
open PySem.AutoSeq1 (wpAny_loadPart')
open PySem.MeetsSeq PySem.MeetsSeq2 PySem.MeetsSeq3
def lexQ (f:Int→Int→Bool) (e:Bool):List Int→List Int→Bool
 | a :: r,c :: q=>if a=c then lexQ f e r q else f a c
 | _,_=>e
theorem ints_len {vs:List Value} {ns:List Int} (h:IntsAre vs ns):vs.length=ns.length:=by
 induction h with
 | nil=>rfl
 | cons _ _ _ ih=>rw [List.length_cons,List.length_cons,ih]
theorem tuple_gt_is (l b:Addr) (items items2:Array Value) (n n2:Nat) (dd dd2:Option Addr) (sl sl2:Array (Option Value)) (ns ms:List Int) (hi:IntsAre items.toList ns) (hj:IntsAre items2.toList ms) (hl:ns.length=ms.length) :
  Meets (Builtin.«tuple.__gt__» ⟨[.ref l,.ref b],[]⟩)
   (fun _ R s=>s.heap.get? l=some ⟨.type "tuple", dd,.seq items n,sl⟩∧s.heap.get? b=some ⟨.type "tuple", dd2,.seq items2 n2,sl2⟩∧R (.ok (.ret (.bool (lexQ (fun a c=>decide (c < a)) false ns ms)))) s) :=
 .of_wp fun prog w A R s h=>by
  obtain ⟨hp,g,d,tk,os⟩:=s
  obtain ⟨hl1,hb,h⟩:=h
  have el1:=ints_len hi
  have el2:=ints_len hj
  have f2:=AutoSeq1.sub_tuple_tuple
  wp_walk using wpAny_loadPart' hl1,wpAny_loadPart' hb,wpAny_forIn_list _ (fun rest b s'=>b.1=none∧s'=⟨hp,g,d,tk,os⟩∧∃ (vs ws:List Value) (ns' ms':List Int),rest=vs.zip ws∧IntsAre vs ns'∧IntsAre ws ms'∧ns'.length=ms'.length∧lexQ (fun a c=>decide (c < a)) false ns ms=lexQ (fun a c=>decide (c < a)) false ns' ms') _
  case turn =>
   rintro ⟨y,x⟩ rest b s' ⟨hb',rfl,vs,ws,ns',ms',hz,hv,hw,hn,hq⟩
   cases hv with
   | nil=>rw [List.zip_nil_left] at hz; cases hz
   | cons a t hv =>
    cases hw with
    | nil=>rw [List.zip_nil_right] at hz; cases hz
    | cons c u hw =>
     rw [List.zip_cons_cons] at hz
     injection hz with h1 h2
     injection h1 with h3 h4
     subst h3 h4
     obtain ⟨e,he,hac⟩:=eqAt_int A.in1 ⟨hp,g,d,tk,os⟩ a t c u
     refine wpAny_bind (he prog w _ _ ?_)
     cases e with
     | true =>
      wp_walk
      exact ⟨rfl,rfl,_,_,_,_,h2,hv,hw,by simpa using hn,by rw [hq,lexQ,if_pos (hac.mp rfl)]⟩
     | false =>
      have hri:∀ (E:Value→Shared→Prop) (Q:Value→Shared→Prop),Q (.bool (decide (c < a))) ⟨hp,g,d,tk,os⟩→wpAny (model prog w) A.in1 (richCompare .Gt (.int a t) (.int c u)) Q E ⟨hp,g,d,tk,os⟩:=fun E Q q=>PyProof.Rows.gt_int q
      wp_walk using hri
      rw [lexQ,if_neg (fun z=>Bool.false_ne_true (hac.mpr z))] at hq
      exact ⟨_,rfl,by rw [← hq]; exact h⟩
  case fin =>
   rintro ⟨b1,b2⟩ s' ⟨hb',rfl,vs,ws,ns',ms',hz,hv,hw,hn,hq⟩
   simp only at hb'
   subst hb'
   have same:items.size=items2.size:=by rw [← Array.length_toList,← Array.length_toList,el1,el2]; exact hl
   have fin:lexQ (fun a c=>decide (c < a)) false ns ms=false:=by
    rw [hq]
    cases hv with
    | nil=>rfl
    | cons a t hv =>
     cases hw with
     | nil=>cases hn
     | cons c u hw=>cases hz
   have cs:Builtin.Tuple.tupleCompareSizes CmpOp.Gt items.size items2.size=.bool false:=by rw [same]; simp [Builtin.Tuple.tupleCompareSizes]
   wp_walk
   exact ⟨_,rfl,by rw [cs,← fin]; exact h⟩
  case h =>
   exact ⟨rfl,rfl,items.toList,items2.toList,ns,ms,rfl,hi,hj,hl,rfl⟩
theorem gt_tupIs {prog:Program} {w:World} {A:Around} {E:Value→Shared→Prop} {s:Shared} {l b:Addr} {items items2:Array Value} {ns ms:List Int} {Q:Value→Shared→Prop} (hl:IsTup s.heap l items) (hb:IsTup s.heap b items2) (hi:IntsAre items.toList ns) (hj:IntsAre items2.toList ms) (hln:ns.length=ms.length)
  (hu:A.units < cLine) (h:Q (.bool (lexQ (fun a c=>decide (c < a)) false ns ms)) s):wpAny (model prog w) A (richCompare .Gt (.ref l) (.ref b)) Q E s:=by
 obtain ⟨⟨c1,d1,t1,s1⟩,g1,k1,n,e1⟩:=id hl
 obtain ⟨⟨c2,d2,t2,s2⟩,g2,k2,n2,e2⟩:=id hb
 simp only at k1 e1 k2 e2
 subst k1 e1 k2 e2
 exact richCompare_meets_room (op:=.Gt) ⟨_,g1,rfl⟩ ⟨_,g2,rfl⟩ PySem.F.slot_tuple_gt PySem.F.entry_tuple_gt (PySem.F.args_tuple_gt_2 _ _) (tuple_gt_is l b items items2 n n2 d1 d2 s1 s2 ns ms hi hj hln)
  ⟨g1,g2,show Value.bool _≠Value.notImplemented∧Q (.bool _) s from ⟨(fun x=>nomatch x),h⟩⟩ hu
theorem tuple_le_is (l b:Addr) (items items2:Array Value) (n n2:Nat) (dd dd2:Option Addr) (sl sl2:Array (Option Value)) (ns ms:List Int) (hi:IntsAre items.toList ns) (hj:IntsAre items2.toList ms) (hl:ns.length=ms.length) :
  Meets (Builtin.«tuple.__le__» ⟨[.ref l,.ref b],[]⟩)
   (fun _ R s=>s.heap.get? l=some ⟨.type "tuple", dd,.seq items n,sl⟩∧s.heap.get? b=some ⟨.type "tuple", dd2,.seq items2 n2,sl2⟩∧R (.ok (.ret (.bool (lexQ (fun a c=>decide (a≤c)) true ns ms)))) s) :=
 .of_wp fun prog w A R s h=>by
  obtain ⟨hp,g,d,tk,os⟩:=s
  obtain ⟨hl1,hb,h⟩:=h
  have el1:=ints_len hi
  have el2:=ints_len hj
  have f2:=AutoSeq1.sub_tuple_tuple
  wp_walk using wpAny_loadPart' hl1,wpAny_loadPart' hb,wpAny_forIn_list _ (fun rest b s'=>b.1=none∧s'=⟨hp,g,d,tk,os⟩∧∃ (vs ws:List Value) (ns' ms':List Int),rest=vs.zip ws∧IntsAre vs ns'∧IntsAre ws ms'∧ns'.length=ms'.length∧lexQ (fun a c=>decide (a≤c)) true ns ms=lexQ (fun a c=>decide (a≤c)) true ns' ms') _
  case turn =>
   rintro ⟨y,x⟩ rest b s' ⟨hb',rfl,vs,ws,ns',ms',hz,hv,hw,hn,hq⟩
   cases hv with
   | nil=>rw [List.zip_nil_left] at hz; cases hz
   | cons a t hv =>
    cases hw with
    | nil=>rw [List.zip_nil_right] at hz; cases hz
    | cons c u hw =>
     rw [List.zip_cons_cons] at hz
     injection hz with h1 h2
     injection h1 with h3 h4
     subst h3 h4
     obtain ⟨e,he,hac⟩:=eqAt_int A.in1 ⟨hp,g,d,tk,os⟩ a t c u
     refine wpAny_bind (he prog w _ _ ?_)
     cases e with
     | true =>
      wp_walk
      exact ⟨rfl,rfl,_,_,_,_,h2,hv,hw,by simpa using hn,by rw [hq,lexQ,if_pos (hac.mp rfl)]⟩
     | false =>
      have hri:∀ (E:Value→Shared→Prop) (Q:Value→Shared→Prop),Q (.bool (decide (a≤c))) ⟨hp,g,d,tk,os⟩→wpAny (model prog w) A.in1 (richCompare .LtE (.int a t) (.int c u)) Q E ⟨hp,g,d,tk,os⟩:=fun E Q q=>PyProof.Rows.le_int q
      wp_walk using hri
      rw [lexQ,if_neg (fun z=>Bool.false_ne_true (hac.mpr z))] at hq
      exact ⟨_,rfl,by rw [← hq]; exact h⟩
  case fin =>
   rintro ⟨b1,b2⟩ s' ⟨hb',rfl,vs,ws,ns',ms',hz,hv,hw,hn,hq⟩
   simp only at hb'
   subst hb'
   have same:items.size=items2.size:=by rw [← Array.length_toList,← Array.length_toList,el1,el2]; exact hl
   have fin:lexQ (fun a c=>decide (a≤c)) true ns ms=true:=by
    rw [hq]
    cases hv with
    | nil=>rfl
    | cons a t hv =>
     cases hw with
     | nil=>cases hn
     | cons c u hw=>cases hz
   have cs:Builtin.Tuple.tupleCompareSizes CmpOp.LtE items.size items2.size=.bool true:=by rw [same]; simp [Builtin.Tuple.tupleCompareSizes]
   wp_walk
   exact ⟨_,rfl,by rw [cs,← fin]; exact h⟩
  case h =>
   exact ⟨rfl,rfl,items.toList,items2.toList,ns,ms,rfl,hi,hj,hl,rfl⟩
theorem le_tupIs {prog:Program} {w:World} {A:Around} {E:Value→Shared→Prop} {s:Shared} {l b:Addr} {items items2:Array Value} {ns ms:List Int} {Q:Value→Shared→Prop} (hl:IsTup s.heap l items) (hb:IsTup s.heap b items2) (hi:IntsAre items.toList ns) (hj:IntsAre items2.toList ms) (hln:ns.length=ms.length)
  (hu:A.units < cLine) (h:Q (.bool (lexQ (fun a c=>decide (a≤c)) true ns ms)) s):wpAny (model prog w) A (richCompare .LtE (.ref l) (.ref b)) Q E s:=by
 obtain ⟨⟨c1,d1,t1,s1⟩,g1,k1,n,e1⟩:=id hl
 obtain ⟨⟨c2,d2,t2,s2⟩,g2,k2,n2,e2⟩:=id hb
 simp only at k1 e1 k2 e2
 subst k1 e1 k2 e2
 exact richCompare_meets_room (op:=.LtE) ⟨_,g1,rfl⟩ ⟨_,g2,rfl⟩ PySem.F.slot_tuple_le PySem.F.entry_tuple_le (PySem.F.args_tuple_le_2 _ _) (tuple_le_is l b items items2 n n2 d1 d2 s1 s2 ns ms hi hj hln)
  ⟨g1,g2,show Value.bool _≠Value.notImplemented∧Q (.bool _) s from ⟨(fun x=>nomatch x),h⟩⟩ hu
theorem tuple_lt_is (l b:Addr) (items items2:Array Value) (n n2:Nat) (dd dd2:Option Addr) (sl sl2:Array (Option Value)) (ns ms:List Int) (hi:IntsAre items.toList ns) (hj:IntsAre items2.toList ms) (hl:ns.length=ms.length) :
  Meets (Builtin.«tuple.__lt__» ⟨[.ref l,.ref b],[]⟩)
   (fun _ R s=>s.heap.get? l=some ⟨.type "tuple", dd,.seq items n,sl⟩∧s.heap.get? b=some ⟨.type "tuple", dd2,.seq items2 n2,sl2⟩∧R (.ok (.ret (.bool (lexQ (fun a c=>decide (a < c)) false ns ms)))) s) :=
 .of_wp fun prog w A R s h=>by
  obtain ⟨hp,g,d,tk,os⟩:=s
  obtain ⟨hl1,hb,h⟩:=h
  have el1:=ints_len hi
  have el2:=ints_len hj
  have f2:=AutoSeq1.sub_tuple_tuple
  wp_walk using wpAny_loadPart' hl1,wpAny_loadPart' hb,wpAny_forIn_list _ (fun rest b s'=>b.1=none∧s'=⟨hp,g,d,tk,os⟩∧∃ (vs ws:List Value) (ns' ms':List Int),rest=vs.zip ws∧IntsAre vs ns'∧IntsAre ws ms'∧ns'.length=ms'.length∧lexQ (fun a c=>decide (a < c)) false ns ms=lexQ (fun a c=>decide (a < c)) false ns' ms') _
  case turn =>
   rintro ⟨y,x⟩ rest b s' ⟨hb',rfl,vs,ws,ns',ms',hz,hv,hw,hn,hq⟩
   cases hv with
   | nil=>rw [List.zip_nil_left] at hz; cases hz
   | cons a t hv =>
    cases hw with
    | nil=>rw [List.zip_nil_right] at hz; cases hz
    | cons c u hw =>
     rw [List.zip_cons_cons] at hz
     injection hz with h1 h2
     injection h1 with h3 h4
     subst h3 h4
     obtain ⟨e,he,hac⟩:=eqAt_int A.in1 ⟨hp,g,d,tk,os⟩ a t c u
     refine wpAny_bind (he prog w _ _ ?_)
     cases e with
     | true =>
      wp_walk
      exact ⟨rfl,rfl,_,_,_,_,h2,hv,hw,by simpa using hn,by rw [hq,lexQ,if_pos (hac.mp rfl)]⟩
     | false =>
      have hri:∀ (E:Value→Shared→Prop) (Q:Value→Shared→Prop),Q (.bool (decide (a < c))) ⟨hp,g,d,tk,os⟩→wpAny (model prog w) A.in1 (richCompare .Lt (.int a t) (.int c u)) Q E ⟨hp,g,d,tk,os⟩:=fun E Q q=>PyProof.Rows.lt_int q
      wp_walk using hri
      rw [lexQ,if_neg (fun z=>Bool.false_ne_true (hac.mpr z))] at hq
      exact ⟨_,rfl,by rw [← hq]; exact h⟩
  case fin =>
   rintro ⟨b1,b2⟩ s' ⟨hb',rfl,vs,ws,ns',ms',hz,hv,hw,hn,hq⟩
   simp only at hb'
   subst hb'
   have same:items.size=items2.size:=by rw [← Array.length_toList,← Array.length_toList,el1,el2]; exact hl
   have fin:lexQ (fun a c=>decide (a < c)) false ns ms=false:=by
    rw [hq]
    cases hv with
    | nil=>rfl
    | cons a t hv =>
     cases hw with
     | nil=>cases hn
     | cons c u hw=>cases hz
   have cs:Builtin.Tuple.tupleCompareSizes CmpOp.Lt items.size items2.size=.bool false:=by rw [same]; simp [Builtin.Tuple.tupleCompareSizes]
   wp_walk
   exact ⟨_,rfl,by rw [cs,← fin]; exact h⟩
  case h =>
   exact ⟨rfl,rfl,items.toList,items2.toList,ns,ms,rfl,hi,hj,hl,rfl⟩
theorem lt_tupIs {prog:Program} {w:World} {A:Around} {E:Value→Shared→Prop} {s:Shared} {l b:Addr} {items items2:Array Value} {ns ms:List Int} {Q:Value→Shared→Prop} (hl:IsTup s.heap l items) (hb:IsTup s.heap b items2) (hi:IntsAre items.toList ns) (hj:IntsAre items2.toList ms) (hln:ns.length=ms.length)
  (hu:A.units < cLine) (h:Q (.bool (lexQ (fun a c=>decide (a < c)) false ns ms)) s):wpAny (model prog w) A (richCompare .Lt (.ref l) (.ref b)) Q E s:=by
 obtain ⟨⟨c1,d1,t1,s1⟩,g1,k1,n,e1⟩:=id hl
 obtain ⟨⟨c2,d2,t2,s2⟩,g2,k2,n2,e2⟩:=id hb
 simp only at k1 e1 k2 e2
 subst k1 e1 k2 e2
 exact richCompare_meets_room (op:=.Lt) ⟨_,g1,rfl⟩ ⟨_,g2,rfl⟩ PySem.F.slot_tuple_lt PySem.F.entry_tuple_lt (PySem.F.args_tuple_lt_2 _ _) (tuple_lt_is l b items items2 n n2 d1 d2 s1 s2 ns ms hi hj hln)
  ⟨g1,g2,show Value.bool _≠Value.notImplemented∧Q (.bool _) s from ⟨(fun x=>nomatch x),h⟩⟩ hu
end HT
namespace Tab
open PySem
section
variable {prog:Program} {w:World} {A:Around} {E:Value→Shared→Prop} {s:Shared}
theorem max_turnX (t0:Bool) {I S:Addr} {u:Value} {c n i:Nat} {fp wr:List Addr} {P:Nat→Value→Prop} {St:Nat→Heap→Prop} {R:Result→Shared→Prop} (W:Walks prog w A.in1 I fp wr n P St) (nS:S ∉ fp) (hi:i < n) (hn:i + 1=n) (st:St i s.heap)
  (g:s.heap.get? S=some (pairO u c))
  (hcmp:∀ v h' tk (Q:Value→Shared→Prop) (E:Value→Shared→Prop),P i v→(∀ b o,b ∉ wr→s.heap.get? b=some o→h'.get? b=some o)→Q (.bool t0) { s with heap:=h',toks:=tk }→wpAny (model prog w) A.in1 (richCompare .Gt v u) Q E { s with heap:=h',toks:=tk })
  (hR:∀ v h' tk,(if t0=true then P i v else v=u)→(∀ b o,b ∉ wr→b≠S→s.heap.get? b=some o→h'.get? b=some o)→R (.ok (.ret v)) { s with heap:=h',toks:=tk }) :
  codeAny (model prog w) A (.builtin "max.loop" ⟨[.ref I,.none,.ref S],[]⟩) R s:=by
 have nm:(toString "max" ++ toString ".loop" : String) = "max.loop" := by decide
 have nW:S ∉ wr:=fun z=>nS (W.sub _ z)
 refine codeAny_builtin F.entry_max_loop ?_
 simp only [Around.under_plainId F.plain_max_loop]
 show wpAny _ A.in1 (seqItems? (.ref S) >>= _) _ _ _
 refine wpAny_bind (wpAny_seqItems g rfl (show wpAny _ A.in1 (tryCatch (pyNext (.ref I)) _ >>= _) _ _ _ from wpAny_bind (wpAny_tryCatch (W.item i s _ _ hi st fun v h' tk pv st' kp=>?_))))
 have g':=kp S _ nW g
 show wpAny _ A.in1 (tryCatch (holding [v,v] (richCompare .Gt v u >>= _)) _ >>= _) _ _ _
 refine wpAny_bind (wpAny_tryCatch (wpAny_holding (wpAny_bind (hcmp v h' tk _ _ pv kp ?_))))
 refine wpAny_bind (wpAny_holding (wpAny_truthy_bool (wpAny_bind (wpAny_letGo (wpAny_pure ?_)))))
 cases t0 with
 | true =>
  simp only [if_true]
  refine wpAny_bind (wpAny_updateSeq g' rfl (wpAny_bind (wpAny_letGo ?_)))
  rw [nm]
  refine wpAny_pure ⟨plainId_quiet F.plain_max_loop _,max_end W nW (by rw [← hn]; exact W.frame _ _ _ st' fun b hb o e=>(Heap.get?_update_other _ _ (fun z:S=b=>nS (by rw [z]; exact hb))).trans e) (Heap.get?_update_self _ g' rfl) fun h2 tk2 kp2=>?_⟩
  exact hR v h2 tk2 (by rw [if_pos rfl]; exact pv) fun b o b1 b2 e=>kp2 b o b1 b2 ((Heap.get?_update_other _ _ (Ne.symm b2)).trans (kp b o b1 e))
 | false =>
  simp only [Bool.false_eq_true,if_false]
  refine wpAny_bind (wpAny_letGo ?_)
  rw [nm]
  refine wpAny_pure ⟨plainId_quiet F.plain_max_loop _,max_end W nW (by rw [← hn]; exact st') g' fun h2 tk2 kp2=>?_⟩
  exact hR u h2 tk2 (by rw [if_neg Bool.false_ne_true]) fun b o b1 b2 e=>kp2 b o b1 b2 (kp b o b1 e)
theorem max_firstX (t0:Bool) {I S:Addr} {c:Nat} {fp wr:List Addr} {P:Nat→Value→Prop} {St:Nat→Heap→Prop} {R:Result→Shared→Prop} (W:Walks prog w A.in1 I fp wr 2 P St) (nS:S ∉ fp) (st:St 0 s.heap)
  (g:s.heap.get? S=some { cls:=.type "list", dict:=none,data:=.seq #[] c,slots := #[] })
  (hcmp:∀ u v h' tk (Q:Value→Shared→Prop) (E:Value→Shared→Prop),P 0 u→P 1 v→(∀ b o,b ∉ wr→b≠S→s.heap.get? b=some o→h'.get? b=some o)→Q (.bool t0) { s with heap:=h',toks:=tk }→wpAny (model prog w) A.in1 (richCompare .Gt v u) Q E { s with heap:=h',toks:=tk })
  (hR:∀ v h' tk,(if t0=true then P 1 v else P 0 v)→(∀ b o,b ∉ wr→b≠S→s.heap.get? b=some o→h'.get? b=some o)→R (.ok (.ret v)) { s with heap:=h',toks:=tk }) :
  codeAny (model prog w) A (.builtin "max.loop" ⟨[.ref I,.none,.ref S],[]⟩) R s:=by
 have nm:(toString "max" ++ toString ".loop" : String) = "max.loop" := by decide
 have nW:S ∉ wr:=fun z=>nS (W.sub _ z)
 refine codeAny_builtin F.entry_max_loop ?_
 simp only [Around.under_plainId F.plain_max_loop]
 show wpAny _ A.in1 (seqItems? (.ref S) >>= _) _ _ _
 refine wpAny_bind (wpAny_seqItems g rfl (show wpAny _ A.in1 (tryCatch (pyNext (.ref I)) _ >>= _) _ _ _ from wpAny_bind (wpAny_tryCatch (W.item 0 s _ _ (by decide) st fun u h' tk pu st' kp=>?_))))
 have g':=kp S _ nW g
 show wpAny _ A.in1 (updateSeq S (fun _ => #[u,u]) >>= _) _ _ _
 refine wpAny_bind (wpAny_updateSeq g' rfl ?_)
 rw [nm]
 refine wpAny_pure ⟨plainId_quiet F.plain_max_loop _,max_turnX t0 W nS (by decide) rfl (W.frame _ _ _ st' fun b hb o e=>(Heap.get?_update_other _ _ (fun z:S=b=>nS (by rw [z]; exact hb))).trans e) (Heap.get?_update_self _ g' rfl) (fun v h2 tk2 Q E pv kp2 hQ=>?_) fun v h2 tk2 pv kp2=>?_⟩
 ·exact hcmp u v h2 tk2 Q E pu pv (fun b o b1 b2 e=>kp2 b o b1 ((Heap.get?_update_other _ _ (Ne.symm b2)).trans (kp b o b1 e))) hQ
 ·refine hR v h2 tk2 ?_ fun b o b1 b2 e=>kp2 b o b1 b2 ((Heap.get?_update_other _ _ (Ne.symm b2)).trans (kp b o b1 e))
  cases t0 with
  | false =>
   rw [if_neg Bool.false_ne_true] at pv ⊢
   rw [pv]; exact pu
  | true =>
   rw [if_pos rfl] at pv ⊢
   exact pv
theorem max_pairX (t0:Bool) {a b:Value} {Q:Value→Shared→Prop} (hh:A.handled=none)
  (hcmp:∀ h' tk (Q:Value→Shared→Prop) (E:Value→Shared→Prop),(∀ c o,s.heap.get? c=some o→h'.get? c=some o)→Q (.bool t0) { s with heap:=h',toks:=tk }→wpAny (model prog w) A.in1 (richCompare .Gt b a) Q E { s with heap:=h',toks:=tk })
  (h:∀ v h' tk,v=(if t0=true then b else a)→(∀ c o,s.heap.get? c=some o→h'.get? c=some o)→Q v { s with heap:=h',toks:=tk }):wpAny (model prog w) A (call (.builtin "max") [a,b]) Q E s:=by
 have nm:(toString "max" ++ toString ".loop" : String) = "max.loop" := by decide
 have gT:(s.heap.push { cls:=.type "tuple", data:=.seq #[a,b] }).IsTuple s.heap.objs.size #[a,b]:=⟨_,Heap.get?_push_size _ rfl,rfl,0,rfl⟩
 have z1:(s.heap.push { cls:=.type "tuple", data:=.seq #[a,b] }).objs.size=s.heap.objs.size + 1:=Heap.size_push ..
 refine call_function_tree F.kind_max F.plain_max F.entry_max (F.args_max2 _ _) ?_
 show wpAny _ A.in1 (Builtin.Builtins.bindParams "max" ["key", "default"] 0 ⟨[],[]⟩ >>= _) _ _ _
 refine wpAny_bind (wpAny_of_eq (a:=[none,none]) rfl ?_)
 show wpAny _ A.in1 (newTuple [a,b] >>= _) _ _ _
 refine wpAny_bind (wpAny_newObj_type (wpAny_bind (wpAny_pyIter_tuple gT (wpAny_bind (wpAny_newObj_type ?_)))))
 rw [nm]
 have z2:((s.heap.push { cls:=.type "tuple", data:=.seq #[a,b] }).push { cls:=.type "tuple_iterator", data:=.fields #[.ref s.heap.objs.size,.int 0 0] }).objs.size=s.heap.objs.size + 1 + 1:=by rw [Heap.size_push,z1]
 have n1:s.heap.objs.size≠(s.heap.push { cls:=.type "tuple", data:=.seq #[a,b] }).objs.size:=by rw [z1]; exact Nat.ne_of_lt (Nat.lt_succ_self _)
 have W:=Walks.tuple (prog:=prog) (w:=w) (A:=A.in1) hh (s.heap.push { cls:=.type "tuple", data:=.seq #[a,b] }).objs.size s.heap.objs.size n1 #[a,b]
 have kp0:∀ c o,s.heap.get? c=some o→c≠s.heap.objs.size∧c≠(s.heap.push { cls:=.type "tuple", data:=.seq #[a,b] }).objs.size∧c≠((s.heap.push { cls:=.type "tuple", data:=.seq #[a,b] }).push { cls:=.type "tuple_iterator", data:=.fields #[.ref s.heap.objs.size,.int 0 0] }).objs.size:=fun c o e=>by
  have:=Heap.lt_size e
  rw [z1,z2]
  exact ⟨Nat.ne_of_lt this,Nat.ne_of_lt (Nat.lt_succ_of_lt this),Nat.ne_of_lt (Nat.lt_succ_of_lt (Nat.lt_succ_of_lt this))⟩
 refine wpAny_pure ⟨plainId_quiet F.plain_max_loop _,max_firstX t0 W (fun hm=>?_) ⟨⟨_,Heap.get?_push_of_some _ (Heap.get?_push_size _ rfl),rfl,rfl⟩,(gT.push _).push _⟩ (Heap.get?_push_size _ rfl) (fun u v h' tk Q' E' pu pv kp hQ=>?_) fun v h' tk pv kp=>?_⟩
 ·dsimp only at hm
  rw [z1,z2] at hm
  rcases List.mem_cons.mp hm with e | hm
  ·exact absurd e (Nat.ne_of_gt (Nat.lt_succ_self _))
  ·exact absurd (List.mem_singleton.mp hm) (Nat.ne_of_gt (Nat.lt_succ_of_lt (Nat.lt_succ_self _)))
 ·have eu:a=u:=by simpa using pu
  have ev:b=v:=by simpa using pv
  subst eu ev
  exact hcmp h' tk Q' E' (fun c o e=>kp c o (fun z=>(kp0 c o e).2.1 (List.mem_singleton.mp z)) (kp0 c o e).2.2 (Heap.get?_push_of_some _ (Heap.get?_push_of_some _ (Heap.get?_push_of_some _ e)))) hQ
 ·refine h v h' tk ?_ fun c o e=>kp c o (fun z=>(kp0 c o e).2.1 (List.mem_singleton.mp z)) (kp0 c o e).2.2 (Heap.get?_push_of_some _ (Heap.get?_push_of_some _ (Heap.get?_push_of_some _ e)))
  cases t0 with
  | false =>
   rw [if_neg Bool.false_ne_true] at pv ⊢
   simpa using pv.symm
  | true =>
   rw [if_pos rfl] at pv ⊢
   simpa using pv.symm
theorem min_turnX (t0:Bool) {I S:Addr} {u:Value} {c n i:Nat} {fp wr:List Addr} {P:Nat→Value→Prop} {St:Nat→Heap→Prop} {R:Result→Shared→Prop} (W:Walks prog w A.in1 I fp wr n P St) (nS:S ∉ fp) (hi:i < n) (hn:i + 1=n) (st:St i s.heap)
  (g:s.heap.get? S=some (pairO u c))
  (hcmp:∀ v h' tk (Q:Value→Shared→Prop) (E:Value→Shared→Prop),P i v→(∀ b o,b ∉ wr→s.heap.get? b=some o→h'.get? b=some o)→Q (.bool t0) { s with heap:=h',toks:=tk }→wpAny (model prog w) A.in1 (richCompare .Lt v u) Q E { s with heap:=h',toks:=tk })
  (hR:∀ v h' tk,(if t0=true then P i v else v=u)→(∀ b o,b ∉ wr→b≠S→s.heap.get? b=some o→h'.get? b=some o)→R (.ok (.ret v)) { s with heap:=h',toks:=tk }) :
  codeAny (model prog w) A (.builtin "min.loop" ⟨[.ref I,.none,.ref S],[]⟩) R s:=by
 have nm:(toString "min" ++ toString ".loop" : String) = "min.loop" := by decide
 have nW:S ∉ wr:=fun z=>nS (W.sub _ z)
 refine codeAny_builtin F.entry_min_loop ?_
 simp only [Around.under_plainId F.plain_min_loop]
 show wpAny _ A.in1 (seqItems? (.ref S) >>= _) _ _ _
 refine wpAny_bind (wpAny_seqItems g rfl (show wpAny _ A.in1 (tryCatch (pyNext (.ref I)) _ >>= _) _ _ _ from wpAny_bind (wpAny_tryCatch (W.item i s _ _ hi st fun v h' tk pv st' kp=>?_))))
 have g':=kp S _ nW g
 show wpAny _ A.in1 (tryCatch (holding [v,v] (richCompare .Lt v u >>= _)) _ >>= _) _ _ _
 refine wpAny_bind (wpAny_tryCatch (wpAny_holding (wpAny_bind (hcmp v h' tk _ _ pv kp ?_))))
 refine wpAny_bind (wpAny_holding (wpAny_truthy_bool (wpAny_bind (wpAny_letGo (wpAny_pure ?_)))))
 cases t0 with
 | true =>
  simp only [if_true]
  refine wpAny_bind (wpAny_updateSeq g' rfl (wpAny_bind (wpAny_letGo ?_)))
  rw [nm]
  refine wpAny_pure ⟨plainId_quiet F.plain_min_loop _,min_end W nW (by rw [← hn]; exact W.frame _ _ _ st' fun b hb o e=>(Heap.get?_update_other _ _ (fun z:S=b=>nS (by rw [z]; exact hb))).trans e) (Heap.get?_update_self _ g' rfl) fun h2 tk2 kp2=>?_⟩
  exact hR v h2 tk2 (by rw [if_pos rfl]; exact pv) fun b o b1 b2 e=>kp2 b o b1 b2 ((Heap.get?_update_other _ _ (Ne.symm b2)).trans (kp b o b1 e))
 | false =>
  simp only [Bool.false_eq_true,if_false]
  refine wpAny_bind (wpAny_letGo ?_)
  rw [nm]
  refine wpAny_pure ⟨plainId_quiet F.plain_min_loop _,min_end W nW (by rw [← hn]; exact st') g' fun h2 tk2 kp2=>?_⟩
  exact hR u h2 tk2 (by rw [if_neg Bool.false_ne_true]) fun b o b1 b2 e=>kp2 b o b1 b2 (kp b o b1 e)
theorem min_firstX (t0:Bool) {I S:Addr} {c:Nat} {fp wr:List Addr} {P:Nat→Value→Prop} {St:Nat→Heap→Prop} {R:Result→Shared→Prop} (W:Walks prog w A.in1 I fp wr 2 P St) (nS:S ∉ fp) (st:St 0 s.heap)
  (g:s.heap.get? S=some { cls:=.type "list", dict:=none,data:=.seq #[] c,slots := #[] })
  (hcmp:∀ u v h' tk (Q:Value→Shared→Prop) (E:Value→Shared→Prop),P 0 u→P 1 v→(∀ b o,b ∉ wr→b≠S→s.heap.get? b=some o→h'.get? b=some o)→Q (.bool t0) { s with heap:=h',toks:=tk }→wpAny (model prog w) A.in1 (richCompare .Lt v u) Q E { s with heap:=h',toks:=tk })
  (hR:∀ v h' tk,(if t0=true then P 1 v else P 0 v)→(∀ b o,b ∉ wr→b≠S→s.heap.get? b=some o→h'.get? b=some o)→R (.ok (.ret v)) { s with heap:=h',toks:=tk }) :
  codeAny (model prog w) A (.builtin "min.loop" ⟨[.ref I,.none,.ref S],[]⟩) R s:=by
 have nm:(toString "min" ++ toString ".loop" : String) = "min.loop" := by decide
 have nW:S ∉ wr:=fun z=>nS (W.sub _ z)
 refine codeAny_builtin F.entry_min_loop ?_
 simp only [Around.under_plainId F.plain_min_loop]
 show wpAny _ A.in1 (seqItems? (.ref S) >>= _) _ _ _
 refine wpAny_bind (wpAny_seqItems g rfl (show wpAny _ A.in1 (tryCatch (pyNext (.ref I)) _ >>= _) _ _ _ from wpAny_bind (wpAny_tryCatch (W.item 0 s _ _ (by decide) st fun u h' tk pu st' kp=>?_))))
 have g':=kp S _ nW g
 show wpAny _ A.in1 (updateSeq S (fun _ => #[u,u]) >>= _) _ _ _
 refine wpAny_bind (wpAny_updateSeq g' rfl ?_)
 rw [nm]
 refine wpAny_pure ⟨plainId_quiet F.plain_min_loop _,min_turnX t0 W nS (by decide) rfl (W.frame _ _ _ st' fun b hb o e=>(Heap.get?_update_other _ _ (fun z:S=b=>nS (by rw [z]; exact hb))).trans e) (Heap.get?_update_self _ g' rfl) (fun v h2 tk2 Q E pv kp2 hQ=>?_) fun v h2 tk2 pv kp2=>?_⟩
 ·exact hcmp u v h2 tk2 Q E pu pv (fun b o b1 b2 e=>kp2 b o b1 ((Heap.get?_update_other _ _ (Ne.symm b2)).trans (kp b o b1 e))) hQ
 ·refine hR v h2 tk2 ?_ fun b o b1 b2 e=>kp2 b o b1 b2 ((Heap.get?_update_other _ _ (Ne.symm b2)).trans (kp b o b1 e))
  cases t0 with
  | false =>
   rw [if_neg Bool.false_ne_true] at pv ⊢
   rw [pv]; exact pu
  | true =>
   rw [if_pos rfl] at pv ⊢
   exact pv
theorem min_pairX (t0:Bool) {a b:Value} {Q:Value→Shared→Prop} (hh:A.handled=none)
  (hcmp:∀ h' tk (Q:Value→Shared→Prop) (E:Value→Shared→Prop),(∀ c o,s.heap.get? c=some o→h'.get? c=some o)→Q (.bool t0) { s with heap:=h',toks:=tk }→wpAny (model prog w) A.in1 (richCompare .Lt b a) Q E { s with heap:=h',toks:=tk })
  (h:∀ v h' tk,v=(if t0=true then b else a)→(∀ c o,s.heap.get? c=some o→h'.get? c=some o)→Q v { s with heap:=h',toks:=tk }):wpAny (model prog w) A (call (.builtin "min") [a,b]) Q E s:=by
 have nm:(toString "min" ++ toString ".loop" : String) = "min.loop" := by decide
 have gT:(s.heap.push { cls:=.type "tuple", data:=.seq #[a,b] }).IsTuple s.heap.objs.size #[a,b]:=⟨_,Heap.get?_push_size _ rfl,rfl,0,rfl⟩
 have z1:(s.heap.push { cls:=.type "tuple", data:=.seq #[a,b] }).objs.size=s.heap.objs.size + 1:=Heap.size_push ..
 refine call_function_tree F.kind_min F.plain_min F.entry_min (F.args_min2 _ _) ?_
 show wpAny _ A.in1 (Builtin.Builtins.bindParams "min" ["key", "default"] 0 ⟨[],[]⟩ >>= _) _ _ _
 refine wpAny_bind (wpAny_of_eq (a:=[none,none]) rfl ?_)
 show wpAny _ A.in1 (newTuple [a,b] >>= _) _ _ _
 refine wpAny_bind (wpAny_newObj_type (wpAny_bind (wpAny_pyIter_tuple gT (wpAny_bind (wpAny_newObj_type ?_)))))
 rw [nm]
 have z2:((s.heap.push { cls:=.type "tuple", data:=.seq #[a,b] }).push { cls:=.type "tuple_iterator", data:=.fields #[.ref s.heap.objs.size,.int 0 0] }).objs.size=s.heap.objs.size + 1 + 1:=by rw [Heap.size_push,z1]
 have n1:s.heap.objs.size≠(s.heap.push { cls:=.type "tuple", data:=.seq #[a,b] }).objs.size:=by rw [z1]; exact Nat.ne_of_lt (Nat.lt_succ_self _)
 have W:=Walks.tuple (prog:=prog) (w:=w) (A:=A.in1) hh (s.heap.push { cls:=.type "tuple", data:=.seq #[a,b] }).objs.size s.heap.objs.size n1 #[a,b]
 have kp0:∀ c o,s.heap.get? c=some o→c≠s.heap.objs.size∧c≠(s.heap.push { cls:=.type "tuple", data:=.seq #[a,b] }).objs.size∧c≠((s.heap.push { cls:=.type "tuple", data:=.seq #[a,b] }).push { cls:=.type "tuple_iterator", data:=.fields #[.ref s.heap.objs.size,.int 0 0] }).objs.size:=fun c o e=>by
  have:=Heap.lt_size e
  rw [z1,z2]
  exact ⟨Nat.ne_of_lt this,Nat.ne_of_lt (Nat.lt_succ_of_lt this),Nat.ne_of_lt (Nat.lt_succ_of_lt (Nat.lt_succ_of_lt this))⟩
 refine wpAny_pure ⟨plainId_quiet F.plain_min_loop _,min_firstX t0 W (fun hm=>?_) ⟨⟨_,Heap.get?_push_of_some _ (Heap.get?_push_size _ rfl),rfl,rfl⟩,(gT.push _).push _⟩ (Heap.get?_push_size _ rfl) (fun u v h' tk Q' E' pu pv kp hQ=>?_) fun v h' tk pv kp=>?_⟩
 ·dsimp only at hm
  rw [z1,z2] at hm
  rcases List.mem_cons.mp hm with e | hm
  ·exact absurd e (Nat.ne_of_gt (Nat.lt_succ_self _))
  ·exact absurd (List.mem_singleton.mp hm) (Nat.ne_of_gt (Nat.lt_succ_of_lt (Nat.lt_succ_self _)))
 ·have eu:a=u:=by simpa using pu
  have ev:b=v:=by simpa using pv
  subst eu ev
  exact hcmp h' tk Q' E' (fun c o e=>kp c o (fun z=>(kp0 c o e).2.1 (List.mem_singleton.mp z)) (kp0 c o e).2.2 (Heap.get?_push_of_some _ (Heap.get?_push_of_some _ (Heap.get?_push_of_some _ e)))) hQ
 ·refine h v h' tk ?_ fun c o e=>kp c o (fun z=>(kp0 c o e).2.1 (List.mem_singleton.mp z)) (kp0 c o e).2.2 (Heap.get?_push_of_some _ (Heap.get?_push_of_some _ (Heap.get?_push_of_some _ e)))
  cases t0 with
  | false =>
   rw [if_neg Bool.false_ne_true] at pv ⊢
   simpa using pv.symm
  | true =>
   rw [if_pos rfl] at pv ⊢
   simpa using pv.symm
end
end Tab
namespace L2
open PySem PySem.Spec PyProof.Rows PySem.W
abbrev gtQ:=HT.lexQ (fun a c=>decide (c < a)) false
abbrev leQ:=HT.lexQ (fun a c=>decide (a≤c)) true
abbrev ltQ:=HT.lexQ (fun a c=>decide (a < c)) false
def rTX (K:PySem.W.Frag) (g:Addr→Addr→List Int→List Int→VK→Hp→Prop):V→V→Hp→VK→Prop:=fun x y H Q=>∃ (a b:Addr) (ns ms:List Int),x=.ref a∧y=.ref b∧SqT K H a (ns.map V.int)∧SqT K H b (ms.map V.int)∧ns.length=ms.length∧g a b ns ms Q H
variable {X:Cx}
theorem op_leTX (hu:X.A.units < cLine):OpR X (compareOp .LtE) (rTX X.K fun _ _ ns ms Q H=>Q (.bl (leQ ns ms)) H):=by
 intro pins s σ H x y v u Q I rx ry h
 obtain ⟨a,b,ns,ms,rfl,rfl,ha,hb,hl,q⟩:=h
 cases rx
 cases ry
 obtain ⟨i1,r1,p1,_⟩:=I.tuple ha
 obtain ⟨i2,r2,p2,_⟩:=I.tuple hb
 exact HT.le_tupIs p1 p2 (intsAre_of r1) (intsAre_of r2) hl hu ⟨.bl _,H,I,rfl,q⟩
def rBestX (K:PySem.W.Frag) (f:List Int→List Int→Bool):List V→Hp→VK→Prop:=fun xs H Q=>∃ x y,xs=[x,y]∧rTX K (fun a b ns ms Q H=>Q (.ref (if f ms ns=true then b else a)) H) x y H Q
theorem call_maxTX (hc:X.calm=true) (hu:X.A.units + 64 < cLine):CallR X (.builtin "max") (rBestX X.K gtQ):=by
 intro pins s σ H xs us Q I r h
 obtain ⟨x,y,rfl,a,b,ns,ms,rfl,rfl,ha,hb,hl,q⟩:=h
 obtain ⟨u,w',rfl,ru,rw'⟩:=vals2 r
 cases ru
 cases rw'
 obtain ⟨i1,r1,p1,_⟩:=I.tuple ha
 obtain ⟨i2,r2,p2,_⟩:=I.tuple hb
 refine Tab.max_pairX (gtQ ms ns) (I.ok.hd hc) (fun h' tk Q' E' kp hq=>?_) fun v h' tk hv kp=>?_
 ·obtain ⟨o1,g1,z1⟩:=p1
  obtain ⟨o2,g2,z2⟩:=p2
  exact HT.gt_tupIs ⟨o2,kp _ _ g2,z2⟩ ⟨o1,kp _ _ g1,z1⟩ (intsAre_of r2) (intsAre_of r1) hl.symm (by show X.A.units + 1 < _; lia) hq
 ·subst hv
  refine ⟨_,H,I.kept kp,?_,q⟩
  cases gtQ ms ns <;> rfl
theorem call_minTX (hc:X.calm=true) (hu:X.A.units + 64 < cLine):CallR X (.builtin "min") (rBestX X.K ltQ):=by
 intro pins s σ H xs us Q I r h
 obtain ⟨x,y,rfl,a,b,ns,ms,rfl,rfl,ha,hb,hl,q⟩:=h
 obtain ⟨u,w',rfl,ru,rw'⟩:=vals2 r
 cases ru
 cases rw'
 obtain ⟨i1,r1,p1,_⟩:=I.tuple ha
 obtain ⟨i2,r2,p2,_⟩:=I.tuple hb
 refine Tab.min_pairX (ltQ ms ns) (I.ok.hd hc) (fun h' tk Q' E' kp hq=>?_) fun v h' tk hv kp=>?_
 ·obtain ⟨o1,g1,z1⟩:=p1
  obtain ⟨o2,g2,z2⟩:=p2
  exact HT.lt_tupIs ⟨o2,kp _ _ g2,z2⟩ ⟨o1,kp _ _ g1,z1⟩ (intsAre_of r2) (intsAre_of r1) hl.symm (by show X.A.units + 1 < _; lia) hq
 ·subst hv
  refine ⟨_,H,I.kept kp,?_,q⟩
  cases ltQ ms ns <;> rfl
end L2
namespace L3
open PySem L2
abbrev uLeTX:=uTT fun ns ms k=>ns.length=ms.length∧k (.bl (leQ ns ms))
abbrev uBestX (f:List Int→List Int→Bool):=uTT fun ns ms k=>ns.length=ms.length∧k (.tup ((if f ms ns=true then ms else ns).map D.int))
variable {X:Cx} {a b:Expr} {ua ub:UE} {p pos:Pos}
theorem refLeTX {K:PySem.W.Frag} {ta tb:TE} (ha:RefE K ta ua) (hb:RefE K tb ub):RefE K (tOp (rTX K fun _ _ ns ms Q H=>Q (.bl (leQ ns ms)) H) ta tb) (uLeTX ua ub):=by
 refine ref2 ha hb fun x y k h R W B H σ ρ v u Q e rx ry q=>?_
 obtain ⟨ns,ms,rfl,rfl,hl,hk⟩:=h
 obtain ⟨p1,vs,rfl,h1,w1⟩:=rx.tupV
 obtain ⟨p2,ws,rfl,h2,w2⟩:=ry.tupV
 exact ⟨p1,p2,ns,ms,rfl,rfl,by rw [← allInts w1]; exact SqT.of (e.bh _ _ h1),by rw [← allInts w2]; exact SqT.of (e.bh _ _ h2),hl,q _ _ B H hk e (Grow.refl _ _) (.bl _)⟩
theorem e_leTX (hu:X.A.units + 64 < cLine) (ha:PE3 X a ua) (hb:PE3 X b ub) (hm:behindInMarks .LtE b=false):PE3 X (.Compare a [.LtE] [b] pos) (uLeTX ua ub):=by
 obtain ⟨_,h1,r1⟩:=ha; obtain ⟨_,h2,r2⟩:=hb
 exact ⟨_,pe_cmpR (op_leTX (by lia)) h1 h2 hm,refLeTX r1 r2⟩
theorem refBestX {K:PySem.W.Frag} {f:List Int→List Int→Bool} {ta tb:TE} (ha:RefE K ta ua) (hb:RefE K tb ub):RefE K (tCB (rBestX K f) (tCons ta (tCons tb tNil))) (uBestX f ua ub):=by
 intro ρ k h R W B H σ Q e q
 refine ha ρ _ h R W B H σ _ e fun x v B1 H1 h1 e1 g1 r1=>?_
 refine hb ρ _ h1 R W B1 H1 σ _ e1 fun y u B2 H2 h2 e2 g2 r2=>?_
 obtain ⟨ns,ms,rfl,rfl,hl,hk⟩:=h2
 have r1:=r1.mono g2.s
 obtain ⟨p1,vs,rfl,h1,w1⟩:=id r1.tupV
 obtain ⟨p2,ws,rfl,h2,w2⟩:=id r2.tupV
 refine ⟨_,_,rfl,p1,p2,ns,ms,rfl,rfl,by rw [← allInts w1]; exact SqT.of (e2.bh _ _ h1),by rw [← allInts w2]; exact SqT.of (e2.bh _ _ h2),hl,?_⟩
 cases c:f ms ns with
 | true =>
  rw [c,if_pos rfl] at hk
  rw [c,if_pos rfl]
  exact q _ _ B2 H2 hk e2 (g1.trans g2) r2
 | false =>
  rw [c,if_neg Bool.false_ne_true] at hk
  rw [c,if_neg Bool.false_ne_true]
  exact q _ _ B2 H2 hk e2 (g1.trans g2) r1
theorem e_maxTX (hc:X.calm=true) (hu:X.A.units + 64 < cLine) (ha:PE3 X a ua) (hb:PE3 X b ub) (hg:Gl X "max") (hm:X.mg "max" = none) (hs:starEach [a,b] X.env=(false,eval a X.env) :: starEach [b] X.env:=by rfl) (hs2:starEach [b] X.env=(false,eval b X.env) :: starEach [] X.env:=by rfl):PE3 X (.Call (.Name "max" p) [a,b] [] pos) (uBestX gtQ ua ub):=by
 obtain ⟨_,h1,r1⟩:=ha; obtain ⟨_,h2,r2⟩:=hb
 exact ⟨_,pe_callB (call_maxTX hc hu) hg hm (by decide +kernel) (pa_cons h1 (pa_cons h2 pa_nil hs2) hs) (by decide) (by decide) hs (by rw [hs2]; rfl),refBestX r1 r2⟩
theorem e_minTX (hc:X.calm=true) (hu:X.A.units + 64 < cLine) (ha:PE3 X a ua) (hb:PE3 X b ub) (hg:Gl X "min") (hm:X.mg "min" = none) (hs:starEach [a,b] X.env=(false,eval a X.env) :: starEach [b] X.env:=by rfl) (hs2:starEach [b] X.env=(false,eval b X.env) :: starEach [] X.env:=by rfl):PE3 X (.Call (.Name "min" p) [a,b] [] pos) (uBestX ltQ ua ub):=by
 obtain ⟨_,h1,r1⟩:=ha; obtain ⟨_,h2,r2⟩:=hb
 exact ⟨_,pe_callB (call_minTX hc hu) hg hm (by decide +kernel) (pa_cons h1 (pa_cons h2 pa_nil hs2) hs) (by decide) (by decide) hs (by rw [hs2]; rfl),refBestX r1 r2⟩
end L3
namespace L3
open PySem L2
section
variable {K:PySem.W.Frag} {X:Cx} {pos p:Pos} {tg:Expr}
theorem ItOk.rng2 {B:Hp} (i0:Int) (n:Nat):ItOk K B (Itr i0 n) ((List.range n).map fun i:Nat=>D.int (i0 + i)):=by
 intro H s i
 rw [List.length_map,List.length_range]
 refine ⟨fun hi=>hi,fun hi=>hi,fun x H' hi ⟨e1,e2⟩=>⟨e1,?_⟩⟩
 refine ⟨.int (i0 + i),?_,?_⟩
 ·rw [List.getElem?_map,List.getElem?_range hi]; rfl
 ·rw [e2]; exact .int _
def uiR2 (u u2:UE):UL:=fun ρ k=>u ρ fun d=>u2 ρ fun d2=>∃ i j,d=.int i∧d2=.int j∧(-(2 ^ 62)≤i∧i < 2 ^ 62 ∧ -(2 ^ 62)≤j∧j < 2 ^ 62)∧k ((List.range (j - i).toNat).map fun t:Nat=>D.int (i + t))
theorem i_rng2 {a b:Expr} {u u2:UE} (ha:PE3 X a u) (hb:PE3 X b u2) (hg:Gl X "range") (hm:X.mg "range" = none) (hs:starEach [a,b] X.env=[(false,eval a X.env),(false,eval b X.env)]:=by rfl) (hs2:starEach [b] X.env=[(false,eval b X.env)]:=by rfl):PI3 X tg (.Call (.Name "range" p) [a,b] [] pos) (uiR2 u u2):=by
 obtain ⟨_,h1,r1⟩:=ha
 obtain ⟨_,h2,r2⟩:=hb
 refine ⟨_,pi_range2 hg hm (pa_cons h1 (pa_cons h2 pa_nil (by rw [hs2]; rfl)) (by rw [hs,hs2])) hs hs2,fun ρ k h R W B H σ Q e q=>?_⟩
 refine r1 ρ _ h R W B H σ _ e fun d v B1 H1 z1 e1 g1 s1=>?_
 refine r2 ρ _ z1 R W B1 H1 σ _ e1 fun d2 v2 B2 H2 z2 e2 g2 s2=>?_
 obtain ⟨i,j,rfl,rfl,jj,z⟩:=z2
 exact ⟨i,j,by rw [s1.intV,s2.intV],jj,q _ _ B2 H2 z e2 (g1.trans g2) (ItOk.rng2 _ _)⟩
def uRvs (i:Nat):US:=fun U ρ=>∃ ds:List D,ρ[i]?=some (.own ds)∧U.nx (ρ.set i (.own ds.reverse))
theorem s_rvs (i:Nat) {x:Str} {px apos cpos:Pos} (hN:X.N[i]?=some x:=by rfl) (hv:Vis X.env.scope x:=by first | exact Or.inl rfl | exact Or.inr (Or.inl rfl) | exact Or.inr (Or.inr rfl)) (hd:(x == ("__debug__" : Str))=false:=by decide)
  (hcd:(x == ("__classdict__" : Str))=false:=by decide) (hb:attributeBase (.Name x px) "reverse" X.env (eval (.Name x px) X.env)=eval (.Name x px) X.env:=by rfl) (hl:(apos.endLine == cpos.line)=true:=by rfl)
  (hsw:swapsWith (.Call (.Attribute (.Name x px) "reverse" apos) [] [] cpos) none pos.line X.env=pure false:=by rfl):PS3 X (.Expr (.Call (.Attribute (.Name x px) "reverse" apos) [] [] cpos) pos) (uRvs i):=by
 refine ⟨_,ps_expr (pe_bm0 PySem.F.plainAttrs_list PySem.F.slot_list_reverse PySem.F.type_list_reverse mt_reverse (pe_var hN hv hd hcd) hb hl) hsw,fun U ρ h R W B H σ D e s=>?_⟩
 obtain ⟨ds,ho,h⟩:=h
 obtain ⟨a,vs,e1,e2,e3,e4,e5⟩:=e.ownAt ho
 refine ⟨_,e1,.inl ⟨rfl,vs,SqL.of e4⟩,a,vs,rfl,rfl,e4,?_⟩
 exact s.nx _ _ B _ h (e.write e1 ho e5.reverse) (Grow.refl _ _)
def uChainE (f g:Int→Int→Bool) (ua ub uc:UE):UE:=fun ρ k=>ua ρ fun x=>ub ρ fun y=>∃ i j,x=.int i∧y=.int j∧if f i j=true then uc ρ fun z=>∃ l,z=.int l∧k (.bl (g j l)) else k (.bl false)
theorem e_chain {a b c:Expr} {ua ub uc:UE} {op op':CmpOp} {f g:Int→Int→Bool} (ho:Cm op f X) (ho':Cm op' g X) (ha:PE3 X a ua) (hb:PE3 X b ub) (hc:PE3 X c uc) (hm:lastMarks [op,op'] [b,c]=false:=by with_unfolding_all rfl) :
  PE3 X (.Compare a [op,op'] [b,c] pos) (uChainE f g ua ub uc):=by
 obtain ⟨_,h1,r1⟩:=ha; obtain ⟨_,h2,r2⟩:=hb; obtain ⟨_,h3,r3⟩:=hc
 refine ⟨_,pe_chain ho ho' h1 h2 h3 hm,fun ρ k h R W B H σ Q e q=>?_⟩
 refine r1 ρ _ h R W B H σ _ e fun x v B1 H1 z1 e1 g1 s1=>?_
 refine r2 ρ _ z1 R W B1 H1 σ _ e1 fun y w' B2 H2 z2 e2 g2 s2=>?_
 obtain ⟨i,j,rfl,rfl,z⟩:=z2
 refine ⟨i,j,s1.intV,s2.intV,_,rfl,?_⟩
 by_cases hf:f i j=true
 ·rw [if_pos hf] at z ⊢
  refine r3 ρ _ z R W B2 H2 σ _ e2 fun y' w3 B3 H3 z3 e3 g3 s3=>?_
  obtain ⟨l,rfl,hk⟩:=z3
  exact ⟨j,l,s2.intV,s3.intV,q _ _ B3 H3 hk e3 ((g1.trans g2).trans g3) (.bl _)⟩
 ·rw [if_neg hf] at z ⊢
  exact q _ _ B2 H2 z e2 (g1.trans g2) (.bl _)
end
end L3
namespace L3
open PySem L2
end L3
namespace L3
open PySem L2
end L3
namespace L3
open PySem L2
end L3
namespace L3
open PySem L2
end L3
namespace L3
open PySem L2
end L3
namespace L3
open PySem L2
end L3
namespace Cut
open PySem L2 L3
@[reducible] def Sm (p:Int×Int):Prop := -200≤p.1∧p.1≤200 ∧ -200≤p.2∧p.2≤200
def Sm6 (p:Int×Int):Prop:=0≤p.1∧p.1≤11∧0≤p.2∧p.2≤11
theorem Sm6.sm {p:Int×Int} (h:Sm6 p):Sm p:=by
 obtain ⟨a,b,c,d⟩:=h
 exact ⟨by lia,by lia,by lia,by lia⟩
abbrev RS:=List (List F2)
abbrev dG (ps:List F2):D:=.lst (ps.map dR)
abbrev dH (ps:List P3):D:=.lst (ps.map dP)
theorem sum3:∀ {rs:RS},(∀ qs∈rs,qs.length=3)→(rs.map List.length).sum=3 * rs.length
 | [],_=>rfl
 | q :: rs,h=>by
  rw [List.map_cons,List.sum_cons,h q List.mem_cons_self,sum3 fun x hx=>h x (List.mem_cons_of_mem _ hx),List.length_cons]
  lia
theorem atI_some {α β:Type} {f:α→β} {L:List α} {i:Int} (h1 : -(L.length:Int)≤i) (h2:i < L.length):∃ x∈L,atI (L.map f) i=some (f x):=by
 have e:∃ j,L2.ixN (L.map f).length i=some j∧j < L.length:=by
  unfold L2.ixN
  rw [List.length_map]
  by_cases h0:0≤i
  ·rw [if_pos h0,if_pos h2]
   exact ⟨_,rfl,by lia⟩
  ·rw [if_neg h0,if_pos h1]
   exact ⟨_,rfl,by lia⟩
 obtain ⟨j,e,hj⟩:=e
 refine ⟨L[j],List.getElem_mem _,?_⟩
 unfold atI
 rw [e]
 simp [hj]
theorem cutL_pre {α:Type} {L:List α} {i:Int} (h:0≤i):cutL L none (some i)=L.take (min i.toNat L.length):=by
 unfold cutL
 show (L.drop 0).take ((if i < 0 then (i + (L.length:Int)).toNat else min i.toNat L.length) - 0)=_
 rw [if_neg (by lia),List.drop_zero,Nat.sub_zero]
theorem compG_any {α:Type} {f:α→D} {u:UE} {fs:List Sl} {Pp:α→Prop}:∀ {ds:List D} {v0:Sl} {k:List D→Prop},(∀ d∈ds,∀ k:D→Prop,(∀ p,Pp p→k (f p))→u (.val d :: fs) k)→(∀ ps:List α,ps.length=ds.length→(∀ p∈ps,Pp p)→k (ps.map f))→compG (ugName 0) utTrue u ds (v0 :: fs) k
 | [],_,_,_,hk=>hk [] rfl (fun _ h=>by simp at h)
 | d :: ds,v0,k,h,hk=>by
  show (if true=true then u (.val d :: fs) fun y=>compG (ugName 0) utTrue u ds (.val d :: fs) fun ys=>k (y :: ys) else compG (ugName 0) utTrue u ds (.val d :: fs) k)
  rw [if_pos rfl]
  refine h d List.mem_cons_self _ fun p hp=>compG_any (fun d' hd=>h d' (List.mem_cons_of_mem _ hd)) fun ps hl hps=>?_
  exact hk (p :: ps) (by simp [hl]) fun q hq=>by
   rcases List.mem_cons.mp hq with rfl | hq
   ·exact hp
   ·exact hps q hq
theorem compG_pick {α:Type} {f:α→D} {ut:UT} {u:UE} {fs:List Sl}:∀ {xs:List α} {v0:Sl} {k:List D→Prop},(∀ x∈xs,∀ k:Bool→Prop,(∀ b,k b)→ut (.val (f x) :: fs) k)→(∀ x∈xs,∀ k:D→Prop,k (f x)→u (.val (f x) :: fs) k) →
  (∀ ys:List α,ys.length≤xs.length→(∀ y∈ys,y∈xs)→k (ys.map f))→compG (ugName 0) ut u (xs.map f) (v0 :: fs) k
 | [],_,_,_,_,hk=>hk [] (Nat.le_refl _) (fun _ h=>by simp at h)
 | x :: xs,v0,k,h1,h2,hk=>by
  have t1:∀ y∈xs,∀ k:Bool→Prop,(∀ b,k b)→ut (.val (f y) :: fs) k:=fun y hy=>h1 y (List.mem_cons_of_mem _ hy)
  have t2:∀ y∈xs,∀ k:D→Prop,k (f y)→u (.val (f y) :: fs) k:=fun y hy=>h2 y (List.mem_cons_of_mem _ hy)
  refine h1 x List.mem_cons_self _ fun b=>?_
  cases b with
  | true =>
   rw [if_pos rfl]
   refine h2 x List.mem_cons_self _ (compG_pick t1 t2 fun ys hl hy=>?_)
   exact hk (x :: ys) (by simp [hl]) fun y hy'=>by
    rcases List.mem_cons.mp hy' with rfl | hy'
    ·exact List.mem_cons_self
    ·exact List.mem_cons_of_mem _ (hy y hy')
  | false =>
   rw [if_neg Bool.false_ne_true]
   exact compG_pick t1 t2 fun ys hl hy=>hk ys (Nat.le_succ_of_le hl) fun y hy'=>List.mem_cons_of_mem _ (hy y hy')
abbrev up (p:Int×Int):P3:=(p.1,p.2,1)
abbrev crI (e:P3×P3):Int:=e.1.1 * e.2.2.1 - e.2.1 * e.1.2.1
def tw (ps:List (Int×Int)):Int:=((eds (ps.map up)).map crI).sum
theorem back_up {ps:List (Int×Int)} {i:Nat} (h:i < ps.length):∃ p q,p∈ps∧q∈ps∧atI (ps.map dR) ((i:Int) - 1)=some (dR p)∧atI (ps.map dR) (i:Int)=some (dR q)∧(eds (ps.map up)).take (i + 1)=(eds (ps.map up)).take i ++ [(up p,up q)]:=by
 obtain ⟨p,mp,hp⟩:=atI_some (f:=id) (L:=ps) (i:=(i:Int) - 1) (by lia) (by lia)
 obtain ⟨q,mq,hq⟩:=atI_some (f:=id) (L:=ps) (i:=(i:Int)) (by lia) (by lia)
 rw [List.map_id] at hp hq
 have hu:i < (ps.map up).length:=by rw [List.length_map]; exact h
 have e1:nth (ps.map up) ((i + (ps.map up).length - 1) % (ps.map up).length)=up p:=dP_inj (Option.some.inj ((atI_back1 hu).symm.trans (atI_map (atI_map hp))))
 have e2:nth (ps.map up) i=up q:=dP_inj (Option.some.inj ((atI_nth hu).symm.trans (atI_map (atI_map hq))))
 refine ⟨p,q,mp,mq,atI_map hp,atI_map hq,?_⟩
 rw [eds_take hu,e1,e2]
end Cut
namespace Cut
open PySem L2 L3
open PySem.Builtin.Int (intBits)
theorem part_bitsW {N m n:Nat} {l:List F2} {T:F2} (h:∀ x∈l,intBits x.1≤2 * m + 1∧intBits x.2≤2 * m + 1) (hl:l.length≤n) (hm:n * (2 * m + 2) + 1≤N) (i:Nat) (hT:IsF T (fsum (l.take i))):intBits T.1≤N∧intBits T.2≤N:=by
 obtain ⟨b1,b2⟩:=fsum_bits (m:=2 * m + 1) (l:=l.take i) fun x hx=>h x (List.mem_of_mem_take hx)
 have q:(l.take i).length * (2 * m + 1 + 1) + 1≤N:=by
  refine Nat.le_trans (Nat.succ_le_succ (Nat.mul_le_mul_right _ ?_)) hm
  rw [List.length_take]
  lia
 obtain ⟨c1,c2⟩:=hT.bounds
 exact ⟨Nat.le_trans (bits_of_abs c1 b1) q,Nat.le_trans (bits_of_abs c2 b2) q⟩
theorem vq_add {x y:F2} (hx:0 < x.2) (hy:0 < y.2):vq (fadd x y)=vq x + vq y:=by
 have a:=pos_ne hx
 have b:=pos_ne hy
 unfold vq fadd
 simp only [Rat.intCast_add,Rat.intCast_mul]
 generalize (x.1:Rat)=x1 at *
 generalize (x.2:Rat)=x2 at *
 generalize (y.1:Rat)=y1 at *
 generalize (y.2:Rat)=y2 at *
 grind
theorem vq_sum:∀ {l:List F2},(∀ x∈l,0 < x.2)→0 < (fsum l).2∧vq (fsum l)=(l.map vq).sum
 | [],_=>⟨by decide,by show vq (0,1)=0; unfold vq; rw [show (((0:Int),(1:Int)).1:Rat)=0 from rfl]; grind⟩
 | x :: l,h=>by
  obtain ⟨a,b⟩:=vq_sum (l:=l) fun y hy=>h y (List.mem_cons_of_mem _ hy)
  have hx:=h x List.mem_cons_self
  refine ⟨Int.mul_pos hx a,?_⟩
  show vq (fadd x (fsum l))=_
  rw [vq_add hx a,b,List.map_cons,List.sum_cons]
theorem vq_sdf {p q:P3} (hp:0 < p.2.2) (hq:0 < q.2.2):vq (sdf p q)=crR p q:=by
 have a:=pos_ne hp
 have b:=pos_ne hq
 unfold vq sdf crR rX rY
 simp only [Rat.intCast_sub,Rat.intCast_mul]
 generalize (p.1:Rat)=x1 at *
 generalize (p.2.1:Rat)=x2 at *
 generalize (p.2.2:Rat)=x3 at *
 generalize (q.1:Rat)=y1 at *
 generalize (q.2.1:Rat)=y2 at *
 generalize (q.2.2:Rat)=y3 at *
 grind
theorem chn_prZ:∀ (z:P3) (ps:List P3),chn z ps=(prZ z ps).map fun e=>sdf e.1 e.2
 | _,[]=>rfl
 | z,p :: r=>by
  show sdf z p :: chn p r=sdf z p :: _
  rw [chn_prZ p r]
theorem lz_last:∀ (z:P3) (ps:List P3),lz z ps=lastP z ps
 | _,[]=>rfl
 | _,p :: r=>lz_last p r
theorem vq_cyc:∀ {ps:List P3},(∀ p∈ps,0 < p.2.2)→0 < (fsum (cyc ps)).2∧vq (fsum (cyc ps))=areaR ps
 | [],_=>⟨by decide,by show vq (0,1)=0; unfold vq; rw [show (((0:Int),(1:Int)).1:Rat)=0 from rfl]; grind⟩
 | x :: l,h=>by
  rw [← chn_last,chn_prZ,← lz_last]
  have e:prZ (lz x l) (x :: l)=eds (x :: l):=rfl
  rw [e]
  have hp:∀ e∈eds (x :: l),0 < e.1.2.2∧0 < e.2.2.2:=fun e he=>⟨h _ (eds_mem he).1,h _ (eds_mem he).2⟩
  obtain ⟨a,b⟩:=vq_sum (l:=(eds (x :: l)).map fun e=>sdf e.1 e.2) fun y hy=>by
   obtain ⟨e,he,rfl⟩:=List.mem_map.mp hy
   exact Int.mul_pos (hp e he).1 (hp e he).2
  refine ⟨a,?_⟩
  rw [b,List.map_map]
  show _=((eds (x :: l)).map fun e=>crR e.1 e.2).sum
  congr 1
  refine List.map_congr_left fun e he=>vq_sdf (hp e he).1 (hp e he).2
theorem vq_inj {r t:F2} (hr:Low r.1 r.2) (ht:Low t.1 t.2) (h:vq r=vq t):r=t:=by
 have a:=pos_ne hr.1
 have b:=pos_ne ht.1
 have e:(r.1:Rat) * t.2=t.1 * r.2:=by
  unfold vq at h
  generalize (r.1:Rat)=x at *
  generalize (r.2:Rat)=y at *
  generalize (t.1:Rat)=z at *
  generalize (t.2:Rat)=w at *
  grind
 rw [← Rat.intCast_mul,← Rat.intCast_mul] at e
 exact IsF.uniq (s:=t) ⟨hr,ht.1,Rat.intCast_inj.mp e⟩ ⟨ht,ht.1,rfl⟩
theorem IsF.vq {r s:F2} (h:IsF r s):vq r=vq s:=by
 have a:=pos_ne h.1.1
 have b:=pos_ne h.2.1
 have e:(r.1:Rat) * s.2=s.1 * r.2:=by rw [← Rat.intCast_mul,← Rat.intCast_mul,h.2.2]
 unfold Cut.vq
 generalize (r.1:Rat)=x at *
 generalize (r.2:Rat)=y at *
 generalize (s.1:Rat)=z at *
 generalize (s.2:Rat)=w at *
 grind
def hf (x:F2):F2:=(x.1,2 * x.2)
theorem vq_hf {x:F2} (hx:0 < x.2):vq (hf x)=vq x / 2:=by
 have a:=pos_ne hx
 unfold vq hf
 simp only [Rat.intCast_mul]
 rw [show ((2:Int):Rat)=2 from rfl]
 generalize (x.1:Rat)=x1 at *
 generalize (x.2:Rat)=x2 at *
 grind
theorem hf_half {T x:F2} (h:IsF T x):IsF (nrat (T.1 * 1) (T.2 * 2)) (hf x):=by
 have d:0 < T.2 * 2:=Int.mul_pos h.1.1 (by decide)
 have l:=IsF.low (c:=T.1 * 1) d
 refine ⟨l.1,Int.mul_pos (by decide) h.2.1,?_⟩
 have e1:=l.2.2
 have e2:=h.2.2
 have p:=h.1.1
 show _ * (2 * x.2)=x.1 * _
 simp only at e1
 generalize (nrat (T.1 * 1) (T.2 * 2)).1=u at *
 generalize (nrat (T.1 * 1) (T.2 * 2)).2=v at *
 have:T.2 * (u * (2 * x.2))=T.2 * (x.1 * v):=by grind
 exact Int.eq_of_mul_eq_mul_left (Int.ne_of_gt p) this
end Cut
namespace Cut
open PySem L2 L3
theorem prZ_map (h:P3→P3):∀ (z:P3) (ps:List P3),prZ (h z) (ps.map h)=(prZ z ps).map fun e=>(h e.1,h e.2)
 | _,[]=>rfl
 | z,p :: r=>by
  show (h z,h p) :: prZ (h p) (r.map h)=(h z,h p) :: _
  rw [prZ_map h p r]
theorem lz_map (h:P3→P3):∀ (z:P3) (ps:List P3),lz (h z) (ps.map h)=h (lz z ps)
 | _,[]=>rfl
 | _,p :: r=>lz_map h p r
theorem eds_map (h:P3→P3):∀ (ps:List P3),eds (ps.map h)=(eds ps).map fun e=>(h e.1,h e.2)
 | []=>rfl
 | p :: r=>by
  show prZ (lz (h p) (r.map h)) ((p :: r).map h)=(prZ (lz p r) (p :: r)).map _
  rw [lz_map,prZ_map]
theorem area_map {h:P3→P3} {ps:List P3} (S:P3×P3→Rat) (hs:∀ e∈eds ps,crR (h e.1) (h e.2)=S e):areaR (ps.map h)=((eds ps).map S).sum:=by
 unfold areaR sumT
 rw [eds_map,List.map_map]
 congr 1
 exact List.map_congr_left hs
theorem rX_nP {p:P3} (h:0 < p.2.2):rX (nP p)=rX p:=by
 obtain ⟨pt,e,_⟩:=npt_spec (a:=p.1) (b:=p.2.1) (Int.ne_of_gt h)
 have a:=pos_ne h
 have b:=pos_ne pt.1
 have e:((nP p).1:Rat) * p.2.2=p.1 * (nP p).2.2:=by rw [← Rat.intCast_mul,← Rat.intCast_mul]; exact congrArg _ e
 have b:((nP p).2.2:Rat)≠0:=b
 unfold rX
 generalize ((nP p).1:Rat)=x at *
 generalize ((nP p).2.2:Rat)=y at *
 generalize (p.1:Rat)=z at *
 generalize (p.2.2:Rat)=w at *
 grind
theorem rY_nP {p:P3} (h:0 < p.2.2):rY (nP p)=rY p:=by
 obtain ⟨pt,_,e,_⟩:=npt_spec (a:=p.1) (b:=p.2.1) (Int.ne_of_gt h)
 have a:=pos_ne h
 have b:=pos_ne pt.1
 have e:((nP p).2.1:Rat) * p.2.2=p.2.1 * (nP p).2.2:=by rw [← Rat.intCast_mul,← Rat.intCast_mul]; exact congrArg _ e
 have b:((nP p).2.2:Rat)≠0:=b
 unfold rY
 generalize ((nP p).2.1:Rat)=x at *
 generalize ((nP p).2.2:Rat)=y at *
 generalize (p.2.1:Rat)=z at *
 generalize (p.2.2:Rat)=w at *
 grind
theorem area_handed {n:Int} (hn:0 < n) (ps:List F2):areaR (ps.map fun p=>npt p.1 p.2 n)=(tw ps:Rat) / ((n:Rat) * n):=by
 have e:(ps.map fun p=>npt p.1 p.2 n)=(ps.map up).map fun q=>nP (q.1,q.2.1,n):=by rw [List.map_map]; rfl
 have n0:=pos_ne hn
 rw [e,area_map (fun e=>(crI e:Rat) / ((n:Rat) * n)) fun e he=>?_]
 ·unfold tw
  generalize eds (ps.map up)=es
  induction es with
  | nil=>show (0:Rat)=((0:Int):Rat) / _; rw [show ((0:Int):Rat)=0 from rfl]; grind
  | cons e es ih =>
   rw [List.map_cons,List.sum_cons,ih,List.map_cons,List.sum_cons,Rat.intCast_add]
   grind
 ·unfold crR
  rw [rX_nP (p:=(e.1.1,e.1.2.1,n)) hn,rY_nP (p:=(e.1.1,e.1.2.1,n)) hn,rX_nP (p:=(e.2.1,e.2.2.1,n)) hn,rY_nP (p:=(e.2.1,e.2.2.1,n)) hn]
  unfold rX rY
  simp only [crI,Rat.intCast_sub,Rat.intCast_mul]
  grind
theorem vq_rings:∀ {cs:List (List P3)},(∀ ps∈cs,∀ p∈ps,0 < p.2.2)→0 < (fsum (cs.flatMap cyc)).2∧vq (fsum (cs.flatMap cyc))=(cs.map areaR).sum
 | [],_=>⟨by decide,by show vq (0,1)=0; unfold vq; rw [show (((0:Int),(1:Int)).1:Rat)=0 from rfl]; grind⟩
 | ps :: cs,h=>by
  obtain ⟨a,b⟩:=vq_rings (cs:=cs) fun qs hq=>h qs (List.mem_cons_of_mem _ hq)
  obtain ⟨c,d⟩:=vq_cyc (h ps List.mem_cons_self)
  rw [List.flatMap_cons,fsum_append]
  exact ⟨Int.mul_pos c a,by rw [vq_add c a,b,d,List.map_cons,List.sum_cons]⟩
theorem sum_tw {n:Int} {f:List F2→List P3}:∀ {rs:RS},(∀ ps∈rs,areaR (f ps)=(tw ps:Rat) / ((n:Rat) * n))→((rs.map f).map areaR).sum=(((rs.map tw).sum:Int):Rat) / ((n:Rat) * n)
 | [],_=>by show (0:Rat)=((0:Int):Rat) / _; rw [show ((0:Int):Rat)=0 from rfl]; grind
 | ps :: rs,h=>by
  rw [List.map_cons,List.map_cons,List.sum_cons,h ps List.mem_cons_self,sum_tw fun qs hq=>h qs (List.mem_cons_of_mem _ hq),List.map_cons,List.sum_cons,Rat.intCast_add]
  grind
theorem due_is {n:Int} {f:List F2→List P3} {rs:RS} {T:F2} (hn:0 < n) (hp:∀ ps∈rs,∀ p∈f ps,0 < p.2.2) (ha:∀ ps∈rs,areaR (f ps)=(tw ps:Rat) / ((n:Rat) * n)) (h:IsF T (hf (fsum ((rs.map f).flatMap cyc)))) :
  T=nrat (rs.map tw).sum (2 * n * n):=by
 obtain ⟨a,b⟩:=vq_rings (cs:=rs.map f) fun qs hq=>by
  obtain ⟨ps,hm,rfl⟩:=List.mem_map.mp hq
  exact hp ps hm
 have d:0 < 2 * n * n:=Int.mul_pos (Int.mul_pos (by decide) hn) hn
 have l:=IsF.low (c:=(rs.map tw).sum) d
 refine vq_inj h.1 l.1 ?_
 rw [h.vq,vq_hf a,b,sum_tw ha,l.vq]
 have n0:=pos_ne hn
 unfold vq
 simp only [Rat.intCast_mul]
 rw [show ((2:Int):Rat)=2 from rfl]
 generalize (((rs.map tw).sum:Int):Rat)=x
 generalize (n:Rat)=y at *
 grind
end Cut
namespace Cut
open PySem L2 L3
open PySem.Builtin.Int (intBits)
abbrev RP:=List (List P3)
end Cut
namespace Cut
theorem le_sum {x:Nat}:∀ {l:List Nat},x∈l→x≤l.sum
 | y :: l,h=>by
  rw [List.sum_cons]
  rcases List.mem_cons.mp h with rfl | h
  ·lia
  ·have:=le_sum h
   lia
end Cut
namespace Cut
open PySem L2 L3
open PySem.Builtin.Int (intBits)
theorem has_rings (cs:RP):has (.L (.L (.T [.I,.I,.I]))) (.lst (cs.map dH))=true:=by
 show ((cs.map dH).all fun x=>has (.L (.T [.I,.I,.I])) x)=true
 rw [List.all_eq_true]
 intro x hx
 obtain ⟨ps,_,rfl⟩:=List.mem_map.mp hx
 exact has_pts ps
end Cut
namespace Cut
def cAb (a b c d:Int):Bool:=(decide (a≤0) != decide (c≤0)) && ((decide (a * d - b * c < 0) && decide (a < c)) || (decide (0 < a * d - b * c) && decide (c < a)))
def cRt (a b c d:Int):Bool:=(decide (0 < b) != decide (0 < d)) && (if 0 < d then decide (0 < a * d - b * c) else decide (a * d - b * c < 0))
def inQ (a b:Int):Bool:=decide (0 < a) && decide (0 < b)
theorem sgn4 (x y:Int):(0 < x→0 < y→0 < x * y)∧(0 < x→y≤0→x * y≤0)∧(x≤0→0 < y→x * y≤0)∧(x≤0→y≤0→0≤x * y) :=
 ⟨fun h g=>Int.mul_pos h g,fun h g=>Int.mul_nonpos_of_nonneg_of_nonpos (Int.le_of_lt h) g,fun h g=>Int.mul_nonpos_of_nonpos_of_nonneg h (Int.le_of_lt g),fun h g=>Int.mul_nonneg_of_nonpos_of_nonpos h g⟩
theorem par_side {a b c d:Int} (h:a * d - b * c=0→0 < a * c + b * d):(cAb a b c d ^^ cRt a b c d)=(inQ a b ^^ inQ c d):=by
 obtain ⟨s1,s2,s3,s4⟩:=sgn4 a d
 obtain ⟨t1,t2,t3,t4⟩:=sgn4 b c
 obtain ⟨u1,u2,u3,u4⟩:=sgn4 a c
 obtain ⟨w1,w2,w3,w4⟩:=sgn4 b d
 unfold cAb cRt inQ
 generalize a * d=ad at *
 generalize b * c=bc at *
 generalize a * c=ac at *
 generalize b * d=bd at *
 rcases Int.lt_or_le 0 a with ha | ha <;> rcases Int.lt_or_le 0 b with hb | hb <;> rcases Int.lt_or_le 0 c with hc | hc <;> rcases Int.lt_or_le 0 d with hd | hd <;> grind
end Cut
namespace Cut
def xorL:List Bool→Bool
 | []=>false
 | b :: l=>b ^^ xorL l
theorem xorL_app:∀ (a b:List Bool),xorL (a ++ b)=(xorL a ^^ xorL b)
 | [],b=>by show xorL b=(false ^^ xorL b); rw [Bool.false_xor]
 | x :: a,b=>by
  show (x ^^ xorL (a ++ b))=((x ^^ xorL a) ^^ xorL b)
  rw [xorL_app a b,Bool.xor_assoc]
theorem xorL_prZ (f:P3→Bool):∀ (z:P3) (ps:List P3),xorL ((prZ z ps).map fun e=>f e.1 ^^ f e.2)=(f z ^^ f (lz z ps))
 | z,[]=>by show false=(f z ^^ f z); rw [Bool.xor_self]
 | z,p :: r=>by
  show ((f z ^^ f p) ^^ xorL ((prZ p r).map fun e=>f e.1 ^^ f e.2))=(f z ^^ f (lz p r))
  rw [xorL_prZ f p r]
  cases f z <;> cases f p <;> cases f (lz p r) <;> rfl
theorem xorL_round (f:P3→Bool):∀ (ps:List P3),xorL ((eds ps).map fun e=>f e.1 ^^ f e.2)=false
 | []=>rfl
 | p :: r=>by
  show xorL ((prZ (lz p r) (p :: r)).map fun e=>f e.1 ^^ f e.2)=false
  rw [xorL_prZ]
  show (f (lz p r) ^^ f (lz p r))=false
  exact Bool.xor_self _
theorem xorL_two {α:Type} (f g:α→Bool):∀ (l:List α),xorL (l.map fun x=>f x ^^ g x)=(xorL (l.map f) ^^ xorL (l.map g))
 | []=>rfl
 | x :: l=>by
  show ((f x ^^ g x) ^^ xorL (l.map fun x=>f x ^^ g x))=((f x ^^ xorL (l.map f)) ^^ (g x ^^ xorL (l.map g)))
  rw [xorL_two f g l]
  cases f x <;> cases g x <;> cases xorL (l.map f) <;> cases xorL (l.map g) <;> rfl
abbrev eAb (p:F2) (e:P3×P3):Bool:=cAb (e.1.1 - p.1) (e.1.2.1 - p.2) (e.2.1 - p.1) (e.2.2.1 - p.2)
abbrev eRt (p:F2) (e:P3×P3):Bool:=cRt (e.1.1 - p.1) (e.1.2.1 - p.2) (e.2.1 - p.1) (e.2.2.1 - p.2)
def onS (p:F2) (e:P3×P3):Prop:=(e.1.1 - p.1) * (e.2.2.1 - p.2) - (e.1.2.1 - p.2) * (e.2.1 - p.1)=0∧(e.1.1 - p.1) * (e.2.1 - p.1) + (e.1.2.1 - p.2) * (e.2.2.1 - p.2)≤0
theorem par_ring {p:F2} {ps:List P3} (h:∀ e∈eds ps,¬ onS p e):xorL ((eds ps).map (eAb p))=xorL ((eds ps).map (eRt p)):=by
 have e1:(eds ps).map (fun e=>eAb p e ^^ eRt p e)=(eds ps).map fun e=>inQ (e.1.1 - p.1) (e.1.2.1 - p.2) ^^ inQ (e.2.1 - p.1) (e.2.2.1 - p.2) :=
  List.map_congr_left fun e he=>par_side fun z=>Int.not_le.mp fun w=>h e he ⟨z,w⟩
 have e2:=xorL_round (fun v=>inQ (v.1 - p.1) (v.2.1 - p.2)) ps
 rw [← e1,xorL_two] at e2
 cases q1:xorL ((eds ps).map (eAb p)) <;> cases q2:xorL ((eds ps).map (eRt p)) <;> rw [q1,q2] at e2 <;> first | rfl | cases e2
end Cut
namespace Cut
open PySem L2 L3
abbrev hP (n:Int) (p:F2):P3:=npt p.1 p.2 n
def crF (p q r:F2):Int:=(q.1 - p.1) * (r.2 - p.2) - (q.2 - p.2) * (r.1 - p.1)
theorem sg_mul {w x y n:Int} (hn:0 < n) (hw:0 < w) (e:n * x=w * y):sg x=sg y:=by
 rcases Int.lt_trichotomy x 0 with h | h | h
 ·have:y < 0:=Int.not_le.mp fun g=>by
   have a:=Int.mul_nonneg (Int.le_of_lt hw) g
   have b:=Int.mul_neg_of_pos_of_neg hn h
   lia
  unfold sg
  rw [if_neg (by lia),if_pos h,if_neg (by lia),if_pos this]
 ·subst h
  rw [Int.mul_zero] at e
  have:y=0:=by
   rcases Int.mul_eq_zero.mp e.symm with z | z
   ·lia
   ·exact z
  rw [this]
 ·have:0 < y:=Int.not_le.mp fun g=>by
   have a:=Int.mul_nonpos_of_nonneg_of_nonpos (Int.le_of_lt hw) g
   have b:=Int.mul_pos hn h
   lia
  unfold sg
  rw [if_pos h,if_pos this]
theorem sg_h {n:Int} (hn:0 < n) (p q r:F2):sg (det3 (hP n p) (hP n q) (hP n r))=sg (crF p q r):=by
 obtain ⟨a,a1,a2,_⟩:=npt_spec (a:=p.1) (b:=p.2) (Int.ne_of_gt hn)
 obtain ⟨b,b1,b2,_⟩:=npt_spec (a:=q.1) (b:=q.2) (Int.ne_of_gt hn)
 obtain ⟨c,c1,c2,_⟩:=npt_spec (a:=r.1) (b:=r.2) (Int.ne_of_gt hn)
 have w:0 < (hP n p).2.2 * (hP n q).2.2 * (hP n r).2.2:=Int.mul_pos (Int.mul_pos a.1 b.1) c.1
 refine sg_mul (Int.mul_pos hn hn) w ?_
 unfold det3 crs crF hP
 simp only
 generalize (npt p.1 p.2 n).1=x1 at *
 generalize (npt p.1 p.2 n).2.1=y1 at *
 generalize (npt p.1 p.2 n).2.2=w1 at *
 generalize (npt q.1 q.2 n).1=x2 at *
 generalize (npt q.1 q.2 n).2.1=y2 at *
 generalize (npt q.1 q.2 n).2.2=w2 at *
 generalize (npt r.1 r.2 n).1=x3 at *
 generalize (npt r.1 r.2 n).2.1=y3 at *
 generalize (npt r.1 r.2 n).2.2=w3 at *
 grind
theorem st_int {n x1 x3 w1 w3 a1 a3 U V:Int} (h1:x1 * n=a1 * w1) (h3:x3 * n=a3 * w3) (h:U * (w1 * w3)=(x1 * w3 + -x3 * w1) * V):w1 * w3 * (U * n)=w1 * w3 * ((a1 - a3) * V):=by grind
theorem step_h {n:Int} (hn:0 < n) (p r:F2):0 < (nP (sld (trn (hP n r)) (hP n p))).2.2∧(nP (sld (trn (hP n r)) (hP n p))).1 * n=(p.1 - r.1) * (nP (sld (trn (hP n r)) (hP n p))).2.2∧(nP (sld (trn (hP n r)) (hP n p))).2.1 * n=(p.2 - r.2) * (nP (sld (trn (hP n r)) (hP n p))).2.2:=by
 obtain ⟨a,a1,a2,_⟩:=npt_spec (a:=p.1) (b:=p.2) (Int.ne_of_gt hn)
 obtain ⟨c,c1,c2,_⟩:=npt_spec (a:=r.1) (b:=r.2) (Int.ne_of_gt hn)
 have w:0 < (sld (trn (hP n r)) (hP n p)).2.2:=Int.mul_pos a.1 c.1
 obtain ⟨s,s1,s2,_⟩:=npt_spec (a:=(sld (trn (hP n r)) (hP n p)).1) (b:=(sld (trn (hP n r)) (hP n p)).2.1) (Int.ne_of_gt w)
 refine ⟨s.1,?_,?_⟩
 ·exact Int.eq_of_mul_eq_mul_left (Int.ne_of_gt w) (st_int a1 c1 s1)
 ·exact Int.eq_of_mul_eq_mul_left (Int.ne_of_gt w) (st_int a2 c2 s2)
theorem dot_h {n:Int} (hn:0 < n) (p q r:F2):sg ((nP (sld (trn (hP n r)) (hP n p))).1 * (nP (sld (trn (hP n r)) (hP n q))).1 + (nP (sld (trn (hP n r)) (hP n p))).2.1 * (nP (sld (trn (hP n r)) (hP n q))).2.1)=sg ((p.1 - r.1) * (q.1 - r.1) + (p.2 - r.2) * (q.2 - r.2)):=by
 obtain ⟨a,a1,a2⟩:=step_h hn p r
 obtain ⟨b,b1,b2⟩:=step_h hn q r
 generalize nP (sld (trn (hP n r)) (hP n p))=u at *
 generalize nP (sld (trn (hP n r)) (hP n q))=v at *
 refine sg_mul (Int.mul_pos hn hn) (Int.mul_pos a b) ?_
 grind
theorem above_h {n:Int} (hn:0 < n) (p q:F2):((hP n q).2.1 * (hP n p).2.2 < (hP n p).2.1 * (hP n q).2.2)↔q.2 < p.2:=by
 obtain ⟨a,_,a2,_⟩:=npt_spec (a:=p.1) (b:=p.2) (Int.ne_of_gt hn)
 obtain ⟨c,_,c2,_⟩:=npt_spec (a:=q.1) (b:=q.2) (Int.ne_of_gt hn)
 have w:0 < (hP n p).2.2 * (hP n q).2.2:=Int.mul_pos a.1 c.1
 have e:sg ((hP n p).2.1 * (hP n q).2.2 - (hP n q).2.1 * (hP n p).2.2)=sg (p.2 - q.2):=by
  refine sg_mul hn w ?_
  unfold hP
  generalize npt p.1 p.2 n=u at *
  generalize npt q.1 q.2 n=v at *
  grind
 unfold sg at e
 constructor
 ·intro h
  rw [if_pos (by lia)] at e
  split at e
  ·lia
  ·split at e <;> lia
 ·intro h
  rw [if_pos (show 0 < p.2 - q.2 by lia)] at e
  split at e
  ·lia
  ·split at e <;> lia
end Cut
namespace Cut
open PySem L2 L3
open PySem.Builtin.Int (intBits)
@[reducible] def SmW (p:F2):Prop := -3000≤p.1∧p.1≤3000 ∧ -3000≤p.2∧p.2≤3000
theorem bits50 {x:Int} (h0 : -100000000000000≤x) (h1:x≤100000000000000):intBits x≤50:=by
 refine intBits_le_iff.mpr ?_
 have e:(2:Nat) ^ 50=1125899906842624:=rfl
 rw [e]
 lia
theorem gp_h {n:Int} (n0:0 < n) (n1:n≤100000000000000) {p:F2} (h:SmW p):GP 50 (hP n p):=by
 obtain ⟨a,b,c,d⟩:=h
 exact ⟨nP_pt (p:=(p.1,p.2,n)) (by show n≠0; lia),BP.nP (p:=(p.1,p.2,n)) ⟨bits50 (x:=p.1) (by lia) (by lia),bits50 (x:=p.2) (by lia) (by lia),bits50 (x:=n) (by lia) (by lia)⟩ (by show n≠0; lia)⟩
theorem gp_trn {m:Nat} {p:P3} (h:GP m p):GP m (trn p):=⟨pt_neg h.pt,⟨intBits_neg_le h.bp.a,intBits_neg_le h.bp.b,h.bp.c⟩⟩
def onB (p q r:F2):Bool:=decide (crF p q r=0) && decide ((p.1 - r.1) * (q.1 - r.1) + (p.2 - r.2) * (q.2 - r.2)≤0)
theorem sg_leI {x y:Int} (h:sg x=sg y):x≤0↔y≤0:=by
 unfold sg at h
 by_cases a:0 < x
 ·rw [if_pos a] at h
  by_cases b:0 < y
  ·lia
  ·rw [if_neg b] at h
   split at h <;> lia
 ·rw [if_neg a] at h
  by_cases b:0 < y
  ·rw [if_pos b] at h
   split at h <;> lia
  ·lia
def zpF (ps:List F2):List (F2×F2):=ps.zip (ps.drop 1 ++ ps.take 1)
def cR2 (p:F2) (e:F2×F2):Bool:=cRt (e.1.1 - p.1) (e.1.2 - p.2) (e.2.1 - p.1) (e.2.2 - p.2)
theorem forR_two {α:Type} {f g:α→D} {s:US} {U:UEnds} {i j:Nat} (I:List α→List Sl→Prop):∀ {rs done:List α} {ρ:List Sl},I done ρ →
  (∀ (pre:List α) (e:α) (rest:List α) ρ,done ++ rs=pre ++ e :: rest→I pre ρ→∀ N:List Sl→Prop,(∀ r',I (pre ++ [e]) r'→N r')→s { U with nx:=N,ct:=N,bk:=U.nx } ((ρ.set i (.val (f e))).set j (.val (g e))))→(∀ ρ,I (done ++ rs) ρ→U.nx ρ) →
  forR (ugTup 2 (ugCons (ugName i) (ugCons (ugName j) ugNil))) s U (rs.map fun e=>.tup [f e,g e]) ρ
 | [],done,ρ,h0,_,h2=>h2 ρ (by rw [List.append_nil]; exact h0)
 | e :: rs,done,ρ,h0,h1,h2=>by
  refine ⟨_,rfl,rfl,_,_,rfl,_,_,rfl,rfl,h1 done e rs ρ rfl h0 _ fun r' hr=>?_⟩
  have eq:done ++ e :: rs=(done ++ [e]) ++ rs:=by simp
  exact forR_two I hr (fun pre e' rest ρ h=>h1 pre e' rest ρ (by rw [eq]; exact h)) fun ρ h=>h2 ρ (by rw [eq]; exact h)
theorem zpF_mem {ps:List F2} {e:F2×F2} (h:e∈zpF ps):e.1∈ps∧e.2∈ps:=by
 obtain ⟨h1,h2⟩:=List.of_mem_zip (show (e.1,e.2)∈ps.zip (ps.drop 1 ++ ps.take 1) from h)
 refine ⟨h1,?_⟩
 rcases List.mem_append.mp h2 with h | h
 ·exact List.mem_of_mem_drop h
 ·exact List.mem_of_mem_take h
theorem cR2_eq (p:F2) (e:F2×F2):cR2 p e=((decide (p.2 < e.1.2) != decide (p.2 < e.2.2)) && (if p.2 < e.2.2 then decide (0 < crF e.1 e.2 p) else decide (crF e.1 e.2 p < 0))):=by
 unfold cR2 cRt crF
 have e1:(e.1.1 - p.1) * (e.2.2 - p.2) - (e.1.2 - p.2) * (e.2.1 - p.1)=(e.2.1 - e.1.1) * (p.2 - e.1.2) - (e.2.2 - e.1.2) * (p.1 - e.1.1):=by grind
 rw [e1]
 have e2:decide (0 < e.1.2 - p.2)=decide (p.2 < e.1.2):=decide_eq_decide.mpr ⟨fun h=>by lia,fun h=>by lia⟩
 have e3:decide (0 < e.2.2 - p.2)=decide (p.2 < e.2.2):=decide_eq_decide.mpr ⟨fun h=>by lia,fun h=>by lia⟩
 rw [e2,e3]
 by_cases c:p.2 < e.2.2
 ·rw [if_pos c,if_pos (show 0 < e.2.2 - p.2 by lia)]
 ·rw [if_neg c,if_neg (show ¬ 0 < e.2.2 - p.2 by lia)]
theorem xorL_snoc (l:List Bool) (b:Bool):xorL (l ++ [b])=(xorL l ^^ b):=by
 rw [xorL_app]
 show (xorL l ^^ (b ^^ false))=_
 rw [Bool.xor_false]
theorem above_d {n:Int} (hn:0 < n) (p q:F2):decide ((hP n q).2.1 * (hP n p).2.2 < (hP n p).2.1 * (hP n q).2.2)=decide (q.2 < p.2):=decide_eq_decide.mpr (above_h hn p q)
theorem sg_isP {x:Int}:sg x=1↔0 < x:=by
 unfold sg
 by_cases a:0 < x
 ·rw [if_pos a]; exact ⟨fun _=>a,fun _=>rfl⟩
 ·rw [if_neg a]
  split
  ·exact ⟨fun h=>by lia,fun h=>absurd h a⟩
  ·exact ⟨fun h=>by lia,fun h=>absurd h a⟩
theorem sg_isN {x:Int}:sg x = -1↔x < 0:=by
 unfold sg
 by_cases a:0 < x
 ·rw [if_pos a]; exact ⟨fun h=>by lia,fun h=>by lia⟩
 ·rw [if_neg a]
  by_cases b:x < 0
  ·rw [if_pos b]; exact ⟨fun _=>b,fun _=>rfl⟩
  ·rw [if_neg b]; exact ⟨fun h=>by lia,fun h=>absurd h b⟩
theorem odd_flt {α:Type} {P:α→Bool}:∀ (l:List α),decide ((((l.filter P).length:Nat):Int) % 2=1)=xorL (l.map P)
 | []=>rfl
 | x :: l=>by
  have ih:=odd_flt (P:=P) l
  show _=(P x ^^ xorL (l.map P))
  rw [← ih]
  cases c:P x with
  | true =>
   rw [List.filter_cons_of_pos c,List.length_cons,Bool.true_xor]
   by_cases h:(((l.filter P).length:Nat):Int) % 2=1
   ·rw [decide_eq_true h,decide_eq_false (by lia)]; rfl
   ·rw [decide_eq_false h,decide_eq_true (by lia)]; rfl
  | false=>rw [List.filter_cons_of_neg (by rw [c]; exact Bool.false_ne_true),Bool.false_xor]
theorem eAb_eq (p q r:F2):eAb p (up q,up r)=((decide (q.1≤p.1) != decide (r.1≤p.1)) && ((decide (crF q r p < 0) && decide (q.1 < r.1)) || (decide (0 < crF q r p) && decide (r.1 < q.1)))):=by
 unfold eAb cAb crF
 show ((decide (q.1 - p.1≤0) != decide (r.1 - p.1≤0)) && ((decide ((q.1 - p.1) * (r.2 - p.2) - (q.2 - p.2) * (r.1 - p.1) < 0) && decide (q.1 - p.1 < r.1 - p.1)) || (decide (0 < (q.1 - p.1) * (r.2 - p.2) - (q.2 - p.2) * (r.1 - p.1)) && decide (r.1 - p.1 < q.1 - p.1))))=_
 have e1:(q.1 - p.1) * (r.2 - p.2) - (q.2 - p.2) * (r.1 - p.1)=(r.1 - q.1) * (p.2 - q.2) - (r.2 - q.2) * (p.1 - q.1):=by grind
 rw [e1]
 have d1:decide (q.1 - p.1≤0)=decide (q.1≤p.1):=decide_eq_decide.mpr ⟨fun h=>by lia,fun h=>by lia⟩
 have d2:decide (r.1 - p.1≤0)=decide (r.1≤p.1):=decide_eq_decide.mpr ⟨fun h=>by lia,fun h=>by lia⟩
 have d3:decide (q.1 - p.1 < r.1 - p.1)=decide (q.1 < r.1):=decide_eq_decide.mpr ⟨fun h=>by lia,fun h=>by lia⟩
 have d4:decide (r.1 - p.1 < q.1 - p.1)=decide (r.1 < q.1):=decide_eq_decide.mpr ⟨fun h=>by lia,fun h=>by lia⟩
 rw [d1,d2,d3,d4]
end Cut
namespace Cut
open PySem
abbrev up2 (e:F2×F2):P3×P3:=(up e.1,up e.2)
theorem zip_up:∀ (x y:F2) (l:List F2),((x :: l).zip (l ++ [y])).map up2=prZ (up x) (l.map up) ++ [(lz (up x) (l.map up),up y)]
 | x,y,[]=>rfl
 | x,y,a :: l=>by
  show (up x,up a) :: ((a :: l).zip (l ++ [y])).map up2=(up x,up a) :: (prZ (up a) (l.map up) ++ [(lz (up a) (l.map up),up y)])
  rw [zip_up a y l]
theorem zpF_eds:∀ (ps:List F2),∃ a b,(zpF ps).map up2=a ++ b∧eds (ps.map up)=b ++ a
 | []=>⟨[],[],rfl,rfl⟩
 | x :: l=>⟨prZ (up x) (l.map up),[(lz (up x) (l.map up),up x)],zip_up x x l,rfl⟩
theorem xor_zpF (p:F2) (ps:List F2):xorL ((zpF ps).map (cR2 p))=xorL ((eds (ps.map up)).map (eRt p)):=by
 obtain ⟨a,b,h1,h2⟩:=zpF_eds ps
 have e:(zpF ps).map (cR2 p)=((zpF ps).map up2).map (eRt p):=by rw [List.map_map]; rfl
 rw [e,h1,h2,List.map_append,List.map_append,xorL_app,xorL_app,Bool.xor_comm]
theorem onB_up (p:F2) (e:F2×F2):onB e.1 e.2 p=true↔onS p (up2 e):=by
 unfold onB onS crF
 rw [Bool.and_eq_true,decide_eq_true_eq,decide_eq_true_eq]
 have e1:(e.2.1 - e.1.1) * (p.2 - e.1.2) - (e.2.2 - e.1.2) * (p.1 - e.1.1)=(e.1.1 - p.1) * (e.2.2 - p.2) - (e.1.2 - p.2) * (e.2.1 - p.1):=by grind
 rw [e1]
theorem any_zpF (p:F2) (ps:List F2):((zpF ps).any fun e=>onB e.1 e.2 p)=true↔∃ e∈eds (ps.map up),onS p e:=by
 obtain ⟨a,b,h1,h2⟩:=zpF_eds ps
 have mem:∀ e,e∈eds (ps.map up)↔e∈(zpF ps).map up2:=fun e=>by rw [h1,h2,List.mem_append,List.mem_append,or_comm]
 rw [List.any_eq_true]
 constructor
 ·rintro ⟨e,he,h⟩
  exact ⟨up2 e,(mem _).mpr (List.mem_map.mpr ⟨e,he,rfl⟩),(onB_up p e).mp h⟩
 ·rintro ⟨e,he,h⟩
  obtain ⟨e',he',rfl⟩:=List.mem_map.mp ((mem _).mp he)
  exact ⟨e',he',(onB_up p e').mpr h⟩
end Cut
namespace Cut
open PySem L2 L3
open PySem.Builtin.Int (intBits)
theorem Sm.wd {p:F2} (h:Sm p):SmW p:=by
 obtain ⟨a,b,c,d⟩:=h
 exact ⟨by lia,by lia,by lia,by lia⟩
end Cut
namespace Cut
open PySem L2 L3
end Cut
namespace Cut
open PySem L2 L3
end Cut
namespace Cut
open PySem L2 L3
end Cut
namespace Cut
open PySem L2 L3
open PySem.Builtin.Int (intBits)
end Cut
namespace Cut
open PySem L2 L3
open PySem.Builtin.Int (intBits)
end Cut
namespace Cut
open PySem L2 L3
open PySem.Builtin.Int (intBits)
end Cut
namespace Cut
open PySem L2 L3
open PySem.Builtin.Int (intBits)
end Cut
namespace Cut
open PySem L2 L3
open PySem.Builtin.Int (intBits)
end Cut
namespace Cut
open PySem L2 L3
open PySem.Builtin.Int (intBits)
end Cut
namespace Cut
open PySem L2 L3
section
variable {f:P3→Int} {mt:P3→P3→P3} {a b c d:P3}
end
end Cut
namespace Cut
open PySem L2 L3
end Cut
namespace L2
open PySem PySem.Spec PyProof.Rows PySem.W
variable {X:Cx}
end L2
namespace L3
open PySem L2
variable {X:Cx} {e:Expr} {u:UE} {p pos:Pos}
end L3
namespace L2
open PySem PySem.Spec PyProof.Rows PySem.W
variable {X:Cx}
end L2
namespace L3
open PySem L2
variable {X:Cx} {e:Expr} {u:UE} {F:FS} {pos:Pos}
end L3
namespace Cut
open PySem L2 L3
open PySem.Builtin.Int (intBits)
end Cut
namespace Cut
end Cut
namespace Cut
end Cut
namespace Cut
open PySem L2 L3
end Cut
namespace Cut
open PySem L2 L3
end Cut
namespace Cut
open PySem L2 L3
open PySem.Builtin.Int (intBits)
end Cut
namespace Cut
open PySem L2 L3
open PySem.Builtin.Int (intBits)
end Cut
namespace L3
open PySem L2
end L3
namespace Cut
open PySem L2 L3
open PySem.Builtin.Int (intBits)
end Cut
namespace L2
open PySem PySem.W PyProof.Rows
end L2
namespace L2
open PySem PySem.Spec PyProof.Rows PySem.W
end L2
namespace L2
open PySem PySem.Spec PyProof.Rows PySem.W
end L2
namespace L3
open PySem PySem.Spec PyProof.Rows L2
end L3
namespace L2
open PySem PySem.Spec PyProof.Rows PySem.W
end L2
namespace L2
open PySem PySem.Spec PyProof.Rows PySem.W
open PySem.SeqAt
open PySem.AutoSeq1 (wpAny_loadPart')
open PySem.MeetsSeq PySem.MeetsSeq2 PySem.MeetsSeq3
end L2
namespace L3
open PySem PySem.Spec PyProof.Rows PySem.W L2
end L3
namespace L3
open PySem L2
end L3
namespace L2
open PySem PySem.Spec PyProof.Rows PySem.W L3
end L2
namespace L3
open PySem L2
end L3
namespace L2
open PySem PySem.Spec PyProof.Rows
end L2
namespace L3
open PySem L2
end L3
namespace L3
open PySem L2
end L3
namespace L3
open PySem L2
def uForU (n j1 j2:Nat) (uc:UT) (s:US):US:=fun U ρ=>∃ ls:List (D×Bool),ρ[n]?=some (.own (.l (ls.map Prod.fst))) ∧
 (∀ d∈ls,∃ d1 d2,d.1=.tup [d1,d2]∧uc (((ρ.set j1 (.val d1)).set j2 (.val d2)).map fz1) (fun b=>b=d.2)∧(d.2=true→s { nx:=fun _=>False,rt:=U.rt } ((ρ.set j1 (.val d1)).set j2 (.val d2)))) ∧
 (ls.any Prod.snd=false→∀ s1 s2,U.nx ((ρ.set j1 s1).set j2 s2))
theorem set_at {ρ:List Sl} (j:Nat):ρ.set j ((ρ[j]?).getD .no)=ρ:=by
 apply List.ext_getElem?
 intro t
 rw [List.getElem?_set]
 split
 ·rename_i q; subst q
  split
  ·rename_i lt; rw [List.getElem?_eq_getElem lt]; rfl
  ·rename_i lt; rw [List.getElem?_eq_none (by lia)]
 ·rfl
theorem set_two {ρ:List Sl} {j1 j2:Nat} (h:j1≠j2) (a b c d:Sl):(((ρ.set j1 a).set j2 b).set j1 c).set j2 d=(ρ.set j1 c).set j2 d:=by
 rw [List.set_comm _ _ (Ne.symm h),List.set_set,List.set_set]
section
variable {X:Cx}
theorem s_forU {n j1 j2:Nat} {x:Str} {px pos pos':Pos} {tg c:Expr} {uc:UT} {bd:List Stmt} {s:US} (h1:n≠j1) (h2:n≠j2) (h3:j1≠j2) (hp:PassesOwn (model X.prog X.w) X.A X.env X.xe) (hc:X.calm=true)
  (hg:PG3 X tg (ugTup 2 (ugCons (ugName j1) (ugCons (ugName j2) ugNil)))) (ht:PT3 X c uc) (hb:PSs3 X bd s)
  (hN:X.N[n]?=some x:=by rfl) (hv:Vis X.env.scope x:=by first | exact Or.inl rfl | exact Or.inr (Or.inl rfl) | exact Or.inr (Or.inr rfl)) (hd:(x == ("__debug__" : Str))=false:=by decide) (hcd:(x == ("__classdict__" : Str))=false:=by decide)
  (hs:∀ v,foldedSetIterable (.Name x px) X.env v=pure v:=by intro _; rfl):PS3 X (.For tg (.Name x px) [.If c bd [] pos'] [] pos) (uForU n j1 j2 uc s):=by
 obtain ⟨_,q1,r1⟩:=hg; obtain ⟨_,q2,r2⟩:=ht; obtain ⟨_,q3,r3⟩:=hb
 refine ⟨_,ps_for hp hc (pi_list (pe_var hN hv hd hcd)) q1 (pss_one (ps_if q2 q3 pss_nil)) hs,fun U ρ h R W B H σ D e sm=>?_⟩
 obtain ⟨ls,ho,hu,hx⟩:=h
 have hds:∃ ds,ds=ls.map Prod.fst:=⟨_,rfl⟩
 obtain ⟨ds,hds⟩:=hds
 have hll:ds.length=ls.length:=by rw [hds,List.length_map]
 rw [← hds] at ho
 obtain ⟨a,vs,h1',h2',h3',h4',h5'⟩:=e.ownAt ho
 have own:∀ s1 s2,((ρ.set j1 s1).set j2 s2)[n]?=some (.own (.l ds)):=fun s1 s2=>by rw [List.getElem?_set_ne (Ne.symm h2),List.getElem?_set_ne (Ne.symm h1)]; exact ho
 refine ⟨.ref a,h1',a,rfl,⟨vs,SqL.of h4'⟩,?_⟩
 refine ⟨fun i m σ' H'=>∃ s1 s2 B',m=ds.length - i∧i≤ds.length∧(ls.take i).any Prod.snd=false∧Ev X.K R W B' H' σ' ((ρ.set j1 s1).set j2 s2)∧σ'[n]?=some (some (.ref a))∧Grow R B B',⟨ds.length,(ρ[j1]?).getD .no,(ρ[j2]?).getD .no,B,by simp,Nat.zero_le _,rfl,?_,h1',Grow.refl _ _⟩,?_⟩
 ·rw [set_at,set_at]; exact e
 rintro i m σ1 H2 ⟨s1,s2,B2,rfl,hi,hf,e2,ha,g2⟩
 obtain ⟨a',vs',q1,q2,q3,q4,q5⟩:=e2.ownAt (own s1 s2)
 rw [ha] at q1; cases q1
 have hl:=q5.length
 by_cases hlt:i < ds.length
 ·have hlv:i < vs'.length:=by lia
  refine .inr ⟨⟨vs',vs'[i],SqL.of q4,List.getElem?_eq_getElem hlv⟩,fun σ' H'=>∃ s1 s2 B',(ls.take (i + 1)).any Prod.snd=false∧Ev X.K R W B' H' σ' ((ρ.set j1 s1).set j2 s2)∧σ'[n]?=some (some (.ref a))∧Grow R B B',?_,?_⟩
  ·rintro σ' H' ⟨s1,s2,B',z0,e',z,g⟩
   exact ⟨ds.length - (i + 1),by lia,s1,s2,B',rfl,hlt,z0,e',z,g⟩
  ·rintro x H' ⟨rfl,hy⟩
   obtain ⟨d,hd,rx⟩:=q5.getV (hy vs' (SqL.of q4))
   rw [hds,List.getElem?_map] at hd
   obtain ⟨p,hpp,rfl⟩:=Option.map_eq_some_iff.mp hd
   obtain ⟨d1,d2,ed,u1,u2⟩:=hu p (List.mem_of_getElem? hpp)
   refine r1 p.1 _ (fun ρ'=>ρ'=(ρ.set j1 (.val d1)).set j2 (.val d2)) ⟨_,ed,rfl,_,_,rfl,_,_,rfl,rfl,set_two h3 ..⟩ R W B2 H' σ1 _ _ e2 rx fun ρ' σ' z' e' mm=>?_
   subst z'
   obtain ⟨a2,_,y1,_⟩:=e'.ownAt (own (.val d1) (.val d2))
   have m2:=mm n a2 (.inl ⟨y1,.inr ⟨_,own (.val d1) (.val d2)⟩⟩)
   have ea:=mut_own m2 (own s1 s2)
   rw [ha] at ea
   cases ea
   refine r2 _ _ u1 _ _ _ _ _ _ e'.frame fun b B3 H3 z3 e3 g3=>?_
   subst z3
   have e4:=e'.unframe e3.fr e3.wh
   have tk:ls.take (i + 1)=ls.take i ++ [p]:=by
    rw [List.take_add_one,hpp]; rfl
   cases hfd:p.2 with
   | false =>
    rw [if_neg Bool.false_ne_true]
    exact ⟨.val d1,.val d2,B2,by rw [tk,List.any_append,hf]; simp [hfd],e4,y1,g2⟩
   | true =>
    rw [if_pos rfl]
    exact r3 _ _ (u2 hfd) R W B2 _ σ' _ e4 ⟨fun ρ' σ' B' H' z e' g=>z.elim,fun ρ' σ' B' H' z e' g=>z.elim,fun ρ' σ' B' H' z e' g=>z.elim,fun r v B' H' z e' g q=>sm.rt r v B' H' z e' (g2.trans g) q⟩
 ·have ei:i=ds.length:=by lia
  subst ei
  rw [hll,List.take_length] at hf
  exact .inl ⟨⟨vs',SqL.of q4,by lia⟩,sm.nx _ σ1 B2 H2 (hx hf s1 s2) e2 g2⟩
end
end L3
namespace Cut
open PySem L2 L3
open PySem.Builtin.Int (intBits)
end Cut
namespace Cut
open PySem L2 L3
open PySem.Builtin.Int (intBits)
end Cut
namespace Cut
open PySem L2 L3
open PySem.Builtin.Int (intBits)
end Cut
namespace Cut
open PySem L2 L3
open PySem.Builtin.Int (intBits)
end Cut
namespace L3
open PySem L2
end L3
namespace Cut
open PySem L2 L3
end Cut
namespace L3
open PySem L2
end L3
namespace Cut
open PySem L2 L3
end Cut
namespace Cut
open PySem L2 L3
open PySem.Builtin.Int (intBits)
end Cut
namespace Cut
open PySem L2 L3
open PySem.Builtin.Int (intBits)
end Cut
namespace Cut
open PySem L2 L3
open PySem.Builtin.Int (intBits)
end Cut
namespace Cut
open PySem L2 L3
open PySem.Builtin.Int (intBits)
end Cut
namespace L3
open PySem L2
end L3
namespace Cut
open PySem L2 L3
open PySem.Builtin.Int (intBits)
end Cut
namespace L3
open PySem L2
end L3
namespace Cut
open PySem L2 L3
open PySem.Builtin.Int (intBits)
end Cut
namespace L3
open PySem L2
end L3
namespace L3
open PySem L2
end L3
namespace Cut
open PySem L2 L3
end Cut
namespace Cut
open PySem L2 L3
open PySem.Builtin.Int (intBits)
end Cut
namespace L3
open PySem L2
section
variable {X:Cx} {a b:Expr} {ua ub:UE} {pos:Pos}
theorem op_isB:OpR X (compareOp .Is) (fun x y H Q=>∃ c d,x=.bl c∧y=.bl d∧Q (.bl (c == d)) H):=by
 intro pins s σ H x y v u Q I rx ry h
 obtain ⟨c,d,rfl,rfl,q⟩:=h
 cases rx
 cases ry
 refine wpAny_is_plain (by cases c <;> cases d <;> rfl) (fin_bl I q ?_)
 cases c <;> cases d <;> rfl
def uIsB (ua ub:UE):UE:=fun ρ k=>ua ρ fun x=>ub ρ fun y=>∃ c d,x=.bl c∧y=.bl d∧k (.bl (c == d))
theorem refIsB {K:PySem.W.Frag} {ta tb:TE} (ha:RefE K ta ua) (hb:RefE K tb ub):RefE K (tOp (fun x y H Q=>∃ c d,x=.bl c∧y=.bl d∧Q (.bl (c == d)) H) ta tb) (uIsB ua ub) :=
 ref2 (f:=fun x y k=>∃ c d,x=.bl c∧y=.bl d∧k (.bl (c == d))) ha hb fun x y k h R W B H σ ρ v w Q e rx ry q=>by
  obtain ⟨c,d,rfl,rfl,hk⟩:=h
  exact ⟨c,d,rx.blV,ry.blV,q _ _ B H hk e (Grow.refl _ _) (.bl _)⟩
theorem e_isB (ha:PE3 X a ua) (hb:PE3 X b ub) (hm:behindInMarks .Is b=false):PE3 X (.Compare a [.Is] [b] pos) (uIsB ua ub):=by
 obtain ⟨_,h1,r1⟩:=ha; obtain ⟨_,h2,r2⟩:=hb
 exact ⟨_,pe_cmpR op_isB h1 h2 hm,refIsB r1 r2⟩
end
end L3
namespace Cut
open PySem L2 L3
open PySem.Builtin.Int (intBits)
end Cut
namespace Cut
open PySem L2 L3
open PySem.Builtin.Int (intBits)
end Cut
namespace Cut
open PySem L2 L3
open PySem.Builtin.Int (intBits)
end Cut
namespace Cut
open PySem L2 L3
open PySem.Builtin.Int (intBits)
end Cut
namespace L2
open PySem PySem.Spec PyProof.Rows PySem.W
end L2
namespace L3
open PySem L2
end L3
namespace Cut
open PySem L2 L3
open PySem.Builtin.Int (intBits)
end Cut
namespace Cut
open PySem L2 L3
open PySem.Builtin.Int (intBits)
end Cut
namespace Cut
open PySem L2 L3
open PySem.Builtin.Int (intBits)
end Cut
namespace Cut
open PySem L2 L3
open PySem.Builtin.Int (intBits)
end Cut
namespace Cut
open PySem L2 L3
open PySem.Builtin.Int (intBits)
end Cut
namespace Cut
open PySem L2 L3
open PySem.Builtin.Int (intBits)
end Cut
namespace Cut
open PySem L2 L3
open PySem.Builtin.Int (intBits)
end Cut
namespace Cut
open PySem L2 L3
open PySem.Builtin.Int (intBits)
end Cut
namespace Cut
open PySem L2 L3
open PySem.Builtin.Int (intBits)
end Cut
namespace Cut
open PySem L2 L3
open PySem.Builtin.Int (intBits)
end Cut
namespace L2
open PySem PySem.Spec PyProof.Rows
end L2
namespace L3
open PySem L2
end L3
namespace Cut
open PySem L2 L3
end Cut
namespace L2
open PySem PySem.Spec PyProof.Rows
end L2
namespace L3
open PySem L2
end L3
namespace L3
open PySem L2
end L3
namespace Cut
open PySem L2 L3
open PySem.Builtin.Int (intBits)
end Cut
namespace Cut
open PySem L2 L3
open PySem.Builtin.Int (intBits)
end Cut
namespace Cut
open PySem L2 L3
open PySem.Builtin.Int (intBits)
end Cut
namespace L3
open PySem L2
end L3
namespace L3
open PySem L2
end L3
namespace Cut
open PySem L2 L3
open PySem.Builtin.Int (intBits)
end Cut
namespace Tab
open PySem PySem.SetTable
def AllO (owner:Array (Option Nat)) (k:Nat):Prop:=∀ v,v < k→∃ j,owner.getD j none=some v
theorem AllO.put {owner:Array (Option Nat)} {j k:Nat} (h:AllO owner k) (hj:(owner.getD j (some 0)).isNone=true):AllO (owner.setIfInBounds j (some k)) (k + 1):=by
 have jl:j < owner.size:=Nat.lt_of_not_le fun z=>by
  rw [Array.getD_eq_getD_getElem?,Array.getElem?_eq_none_iff.mpr z] at hj
  cases hj
 have je:owner[j]?=some none:=by
  rw [Array.getD_eq_getD_getElem?,Array.getElem?_eq_getElem jl] at hj
  rw [Array.getElem?_eq_getElem jl]
  cases q:owner[j] with
  | none=>rfl
  | some x=>rw [q] at hj; cases hj
 intro v hv
 by_cases e:v=k
 ·refine ⟨j,?_⟩
  rw [Array.getD_eq_getD_getElem?,Array.getElem?_setIfInBounds_self_of_lt jl,e]
  rfl
 ·obtain ⟨i,hi⟩:=h v (by lia)
  refine ⟨i,?_⟩
  have ne:j≠i:=fun z=>by
   subst z
   rw [Array.getD_eq_getD_getElem?,je] at hi
   cases hi
  rw [Array.getD_eq_getD_getElem?,Array.getElem?_setIfInBounds_ne ne,← Array.getD_eq_getD_getElem?]
  exact hi
theorem fold_all {m:Nat}:∀ (hs:List Int) (owner owner':Array (Option Nat)) (k k':Nat),AllO owner k→(∀ i q fuel j o,SetTable.layClean.free m o fuel i q=some j→(o.getD j (some 0)).isNone=true) →
  hs.foldl (init:=some (owner,k)) (fun acc h=>do
   let (owner,k) ← acc
   let j ← SetTable.layClean.free m owner (turns m) (bits h % (m + 1)) (bits h)
   pure (owner.setIfInBounds j (some k),k + 1))=some (owner',k')→AllO owner' k'
 | [],owner,owner',k,k',o,_,e=>by
  have e:=Option.some.inj e
  cases e
  exact o
 | h :: hs,owner,owner',k,k',o,fr,e=>by
  rw [List.foldl_cons] at e
  cases q:SetTable.layClean.free m owner (turns m) (bits h % (m + 1)) (bits h) with
  | none =>
   exfalso
   have z:∀ l:List Int,l.foldl (init:=(none:Option (Array (Option Nat)×Nat))) (fun acc h=>do
    let (owner,k) ← acc
    let j ← SetTable.layClean.free m owner (turns m) (bits h % (m + 1)) (bits h)
    pure (owner.setIfInBounds j (some k),k + 1))=none:=fun l=>by
    induction l with
    | nil=>rfl
    | cons x l ih=>rw [List.foldl_cons]; exact ih
   have e2:(do
    let (owner,k) ← some (owner,k)
    let j ← SetTable.layClean.free m owner (turns m) (bits h % (m + 1)) (bits h)
    pure (owner.setIfInBounds j (some k),k + 1))=none:=by
    show (do let j ← SetTable.layClean.free m owner (turns m) (bits h % (m + 1)) (bits h); pure (owner.setIfInBounds j (some k),k + 1))=none
    rw [q]; rfl
   rw [e2,z hs] at e
   cases e
  | some j =>
   have e2:(do
    let (owner,k) ← some (owner,k)
    let j ← SetTable.layClean.free m owner (turns m) (bits h % (m + 1)) (bits h)
    pure (owner.setIfInBounds j (some k),k + 1))=some (owner.setIfInBounds j (some k),k + 1):=by
    show (do let j ← SetTable.layClean.free m owner (turns m) (bits h % (m + 1)) (bits h); pure (owner.setIfInBounds j (some k),k + 1))=_
    rw [q]; rfl
   rw [e2] at e
   exact fold_all hs _ _ _ _ (o.put (fr _ _ _ _ _ q)) fr e
theorem free_empty {m:Nat} {o:Array (Option Nat)}:∀ (fuel i q j:Nat),SetTable.layClean.free m o fuel i q=some j→(o.getD j (some 0)).isNone=true
 | 0,i,q,j,h=>by unfold SetTable.layClean.free at h; cases h
 | fuel + 1,i,q,j,h=>by
  unfold SetTable.layClean.free at h
  cases c:(List.range (runEnd m i + 1 - i)).find? fun k=>(o.getD (i + k) (some 0)).isNone with
  | some a =>
   rw [c] at h
   have h:=Option.some.inj h
   subst h
   exact List.find?_some (p:=fun k=>(o.getD (i + k) (some 0)).isNone) c
  | none =>
   rw [c] at h
   exact free_empty fuel _ _ _ h
theorem laid_all {m finger moves:Nat} {led plain:Bool} {hashes:Array Int} {t:SetTable} {order:Array Nat} (hm:Msk m) (hn:hashes.size≤m) (h:SetTable.laid m finger moves led plain hashes=some (t,order)):∀ x,x < hashes.size→x∈order.toList:=by
 obtain ⟨o,e,w⟩:=fold_own hm hashes.toList _ 0 (own_start m) (by rw [Array.length_toList]; lia)
 have al:=fold_all (m:=m) hashes.toList _ _ _ _ (fun v hv=>absurd hv (by lia)) (fun i q fuel j o h=>free_empty fuel i q j h) e
 rw [Nat.zero_add,Array.length_toList] at e w al
 have lc:SetTable.layClean m hashes=some o:=by
  unfold SetTable.layClean
  rw [← Array.foldl_toList,e]
  rfl
 unfold SetTable.laid at h
 rw [lc] at h
 have h:=Option.some.inj h
 have eo:order=(((List.range (m + 1)).filterMap fun j=>(o.getD j none).map (j,·)).map (·.2)).toArray:=(congrArg Prod.snd h).symm
 intro x hx
 obtain ⟨j,hj⟩:=al x hx
 have jl:j < m + 1:=Nat.lt_of_not_le fun z=>by
  rw [Array.getD_eq_getD_getElem?,Array.getElem?_eq_none_iff.mpr (by rw [w.sz]; exact z)] at hj
  cases hj
 rw [eo,List.toList_toArray]
 exact List.mem_map.mpr ⟨(j,x),List.mem_filterMap.mpr ⟨j,List.mem_range.mpr jl,by rw [hj]; rfl⟩,rfl⟩
section
variable {prog:Program} {w:World} {A:Around} {E:Value→Shared→Prop} {s:Shared}
theorem key_same {h h':Heap} {l:List Int} {a b:Addr} {o:Obj} (k:IsTupleKey (intKind prog w) h l b) (hs:Heap.SameBut a h h') (ho:h.get? a=some o) (hc:o.cls=.type "set"):IsTupleKey (intKind prog w) h' l b:=by
 obtain ⟨ob,items,n,h1,h2,h3,h4⟩:=k
 refine ⟨ob,items,n,?_,h2,h3,h4⟩
 rw [hs.2 b (fun e=>?_)]
 ·exact h1
 ·subst e
  rw [ho] at h1
  have:=Option.some.inj h1
  subst this
  rw [hc] at h2
  exact absurd h2 (by decide)
end
end Tab
namespace Tab
open PySem PySem.SetTable
def Ris (xs:Array Nat):Prop:=∀ i j,i < j→j < xs.size→xs.getD i 0 < xs.getD j 0
theorem getD_in {xs:Array Nat} {i:Nat} (h:i < xs.size) (d:Nat):xs.getD i d=xs[i]:=by simp [Array.getD,h]
theorem below_go {xs:Array Nat} {j:Nat} (r:Ris xs):∀ (fuel lo hi:Nat),hi - lo≤fuel→lo≤hi→hi≤xs.size→(∀ i,i < lo→xs.getD i 0 < j)→(∀ i,hi≤i→i < xs.size→j≤xs.getD i 0) →
  ∃ p,SetTable.below.go xs j fuel lo hi=p∧p≤xs.size∧(∀ i,i < p→xs.getD i 0 < j)∧∀ i,p≤i→i < xs.size→j≤xs.getD i 0
 | 0,lo,hi,h,l1,l2,a,b=>by
  have e:lo=hi:=by lia
  subst e
  exact ⟨lo,rfl,l2,a,b⟩
 | fuel + 1,lo,hi,h,l1,l2,a,b=>by
  unfold SetTable.below.go
  by_cases z:lo < hi
  ·rw [if_pos z]
   dsimp only
   have ms:(lo + hi) / 2 < xs.size:=by lia
   have g:xs.getD ((lo + hi) / 2) j=xs.getD ((lo + hi) / 2) 0:=by rw [getD_in ms,getD_in ms]
   rw [g]
   by_cases c:xs.getD ((lo + hi) / 2) 0 < j
   ·rw [if_pos c]
    refine below_go r fuel _ hi (by lia) (by lia) l2 (fun i hi'=>?_) b
    by_cases q:i=(lo + hi) / 2
    ·rw [q]; exact c
    ·exact Nat.lt_trans (r i ((lo + hi) / 2) (by lia) ms) c
   ·rw [if_neg c]
    refine below_go r fuel lo _ (by lia) (by lia) (by lia) a fun i h1 h2=>?_
    by_cases q:i=(lo + hi) / 2
    ·rw [q]; lia
    ·exact Nat.le_trans (Nat.le_of_not_lt c) (Nat.le_of_lt (r ((lo + hi) / 2) i (by lia) h2))
  ·rw [if_neg z]
   have e:lo=hi:=by lia
   subst e
   exact ⟨lo,rfl,l2,a,b⟩
theorem below_spec {xs:Array Nat} (r:Ris xs) (j:Nat):SetTable.below xs j≤xs.size∧(∀ i,i < SetTable.below xs j→xs.getD i 0 < j)∧∀ i,SetTable.below xs j≤i→i < xs.size→j≤xs.getD i 0:=by
 obtain ⟨p,e,h⟩:=below_go (j:=j) r xs.size 0 xs.size (by lia) (Nat.zero_le _) (Nat.le_refl _) (fun i h=>absurd h (Nat.not_lt_zero _)) (fun i h1 h2=>absurd h2 (by lia))
 have:SetTable.below xs j=p:=e
 rw [this]; exact h
theorem ris_iff {xs:Array Nat}:Ris xs↔xs.toList.Pairwise (· < ·):=by
 rw [List.pairwise_iff_getElem]
 constructor
 ·intro r i k hi hk hik
  have h:=r i k hik (by simpa using hk)
  rw [getD_in (by simpa using hi),getD_in (by simpa using hk)] at h
  simpa using h
 ·intro r i k hik hk
  have h:=r i k (by simp; lia) (by simpa using hk) hik
  rw [getD_in (by lia),getD_in hk]
  simpa using h
theorem ris_insert {xs:Array Nat} {j:Nat} (r:Ris xs) (n:xs[SetTable.below xs j]?≠some j):Ris (SetTable.insertAt xs (SetTable.below xs j) j):=by
 obtain ⟨a,b,c⟩:=below_spec r j
 generalize hp:SetTable.below xs j=p at a b c n
 have e:(SetTable.insertAt xs p j).toList=xs.toList.take p ++ j :: xs.toList.drop p:=by
  unfold SetTable.insertAt
  simp
  exact List.take_of_length_le (by simp)
 rw [ris_iff,e]
 have pw:=ris_iff.mp r
 have lowL:∀ x∈xs.toList.take p,x < j:=fun x hx=>by
  obtain ⟨i,hi,q⟩:=List.mem_iff_getElem.mp hx
  have hi':i < p:=by simp at hi; lia
  have:=b i hi'
  rw [getD_in (by lia)] at this
  rw [← q,List.getElem_take]
  simpa using this
 have highL:∀ x∈xs.toList.drop p,j < x:=fun x hx=>by
  obtain ⟨i,hi,q⟩:=List.mem_iff_getElem.mp hx
  have hi':p + i < xs.size:=by simp at hi; lia
  have h1:=c (p + i) (by lia) hi'
  rw [getD_in hi'] at h1
  have h2:x=xs[p + i]:=by rw [← q,List.getElem_drop]; simp
  rw [h2]
  rcases Nat.lt_or_ge j xs[p + i] with z | z
  ·exact z
  ·exfalso
   have e1:xs[p + i]=j:=by lia
   by_cases i0:i=0
   ·subst i0
    exact n (by rw [Array.getElem?_eq_getElem (by lia)]; exact congrArg some e1)
   ·have h3:=c p (by lia) (by lia)
    have h4:=r p (p + i) (by lia) hi'
    rw [getD_in hi',e1] at h4
    lia
 refine List.pairwise_append.mpr ⟨pw.sublist (List.take_sublist _ _),List.pairwise_cons.mpr ⟨highL,pw.sublist (List.drop_sublist _ _)⟩,fun x hx y hy=>?_⟩
 rcases List.mem_cons.mp hy with rfl | hy
 ·exact lowL x hx
 ·exact Nat.lt_trans (lowL x hx) (highL y hy)
theorem slot_free {t:SetTable} {j:Nat} (h:t.slot j=.empty):t.place[SetTable.below t.place j]?≠some j:=fun e=>by
 unfold SetTable.slot at h
 dsimp only at h
 rw [e] at h
 simp at h
theorem put_ris {t:SetTable} {j:Nat} (r:Ris t.place) (h:t.slot j=.empty):Ris (t.put j).1.place:=ris_insert r (slot_free h)
theorem laid_ris {m finger moves:Nat} {led plain:Bool} {hashes:Array Int} {t:SetTable} {order:Array Nat} (h:SetTable.laid m finger moves led plain hashes=some (t,order)):Ris t.place:=by
 unfold SetTable.laid at h
 simp only [Option.bind_eq_bind,Option.bind_eq_some_iff,Option.pure_def,Option.some.injEq,Prod.mk.injEq] at h
 obtain ⟨owner,_,h,_⟩:=h
 rw [← h,ris_iff]
 show (List.map (·.1) ((List.range (m + 1)).filterMap fun j=>(owner.getD j none).map (j,·))).Pairwise (· < ·)
 have key:∀ l:List Nat,l.Pairwise (· < ·)→(List.map (·.1) (l.filterMap fun j=>(owner.getD j none).map (j,·))).Pairwise (· < ·)∧∀ x∈List.map (·.1) (l.filterMap fun j=>(owner.getD j none).map (j,·)),x∈l:=fun l=>by
  induction l with
  | nil=>intro _; exact ⟨.nil,fun x h=>by simp at h⟩
  | cons a l ih =>
   intro hp
   obtain ⟨h1,h2⟩:=List.pairwise_cons.mp hp
   obtain ⟨i1,i2⟩:=ih h2
   rw [List.filterMap_cons]
   cases q:owner.getD a none with
   | none =>
    simp only [Option.map_none]
    exact ⟨i1,fun x hx=>List.mem_cons_of_mem _ (i2 x hx)⟩
   | some v =>
    simp only [Option.map_some,List.map_cons]
    refine ⟨List.pairwise_cons.mpr ⟨fun x hx=>h1 x (i2 x hx),i1⟩,fun x hx=>?_⟩
    rcases List.mem_cons.mp hx with rfl | hx
    ·exact List.mem_cons_self
    ·exact List.mem_cons_of_mem _ (i2 x hx)
 exact (key _ List.pairwise_lt_range).1
end Tab
namespace Tab
open PySem PySem.SetTable
end Tab
namespace Tab
open PySem PySem.SetTable
def adv1 (m:Nat) (p:Probe):Probe :=
 if p.more > 0 then { j:=p.j + 1,more:=p.more - 1,i:=p.i,perturb:=p.perturb,dummy:=p.dummy }
 else { j:=(leap m p.i p.perturb).1,more:=runEnd m (leap m p.i p.perturb).1 - (leap m p.i p.perturb).1,i:=(leap m p.i p.perturb).1,perturb:=(leap m p.i p.perturb).2,dummy:=p.dummy }
def pt (m:Nat):Nat→Probe→Probe
 | 0,p=>p
 | n + 1,p=>pt m n (adv1 m p)
def at0 (m i q:Nat):Probe:={ j:=i,more:=runEnd m i - i,i:=i,perturb:=q,dummy:=none }
def st0 (m:Nat) (h:Int):Probe:=at0 m (bits h % (m + 1)) (bits h)
theorem adv_is (t:SetTable) (p:Probe):t.advance p=adv1 t.mask p:=by unfold SetTable.advance adv1; split <;> rfl
theorem advN_is (t:SetTable):∀ (n:Nat) (p:Probe),advN t n p=pt t.mask n p
 | 0,_=>rfl
 | n + 1,p=>by
  show advN t n (t.advance p)=pt t.mask n (adv1 t.mask p)
  rw [adv_is,advN_is t n]
theorem pt_add (m:Nat):∀ (a b:Nat) (p:Probe),pt m (a + b) p=pt m b (pt m a p)
 | 0,b,p=>by rw [Nat.zero_add]; rfl
 | a + 1,b,p=>by
  rw [show a + 1 + b=(a + b) + 1 by lia]
  exact pt_add m a b _
def Inn (m:Nat) (p:Probe):Prop:=p.j + p.more≤m
theorem inn_at {m i q:Nat} (h:i≤m):Inn m (at0 m i q):=by
 unfold Inn at0 runEnd
 dsimp only
 split <;> lia
theorem inn_adv {m:Nat} {p:Probe} (h:Inn m p):Inn m (adv1 m p):=by
 unfold adv1
 split
 ·unfold Inn at h ⊢; dsimp only; lia
 ·have:(leap m p.i p.perturb).1≤m:=Nat.le_of_lt_succ (Nat.mod_lt _ (Nat.succ_pos _))
  exact inn_at (q:=(leap m p.i p.perturb).2) this
theorem inn_pt {m:Nat}:∀ (n:Nat) {p:Probe},Inn m p→Inn m (pt m n p)
 | 0,_,h=>h
 | n + 1,_,h=>inn_pt n (inn_adv h)
theorem inn_st (m:Nat) (h:Int):Inn m (st0 m h):=inn_at (Nat.le_of_lt_succ (Nat.mod_lt _ (Nat.succ_pos _)))
theorem pt_le (m n:Nat) (h:Int):(pt m n (st0 m h)).j≤m:=by have:=inn_pt n (inn_st m h); unfold Inn at this; lia
theorem pt_run {m:Nat}:∀ (k:Nat) (p:Probe),k≤p.more→pt m k p={ p with j:=p.j + k,more:=p.more - k }
 | 0,p,_=>rfl
 | k + 1,p,h=>by
  have e:adv1 m p={ p with j:=p.j + 1,more:=p.more - 1 }:=by unfold adv1; rw [if_pos (by lia)]
  show pt m k (adv1 m p)=_
  rw [e,pt_run k _ (by dsimp only; lia)]
  simp only [Probe.mk.injEq,and_true,true_and]
  lia
theorem pt_leap {m i q:Nat}:pt m (runEnd m i - i + 1) (at0 m i q)=at0 m (leap m i q).1 (leap m i q).2:=by
 rw [pt_add,pt_run _ (at0 m i q) (show runEnd m i - i≤runEnd m i - i from Nat.le_refl _)]
 show adv1 m _=_
 unfold adv1 at0
 rw [if_neg (by dsimp only; lia)]
def OnP (m:Nat) (occ:Nat→Prop) (p:Probe) (j:Nat):Prop:=∃ n,(pt m n p).j=j∧∀ k,k < n→occ (pt m k p).j
theorem OnP.mono {m:Nat} {occ occ':Nat→Prop} {p:Probe} {j:Nat} (h:OnP m occ p j) (f:∀ n,occ (pt m n p).j→occ' (pt m n p).j):OnP m occ' p j:=by
 obtain ⟨n,e,a⟩:=h
 exact ⟨n,e,fun k hk=>f k (a k hk)⟩
def occ (o:Array (Option Nat)) (x:Nat):Prop:=(o.getD x (some 0)).isNone=false
theorem runEnd_ge (m i:Nat):i≤runEnd m i:=by unfold runEnd; split <;> lia
theorem free_on {m:Nat} {o:Array (Option Nat)}:∀ (fuel i q j:Nat),SetTable.layClean.free m o fuel i q=some j→OnP m (occ o) (at0 m i q) j∧(o.getD j (some 0)).isNone=true
 | 0,i,q,j,h=>by unfold SetTable.layClean.free at h; cases h
 | fuel + 1,i,q,j,h=>by
  unfold SetTable.layClean.free at h
  have ge:=runEnd_ge m i
  cases c:(List.range (runEnd m i + 1 - i)).find? fun k=>(o.getD (i + k) (some 0)).isNone with
  | some a =>
   rw [c] at h
   have h:=Option.some.inj h
   subst h
   have ha:=List.find?_some (p:=fun k=>(o.getD (i + k) (some 0)).isNone) c
   have hr:=List.mem_range.mp (List.mem_of_find?_eq_some c)
   refine ⟨⟨a,?_,fun k hk=>?_⟩,ha⟩
   ·rw [pt_run a _ (by show a≤runEnd m i - i; lia)]; rfl
   ·rw [pt_run k _ (by show k≤runEnd m i - i; lia)]
    show (o.getD (i + k) (some 0)).isNone=false
    obtain ⟨_,as,bs,e,nn⟩:=List.find?_eq_some_iff_append.mp c
    have e1:a=as.length:=by
     have:=congrArg (fun l:List Nat=>l[as.length]?) e
     rw [List.getElem?_append_right (Nat.le_refl _),List.getElem?_range] at this
     ·have this:as.length=a:=by simpa using this
      exact this.symm
     ·have:=congrArg List.length e; simp at this; lia
    have mk:k∈as:=by
     have:(List.range (runEnd m i + 1 - i))[k]?=(as ++ a :: bs)[k]?:=by rw [e]
     rw [List.getElem?_append_left (by lia),List.getElem?_range (by lia)] at this
     exact List.mem_of_getElem? this.symm
    have:=nn k mk
    simpa using this
  | none =>
   rw [c] at h
   obtain ⟨⟨n,e,a⟩,fr⟩:=free_on fuel _ _ _ h
   refine ⟨⟨runEnd m i - i + 1 + n,?_,fun k hk=>?_⟩,fr⟩
   ·rw [pt_add,pt_leap]; exact e
   ·by_cases z:k≤runEnd m i - i
    ·rw [pt_run k _ z]
     have:=List.find?_eq_none.mp c k (List.mem_range.mpr (by lia))
     show (o.getD (i + k) (some 0)).isNone=false
     exact Bool.eq_false_iff.mpr this
    ·have:=a (k - (runEnd m i - i + 1)) (by lia)
     rw [show at0 m ((i * 5 + 1 + q / 32) % (m + 1)) (q / 32)=pt m (runEnd m i - i + 1) (at0 m i q) from pt_leap.symm,← pt_add,show runEnd m i - i + 1 + (k - (runEnd m i - i + 1))=k by lia] at this
     exact this
end Tab
namespace Tab
open PySem PySem.SetTable
def WayI (m:Nat) (o:Array (Option Nat)) (done:List Int):Prop:=∀ j v,o.getD j none=some v→∃ hv,done[v]?=some hv∧OnP m (occ o) (st0 m hv) j
theorem occ_put {o:Array (Option Nat)} {j k x:Nat} (h:occ o x):occ (o.setIfInBounds j (some k)) x:=by
 unfold occ at h ⊢
 by_cases e:j=x
 ·subst e
  rw [Array.getD_eq_getD_getElem?]
  by_cases l:j < o.size
  ·rw [Array.getElem?_setIfInBounds_self_of_lt l]; rfl
  ·rw [Array.getElem?_eq_none_iff.mpr (by simpa using l)]; rfl
 ·rw [Array.getD_eq_getD_getElem?,Array.getElem?_setIfInBounds_ne e,← Array.getD_eq_getD_getElem?]
  exact h
theorem WayI.put {m:Nat} {o:Array (Option Nat)} {done:List Int} {h:Int} {j:Nat} (w:WayI m o done) (hj:OnP m (occ o) (st0 m h) j):WayI m (o.setIfInBounds j (some done.length)) (done ++ [h]):=fun x v e=>by
 by_cases z:j=x
 ·subst z
  have l:j < o.size:=Nat.lt_of_not_le fun q=>by
   rw [Array.getD_eq_getD_getElem?,Array.getElem?_eq_none_iff.mpr (by simpa using q)] at e
   cases e
  rw [Array.getD_eq_getD_getElem?,Array.getElem?_setIfInBounds_self_of_lt l] at e
  have e:done.length=v:=by simpa using e
  subst e
  exact ⟨h,by simp,hj.mono fun n q=>occ_put q⟩
 ·rw [Array.getD_eq_getD_getElem?,Array.getElem?_setIfInBounds_ne z,← Array.getD_eq_getD_getElem?] at e
  obtain ⟨hv,e1,e2⟩:=w x v e
  have lt:v < done.length:=(List.getElem?_eq_some_iff.mp e1).1
  exact ⟨hv,by rw [List.getElem?_append_left lt]; exact e1,e2.mono fun n q=>occ_put q⟩
theorem fold_on {m:Nat}:∀ (hs done:List Int) (owner owner':Array (Option Nat)) (k':Nat),WayI m owner done →
  hs.foldl (init:=some (owner,done.length)) (fun acc h=>do
   let (owner,k) ← acc
   let j ← SetTable.layClean.free m owner (turns m) (bits h % (m + 1)) (bits h)
   pure (owner.setIfInBounds j (some k),k + 1))=some (owner',k')→WayI m owner' (done ++ hs)
 | [],done,owner,owner',k',o,e=>by
  have e:=Option.some.inj e
  cases e
  rw [List.append_nil]
  exact o
 | h :: hs,done,owner,owner',k',o,e=>by
  rw [List.foldl_cons] at e
  cases q:SetTable.layClean.free m owner (turns m) (bits h % (m + 1)) (bits h) with
  | none =>
   exfalso
   have z:∀ l:List Int,l.foldl (init:=(none:Option (Array (Option Nat)×Nat))) (fun acc h=>do
    let (owner,k) ← acc
    let j ← SetTable.layClean.free m owner (turns m) (bits h % (m + 1)) (bits h)
    pure (owner.setIfInBounds j (some k),k + 1))=none:=fun l=>by
    induction l with
    | nil=>rfl
    | cons x l ih=>rw [List.foldl_cons]; exact ih
   have e2:(do
    let (owner,k) ← some (owner,done.length)
    let j ← SetTable.layClean.free m owner (turns m) (bits h % (m + 1)) (bits h)
    pure (owner.setIfInBounds j (some k),k + 1))=none:=by
    show (do let j ← SetTable.layClean.free m owner (turns m) (bits h % (m + 1)) (bits h); pure (owner.setIfInBounds j (some done.length),done.length + 1))=none
    rw [q]; rfl
   rw [e2,z hs] at e
   cases e
  | some j =>
   have e2:(do
    let (owner,k) ← some (owner,done.length)
    let j ← SetTable.layClean.free m owner (turns m) (bits h % (m + 1)) (bits h)
    pure (owner.setIfInBounds j (some k),k + 1))=some (owner.setIfInBounds j (some done.length),(done ++ [h]).length):=by
    show (do let j ← SetTable.layClean.free m owner (turns m) (bits h % (m + 1)) (bits h); pure (owner.setIfInBounds j (some done.length),done.length + 1))=_
    rw [q,List.length_append]; rfl
   rw [e2] at e
   have:=fold_on hs (done ++ [h]) _ _ _ (o.put (free_on _ _ _ _ q).1) e
   rwa [List.append_assoc] at this
theorem laid_on {m finger moves:Nat} {led plain:Bool} {hashes:Array Int} {t:SetTable} {order:Array Nat} (hm:Msk m) (hn:hashes.size≤m) (h:SetTable.laid m finger moves led plain hashes=some (t,order)) :
  ∀ (i v j:Nat),order[i]?=some v→t.place[i]?=some j→∃ hv,hashes[v]?=some hv∧OnP m (fun x=>x∈t.place.toList) (st0 m hv) j:=by
 obtain ⟨o,e,w⟩:=fold_own hm hashes.toList _ 0 (own_start m) (by rw [Array.length_toList]; lia)
 have w0:WayI m (Array.replicate (m + 1) none) []:=fun j v z=>by
  rw [Array.getD_eq_getD_getElem?] at z
  simp only [Array.getElem?_replicate] at z
  split at z <;> simp at z
 have al:=fold_on (m:=m) hashes.toList [] _ _ _ w0 e
 rw [List.nil_append] at al
 rw [Nat.zero_add,Array.length_toList] at e w
 have lc:SetTable.layClean m hashes=some o:=by
  unfold SetTable.layClean
  rw [← Array.foldl_toList,e]
  rfl
 unfold SetTable.laid at h
 rw [lc] at h
 have h:=Option.some.inj h
 have eo:order=(((List.range (m + 1)).filterMap fun j=>(o.getD j none).map (j,·)).map (·.2)).toArray:=(congrArg Prod.snd h).symm
 have ep:t.place=(((List.range (m + 1)).filterMap fun j=>(o.getD j none).map (j,·)).map (·.1)).toArray:=(congrArg (fun q:SetTable×Array Nat=>q.1.place) h).symm
 intro i v j hi hj
 rw [eo] at hi
 rw [ep] at hj
 have hi:((((List.range (m + 1)).filterMap fun j=>(o.getD j none).map (j,·)).map (·.2)))[i]?=some v:=by simpa using hi
 have hj:((((List.range (m + 1)).filterMap fun j=>(o.getD j none).map (j,·)).map (·.1)))[i]?=some j:=by simpa using hj
 rw [List.getElem?_map] at hi hj
 cases q:((List.range (m + 1)).filterMap fun j=>(o.getD j none).map (j,·))[i]? with
 | none=>rw [q] at hi; cases hi
 | some p =>
  rw [q] at hi hj
  have e1:p.2=v:=Option.some.inj hi
  have e2:p.1=j:=Option.some.inj hj
  obtain ⟨x,hx,e3⟩:=List.mem_filterMap.mp (List.mem_of_getElem? q)
  cases q2:o.getD x none with
  | none=>rw [q2] at e3; cases e3
  | some y =>
   rw [q2] at e3
   have e3:=Option.some.inj e3
   subst e3
   have e1:y=v:=e1
   have e2:x=j:=e2
   subst e1; subst e2
   obtain ⟨hv,g1,g2⟩:=al x y q2
   refine ⟨hv,by rw [← Array.getElem?_toList]; exact g1,g2.mono fun n oc=>?_⟩
   have le:=pt_le m n hv
   generalize (pt m n (st0 m hv)).j=z at oc le
   unfold occ at oc
   have lt:z < o.size:=by rw [w.sz]; lia
   rw [Array.getD_eq_getD_getElem?,Array.getElem?_eq_getElem lt] at oc
   rw [ep,List.toList_toArray]
   cases q3:o[z] with
   | none=>rw [q3] at oc; cases oc
   | some u =>
    refine List.mem_map.mpr ⟨(z,u),List.mem_filterMap.mpr ⟨z,List.mem_range.mpr (by lia),?_⟩,rfl⟩
    rw [Array.getD_eq_getD_getElem?,Array.getElem?_eq_getElem lt,q3]
    rfl
section
variable {t:SetTable}
theorem slot_at (r:Ris t.place) {i j:Nat} (h:t.place[i]?=some j):t.slot j=.live i:=by
 obtain ⟨li,ei⟩:=Array.getElem?_eq_some_iff.mp h
 obtain ⟨a,b,c⟩:=below_spec r j
 have gi:t.place.getD i 0=j:=by rw [getD_in li]; exact ei
 have e:SetTable.below t.place j=i:=by
  generalize SetTable.below t.place j=p at a b c
  rcases Nat.lt_trichotomy p i with z | z | z
  ·have h1:=c p (Nat.le_refl _) (by lia)
   have h2:=r p i z li
   lia
  ·exact z
  ·have:=b i z; lia
 unfold SetTable.slot
 dsimp only
 rw [e,h]
 simp
theorem slot_emp (hd:t.dummies = #[]) (r:Ris t.place) {j:Nat}:t.slot j=.empty↔j ∉ t.place.toList:=by
 constructor
 ·intro h m
  obtain ⟨i,hi⟩:=List.getElem?_of_mem m
  rw [slot_at r (by rw [← Array.getElem?_toList]; exact hi)] at h
  cases h
 ·intro h
  cases q:t.slot j with
  | empty=>rfl
  | dummy=>exact absurd q (slot_nodummy hd _)
  | live i=>exact absurd (Array.mem_toList_iff.mpr (Array.mem_of_getElem? (slot_live q))) h
theorem go_metX (hd:t.dummies = #[]) {hashAt:Nat→Int} {h:Int}:∀ (fuel:Nat) (p:Probe) (met:Met),SetTable.probe.go t hashAt h fuel p=some met →
  (∃ n,met=.empty (pt t.mask n p).j p.dummy∧t.slot (pt t.mask n p).j=.empty∧∀ k,k < n→∃ i,t.slot (pt t.mask k p).j=.live i∧hashAt i≠h) ∨
  (∃ i n,met=.candidate (pt t.mask n p).j i (pt t.mask (n + 1) p)∧t.slot (pt t.mask n p).j=.live i∧∀ k,k < n→∃ i,t.slot (pt t.mask k p).j=.live i∧hashAt i≠h)
 | 0,p,met,e=>by cases e
 | fuel + 1,p,met,e=>by
  unfold SetTable.probe.go at e
  cases q:t.slot p.j with
  | empty =>
   rw [q] at e
   cases e
   exact .inl ⟨0,rfl,q,fun k hk=>absurd hk (Nat.not_lt_zero _)⟩
  | dummy=>exact absurd q (slot_nodummy hd _)
  | live i =>
   rw [q] at e
   dsimp only at e
   split at e
   ·cases e
    refine .inr ⟨i,0,?_,q,fun k hk=>absurd hk (Nat.not_lt_zero _)⟩
    rw [adv_is]; rfl
   ·rename_i ne
    have ne:hashAt i≠h:=fun z=>ne (by rw [z]; simp)
    have rest:∀ n,(∀ k,k < n→∃ i,t.slot (pt t.mask k (t.advance p)).j=.live i∧hashAt i≠h)→∀ k,k < n + 1→∃ i,t.slot (pt t.mask k p).j=.live i∧hashAt i≠h:=fun n a k hk=>by
     cases k with
     | zero=>exact ⟨i,q,ne⟩
     | succ k =>
      have:=a k (by lia)
      rw [adv_is] at this
      exact this
    rcases go_metX hd fuel (t.advance p) met e with ⟨n,a,b,c⟩ | ⟨i',n,a,b,c⟩
    ·rw [adv_dummy] at a
     have c':=rest n c
     rw [adv_is] at a b
     exact .inl ⟨n + 1,a,b,c'⟩
    ·have c':=rest n c
     rw [adv_is] at a b
     exact .inr ⟨i',n + 1,a,b,c'⟩
end
end Tab
namespace Tab
open PySem PySem.SetTable
section
variable {prog:Program} {w:World} {A:Around} {E:Value→Shared→Prop} {s:Shared}
abbrev hk (prog:Program) (w:World) (k:List Int):Int:=tupleKeyHash (intKind prog w) k
abbrev ent (prog:Program) (w:World) (p:List Int×Addr):Int×Value:=(hk prog w p.1,.ref p.2)
abbrev ents (prog:Program) (w:World) (ps:List (List Int×Addr)):Array (Int×Value):=(ps.map (ent prog w)).toArray
def PathI (prog:Program) (w:World) (t:SetTable) (ps:List (List Int×Addr)):Prop:=∀ (i:Nat) (p:List Int×Addr) (j:Nat),ps[i]?=some p→t.place[i]?=some j→OnP t.mask (fun x=>x∈t.place.toList) (st0 t.mask (hk prog w p.1)) j
abbrev Keys (prog:Program) (w:World) (h:Heap) (ps:List (List Int×Addr)):Prop:=∀ p∈ps,IsTupleKey (intKind prog w) h p.1 p.2
theorem ents_at {ps:List (List Int×Addr)} {i:Nat} (h:i < ps.length):(ents prog w ps)[i]?=some (hk prog w ps[i].1,.ref ps[i].2):=by
 unfold ents
 rw [List.getElem?_toArray,List.getElem?_map,List.getElem?_eq_getElem h]
 rfl
theorem Keys.tks {h:Heap} {ps:List (List Int×Addr)} (k:Keys prog w h ps):TKs prog w h (ents prog w ps):=fun e he=>by
 have he:e∈ps.map (ent prog w):=by simpa [ents] using he
 obtain ⟨p,hp,rfl⟩:=List.mem_map.mp he
 exact ⟨p.2,rfl,p.1,k p hp⟩
def Passed (t:SetTable) (ps:List (List Int×Addr)) (kx:List Int) (d:Nat) (q:Probe):Prop:=∀ k,k < d→∃ i p,t.slot (pt t.mask k q).j=.live i∧ps[i]?=some p∧p.1≠kx
theorem not_in {t:SetTable} {ps:List (List Int×Addr)} {kx:List Int} {n:Nat} (hd:t.dummies = #[]) (rs:Ris t.place) (hz:t.place.size=ps.length) (pi:PathI prog w t ps) (pa:Passed t ps kx n (st0 t.mask (hk prog w kx)))
  (he:t.slot (pt t.mask n (st0 t.mask (hk prog w kx))).j=.empty):kx ∉ ps.map (·.1):=fun m=>by
 obtain ⟨p,hp,e⟩:=List.mem_map.mp m
 obtain ⟨i,hi⟩:=List.getElem?_of_mem hp
 have lt:i < t.place.size:=by rw [hz]; exact (List.getElem?_eq_some_iff.mp hi).1
 have hj:t.place[i]?=some t.place[i]:=Array.getElem?_eq_getElem lt
 obtain ⟨n',e1,e2⟩:=pi i p _ hi hj
 rw [e] at e1 e2
 have live:=slot_at rs hj
 rcases Nat.lt_trichotomy n' n with z | z | z
 ·obtain ⟨i2,p2,q1,q2,q3⟩:=pa n' z
  rw [e1,live] at q1
  cases q1
  rw [hi] at q2; cases q2
  exact q3 e
 ·rw [← z,e1,live] at he; cases he
 ·exact (slot_emp hd rs).mp he (e2 n z)
theorem search_fromX {kx:List Int} {a x:Addr} {o:Obj} {ps:List (List Int×Addr)} {ep:Nat} {t:SetTable} {Q:SetFound→Shared→Prop} (hu:A.units < cLine)
  (ho:s.heap.get? a=some o) (hd:o.data=.set (ents prog w ps) ep t) (ok:TOk t ps.length) (rs:Ris t.place) (ks:Keys prog w s.heap ps) (pi:PathI prog w t ps) (hx':IsTupleKey (intKind prog w) s.heap kx x)
  (h1:kx∈ps.map (·.1)→Q (.there none) s) (h2:∀ j,kx ∉ ps.map (·.1)→t.slot j=.empty→OnP t.mask (fun x=>x∈t.place.toList) (st0 t.mask (hk prog w kx)) j→Q (.free j false) s) :
  ∀ (n:Nat) (fuel d:Nat) (st:Option Probe),n < fuel→st.getD (t.probeStart (hk prog w kx))=pt t.mask d (st0 t.mask (hk prog w kx))→Passed t ps kx d (st0 t.mask (hk prog w kx))→Stand t (st.getD (t.probeStart (hk prog w kx)))→(st.getD (t.probeStart (hk prog w kx))).dummy=none→t.slot (advN t n (st.getD (t.probeStart (hk prog w kx)))).j=.empty →
   wpAny (model prog w) A (setSearchFrom a (.ref x) (hk prog w kx) true fuel st) Q E s:=by
 have hx:TK prog w s.heap x:=⟨kx,hx'⟩
 have esz:(ents prog w ps).size=ps.length:=by simp [ents]
 intro n
 induction n using Nat.strongRecOn with
 | ind n ih =>
  intro fuel d st hf hcur hpa hst hdm hemp
  obtain ⟨fuel,rfl⟩:∃ f,fuel=f + 1:=⟨fuel - 1,by lia⟩
  unfold setSearchFrom
  refine wpAny_bind (wpAny_setState_of ho hd (by rw [esz]; exact ok.fits) ?_)
  dsimp only
  rw [show t.gaveWay=false from Msk.odd ok.msk]
  simp only [Bool.false_eq_true,if_false]
  have lo:=ok.lo
  have key:∀ f:Nat→Int,t.probe f (hk prog w kx) (st.getD (t.probeStart (hk prog w kx)))≠none:=fun f z=>by
   obtain ⟨met,em⟩:=probe_some (hashAt:=f) (h:=hk prog w kx) ok.msk ok.dum (by rw [ok.sz]; lia) hst
   rw [z] at em; cases em
  split
  case h_2 q =>
   exfalso
   cases z:t.probe _ (hk prog w kx) (st.getD (t.probeStart (hk prog w kx))) with
   | none=>exact key _ z
   | some met=>exact q met z
  case h_1 met q =>
  have q:t.probe (fun i=>(((ents prog w ps)[i]?).map (·.1)).getD 0) (hk prog w kx) (st.getD (t.probeStart (hk prog w kx)))=some met:=q
  unfold SetTable.probe at q
  have hat:∀ i (h:i < ps.length),((((ents prog w ps)[i]?).map (·.1)).getD 0)=hk prog w ps[i].1:=fun i h=>by rw [ents_at h]; rfl
  have inx:∀ {i j:Nat},t.slot j=.live i→i < ps.length:=fun h=>by
   have:=slot_live h
   rw [← ok.sz]
   exact (Array.getElem?_eq_some_iff.mp this).1
  have ahead:∀ n',(∀ k,k < n'→∃ i,t.slot (pt t.mask k (st.getD (t.probeStart (hk prog w kx)))).j=.live i∧(((ents prog w ps)[i]?).map (·.1)).getD 0≠hk prog w kx)→Passed t ps kx (d + n') (st0 t.mask (hk prog w kx)):=fun n' c k hk'=>by
   by_cases z:k < d
   ·exact hpa k z
   ·obtain ⟨i,e1,e2⟩:=c (k - d) (by lia)
    rw [hcur,← pt_add,show d + (k - d)=k by lia] at e1
    have li:=inx e1
    refine ⟨i,ps[i],e1,List.getElem?_eq_getElem li,fun z=>e2 ?_⟩
    rw [hat i li,z]
  rcases go_metX ok.dum _ _ _ q with ⟨m,rfl,hje,hpass⟩ | ⟨i,m,rfl,hl,hpass⟩
  ·dsimp only
   rw [hdm]
   have pa:=ahead m hpass
   rw [hcur,← pt_add] at hje ⊢
   refine wpAny_pure (h2 _ (not_in ok.dum rs ok.sz pi pa hje) hje ⟨_,rfl,fun k hk'=>?_⟩)
   obtain ⟨i,p,e1,_⟩:=pa k hk'
   exact Array.mem_toList_iff.mpr (Array.mem_of_getElem? (slot_live e1))
  ·dsimp only
   have pa:=ahead m hpass
   have hi:=inx hl
   have hlt:m < n:=Nat.lt_of_not_le fun hle=>by
    rw [advN_is] at hemp
    rcases Nat.lt_or_ge n m with z | z
    ·obtain ⟨i',e1,_⟩:=hpass n z
     rw [e1] at hemp; cases hemp
    ·have:n=m:=by lia
     rw [this,hl] at hemp; cases hemp
   have kb':=ks ps[i] (List.getElem_mem hi)
   have esi:=ents_at (prog:=prog) (w:=w) hi
   have sm:t.sameMemory t.moves t.mask=some true:=by unfold SetTable.sameMemory; rw [if_pos (by rw [beq_self_eq_true])]
   have go2:ps[i].1≠kx→wpAny (model prog w) A (setSearchFrom a (Value.ref x) (hk prog w kx) true fuel (some (pt t.mask (m + 1) (st.getD (t.probeStart (hk prog w kx)))))) Q E s:=fun ne=>by
    refine ih (n - (m + 1)) (by lia) fuel (d + (m + 1)) (some _) (by lia) ?_ (fun k hk'=>?_) ?_ ?_ ?_
    ·show pt t.mask (m + 1) _=_
     rw [hcur,← pt_add]
    ·by_cases z:k < d + m
     ·exact pa k z
     ·have e:k=d + m:=by lia
      subst e
      rw [hcur,← pt_add] at hl
      exact ⟨i,ps[i],hl,List.getElem?_eq_getElem hi,ne⟩
    ·show Stand t (pt t.mask (m + 1) _)
     rw [← advN_is]
     exact advN_stand (p:=t.probeStart (hk prog w kx)) _ hst
    ·show (pt t.mask (m + 1) _).dummy=none
     rw [← advN_is]
     exact (advN_dummy _ _).trans hdm
    ·show t.slot (advN t (n - (m + 1)) (pt t.mask (m + 1) _)).j=_
     rw [← advN_is,← advN_add,show m + 1 + (n - (m + 1))=n by lia]
     exact hemp
   have here:wpAny (model prog w) A (do
     let equal ← holding [Value.ref ps[i].2] (eqBool (Value.ref ps[i].2) (Value.ref x))
     let __x ← setState a
     if (true && equal)=true then pure (SetFound.there none)
     else
      match __x.2.snd.sameMemory t.moves t.mask with
      | some same =>
       match if same=true then __x.2.snd.slot (pt t.mask m (st.getD (t.probeStart (hk prog w kx)))).j else Slot.empty with
       | Slot.live i' =>
        match __x.fst[i']? with
        | some (_,y')=>do
         let still ← pure (if (← isSame y' (Value.ref ps[i].2))=true then some i' else none)
         match still with
         | none=>do
          rule "set.search.anew"
          setSearchFrom a (Value.ref x) (hk prog w kx) true fuel none
         | some i' =>
          if equal=true then pure (SetFound.there (some i'))
          else setSearchFrom a (Value.ref x) (hk prog w kx) true fuel (some (pt t.mask (m + 1) (st.getD (t.probeStart (hk prog w kx)))))
        | none=>do
         let still ← pure none
         match (still:Option Nat) with
         | none=>do
          rule "set.search.anew"
          setSearchFrom a (Value.ref x) (hk prog w kx) true fuel none
         | some i' =>
          if equal=true then pure (SetFound.there (some i'))
          else setSearchFrom a (Value.ref x) (hk prog w kx) true fuel (some (pt t.mask (m + 1) (st.getD (t.probeStart (hk prog w kx)))))
       | _=>do
        let still ← pure none
        match (still:Option Nat) with
        | none=>do
         rule "set.search.anew"
         setSearchFrom a (Value.ref x) (hk prog w kx) true fuel none
        | some i' =>
         if equal=true then pure (SetFound.there (some i'))
         else setSearchFrom a (Value.ref x) (hk prog w kx) true fuel (some (pt t.mask (m + 1) (st.getD (t.probeStart (hk prog w kx)))))
      | _=>unsupported "set.changed-during-lookup:is-the-new-block-at-the-old-address") Q E s:=by
    refine wpAny_bind (wpAny_holding (wpAny_eqBool_tuple hu kb' hx' ?_))
    refine wpAny_bind (wpAny_setState_of ho hd (by rw [esz]; exact ok.fits) ?_)
    dsimp only
    by_cases he:ps[i].1=kx
    ·simp only [he,decide_true,Bool.and_self,if_true]
     exact wpAny_pure (h1 (he ▸ List.mem_map.mpr ⟨ps[i],List.getElem_mem hi,rfl⟩))
    ·simp only [he,decide_false,Bool.and_false,Bool.false_eq_true,if_false]
     rw [sm]
     simp only [if_true]
     rw [hl]
     dsimp only
     rw [esi]
     dsimp only
     refine wpAny_bind (wpAny_isSame_ref_self ?_)
     simp only [if_true]
     refine wpAny_bind (wpAny_pure ?_)
     exact go2 he
   cases hled:t.led
   ·simp only [Bool.not_false,if_true]
    refine wpAny_bind (not_seen hx _ (fun y hy=>?_) ?_)
    ·obtain ⟨e,he,rfl⟩:=List.mem_map.mp hy
     exact ks.tks e (by
      rw [Array.toList_filter] at he
      exact (List.mem_filter.mp he).1)
    simp only [Bool.false_eq_true,if_false]
    rw [esi]
    exact here
   ·simp only [Bool.not_true,Bool.false_eq_true,if_false]
    rw [esi]
    exact here
end
end Tab
namespace Tab
open PySem PySem.SetTable
theorem ins_at {α:Type} {l:List α} {x:α} {p:Nat} (hp:p≤l.length) (i:Nat):(l.take p ++ x :: l.drop p)[i]?=if i < p then l[i]? else if i=p then some x else l[i - 1]?:=by
 have tl:(l.take p).length=p:=by rw [List.length_take]; lia
 by_cases h:i < p
 ·rw [if_pos h,List.getElem?_append_left (by lia),List.getElem?_take_of_lt h]
 ·rw [if_neg h,List.getElem?_append_right (by lia),tl]
  by_cases e:i=p
  ·rw [if_pos e,e,Nat.sub_self]; rfl
  ·rw [if_neg e,show i - p=(i - p - 1) + 1 by lia,List.getElem?_cons_succ,List.getElem?_drop]
   congr 1
   lia
theorem insertAt_list {α:Type} (xs:Array α) (p:Nat) (x:α):(SetTable.insertAt xs p x).toList=xs.toList.take p ++ x :: xs.toList.drop p:=by
 unfold SetTable.insertAt
 simp
 exact List.take_of_length_le (by simp)
theorem perm_of {α:Type} [DecidableEq α]:∀ {l m:List α},l.Nodup→(∀ x∈l,x∈m)→m.length≤l.length→m.Perm l
 | [],m,_,_,h=>by
  have:m=[]:=List.eq_nil_of_length_eq_zero (by simpa using h)
  rw [this]
 | a :: l,m,hn,h,hl=>by
  have ha:=h a List.mem_cons_self
  have e:=List.length_erase_of_mem ha
  have p:=List.length_pos_of_mem ha
  have ih:=perm_of (l:=l) (m:=m.erase a) (List.nodup_cons.mp hn).2 (fun x hx=>(List.mem_erase_of_ne (fun e=>(List.nodup_cons.mp hn).1 (by rw [← e]; exact hx))).mpr (h x (List.mem_cons_of_mem _ hx))) (by rw [e]; simp at hl; lia)
  exact (List.perm_cons_erase ha).trans (ih.cons a)
theorem fm_at {α:Type} {ps:List α}:∀ {order:List Nat},(∀ x∈order,x < ps.length)→∀ i:Nat,(order.filterMap fun v:Nat=>ps[v]?)[i]?=(order[i]?).bind (fun v:Nat=>ps[v]?)
 | [],_,i=>by simp
 | x :: r,h,i=>by
  have hx:=h x List.mem_cons_self
  rw [List.filterMap_cons_some (List.getElem?_eq_getElem hx)]
  cases i with
  | zero=>simp [List.getElem?_eq_getElem hx]
  | succ i =>
   rw [List.getElem?_cons_succ,List.getElem?_cons_succ]
   exact fm_at (fun y hy=>h y (List.mem_cons_of_mem _ hy)) i
section
variable {prog:Program} {w:World} {A:Around} {E:Value→Shared→Prop} {s:Shared}
theorem searchX {kx:List Int} {a x:Addr} {o:Obj} {ps:List (List Int×Addr)} {ep:Nat} {t:SetTable} {Q:SetFound→Shared→Prop} (hu:A.units < cLine)
  (ho:s.heap.get? a=some o) (hd:o.data=.set (ents prog w ps) ep t) (ok:TOk t ps.length) (rs:Ris t.place) (ks:Keys prog w s.heap ps) (pi:PathI prog w t ps) (hx':IsTupleKey (intKind prog w) s.heap kx x)
  (h1:kx∈ps.map (·.1)→Q (.there none) s) (h2:∀ j,kx ∉ ps.map (·.1)→t.slot j=.empty→OnP t.mask (fun x=>x∈t.place.toList) (st0 t.mask (hk prog w kx)) j→Q (.free j false) s):wpAny (model prog w) A (setSearch a (.ref x) (hk prog w kx) true) Q E s:=by
 have lo:=ok.lo
 obtain ⟨n,hn,e⟩:=adv_ends ok.msk ok.dum (by rw [ok.sz]; lia) (stand_start t (hk prog w kx))
 refine search_fromX hu ho hd ok rs ks pi hx' h1 h2 n 100000 0 none ?_ rfl (fun k h=>absurd h (Nat.not_lt_zero _)) (stand_start t _) rfl e
 have:=ok.msk
 unfold turns at hn
 rcases this with q | q | q | q | q | q <;> rw [q] at hn <;> lia
def SetX (prog:Program) (w:World) (h:Heap) (a:Addr) (ps:List (List Int×Addr)):Prop :=
 ∃ o ep t,h.get? a=some o∧o.ExactSet∧o.data=.set (ents prog w ps) ep t∧TOk t ps.length∧Ris t.place∧PathI prog w t ps∧Keys prog w h ps∧(ps.map (·.1)).Nodup
theorem Keys.same {h h':Heap} {a:Addr} {o:Obj} {ps:List (List Int×Addr)} (k:Keys prog w h ps) (hs:Heap.SameBut a h h') (ho:h.get? a=some o) (hc:o.cls=.type "set"):Keys prog w h' ps:=fun p hp=>key_same (k p hp) hs ho hc
theorem put_way {t:SetTable} {ps:List (List Int×Addr)} {kx:List Int} {x:Addr} {j:Nat} (rs:Ris t.place) (hz:t.place.size=ps.length) (pi:PathI prog w t ps) (hj:OnP t.mask (fun x=>x∈t.place.toList) (st0 t.mask (hk prog w kx)) j) :
  PathI prog w (t.put j).1 (ps.take (SetTable.below t.place j) ++ (kx,x) :: ps.drop (SetTable.below t.place j))∧ents prog w (ps.take (SetTable.below t.place j) ++ (kx,x) :: ps.drop (SetTable.below t.place j))=SetTable.insertAt (ents prog w ps) (SetTable.below t.place j) (hk prog w kx,.ref x):=by
 obtain ⟨b1,b2,b3⟩:=below_spec rs j
 have ep:(t.put j).1.place.toList=t.place.toList.take (SetTable.below t.place j) ++ j :: t.place.toList.drop (SetTable.below t.place j):=insertAt_list _ _ _
 have em:(t.put j).1.mask=t.mask:=rfl
 generalize SetTable.below t.place j=p at b1 b2 b3 ep ⊢
 have up:∀ x,x∈t.place.toList→x∈(t.put j).1.place.toList:=fun x hx=>by
  rw [ep]
  have:x∈t.place.toList.take p ++ t.place.toList.drop p:=by rw [List.take_append_drop]; exact hx
  rcases List.mem_append.mp this with z | z
  ·exact List.mem_append_left _ z
  ·exact List.mem_append_right _ (List.mem_cons_of_mem _ z)
 have lp:p≤t.place.toList.length:=by rw [Array.length_toList]; exact b1
 have lq:p≤ps.length:=by rw [← hz]; exact b1
 refine ⟨fun i q j' hi hj'=>?_,?_⟩
 ·rw [em]
  rw [← Array.getElem?_toList,ep,ins_at lp] at hj'
  rw [ins_at lq] at hi
  by_cases h1:i < p
  ·rw [if_pos h1] at hi hj'
   exact (pi i q j' hi (by rw [← Array.getElem?_toList]; exact hj')).mono fun n=>up _
  ·rw [if_neg h1] at hi hj'
   by_cases h2:i=p
   ·rw [if_pos h2] at hi hj'
    cases hi; cases hj'
    exact hj.mono fun n=>up _
   ·rw [if_neg h2] at hi hj'
    exact (pi (i - 1) q j' hi (by rw [← Array.getElem?_toList]; exact hj')).mono fun n=>up _
 ·refine Array.toList_inj.mp ?_
  rw [insertAt_list]
  unfold ents
  simp only [List.toList_toArray,List.map_append,List.map_cons,List.map_take,List.map_drop]
theorem relayX {a:Addr} {o:Obj} {ps:List (List Int×Addr)} {ep wanted:Nat} {t:SetTable} {Q:Unit→Shared→Prop}
  (ho:s.heap.get? a=some o) (hex:o.ExactSet) (hd:o.data=.set (ents prog w ps) ep t) (hf:t.fits ps.length=true) (ks:Keys prog w s.heap ps) (nd:(ps.map (·.1)).Nodup)
  (hm:Msk (SetTable.sizeAbove wanted - 1)) (lo:ps.length * 5 < (SetTable.sizeAbove wanted - 1) * 3) (hs:SetTable.sizeAbove wanted≤256)
  (h:∀ h' ps',Heap.SameBut a s.heap h'→SetX prog w h' a ps'→(ps'.map (·.1)).Perm (ps.map (·.1))→Q () { s with heap:=h' }):wpAny (model prog w) A (setRelay a wanted) Q E s:=by
 have esz:(ents prog w ps).size=ps.length:=by simp [ents]
 unfold setRelay
 refine wpAny_bind (wpAny_setState_of ho hd (by rw [esz]; exact hf) ?_)
 dsimp only
 rw [if_neg (by rw [sizeLine_eq]; lia)]
 obtain ⟨t',order,e1,e2,e3,e4,e5,e6,e7,e8⟩:=laid_ok (finger:=t.finger) (moves:=t.movedTo (SetTable.sizeAbove wanted - 1)) (led:=t.led) (plain:=t.plain) (hashes:=(ents prog w ps).map (·.1)) hm (by rw [Array.size_map,esz]; lia)
 rw [Array.size_map,esz] at e4 e5 e6
 have e0:=e1
 have on:=laid_on hm (by rw [Array.size_map,esz]; lia) e0
 have al:=laid_all hm (by rw [Array.size_map,esz]; lia) e0
 have e1:t.relaid ((ents prog w ps).map (·.1)) wanted=some (t',order):=e1
 rw [e1]
 have ee:order.filterMap ((ents prog w ps)[·]?)=ents prog w (order.toList.filterMap (ps[·]?)):=by
  refine Array.toList_inj.mp ?_
  rw [Array.toList_filterMap]
  unfold ents
  rw [List.toList_toArray,List.map_filterMap]
  congr 1
  funext v
  simp
 have len:(order.toList.filterMap (ps[·]?)).length=ps.length:=by
  have:∀ l:List Nat,(∀ x∈l,x < ps.length)→(l.filterMap (ps[·]?)).length=l.length:=fun l=>by
   induction l with
   | nil=>intro _; rfl
   | cons x r ih =>
    intro h
    rw [List.filterMap_cons_some (List.getElem?_eq_getElem (h x List.mem_cons_self)),List.length_cons,List.length_cons,ih fun y hy=>h y (List.mem_cons_of_mem _ hy)]
  rw [this _ e6,Array.length_toList,e5]
 have sz:(order.filterMap ((ents prog w ps)[·]?)).size=(ents prog w ps).size:=by
  rw [ee]
  simp [ents,len]
 refine wpAny_bind ?_
 change wpAny _ _ (if ((order.filterMap ((ents prog w ps)[·]?)).size != (ents prog w ps).size)=true then (unsupported "internal:set-table-lost-an-element" >>= fun _=>pure (order.filterMap ((ents prog w ps)[·]?),t')) else pure (order.filterMap ((ents prog w ps)[·]?),t')) _ _ _
 rw [sz,bne_self_eq_false]
 simp only [Bool.false_eq_true,if_false]
 refine wpAny_pure ?_
 dsimp only
 refine wpAny_storeSet_of ho hd ?_ (by rw [sz,esz,sizeLine_eq]; lia)
 rw [ee]
 have sb:=Heap.SameBut.update s.heap a (Obj.putSet (ents prog w (order.toList.filterMap (ps[·]?))) t')
 have mem:∀ p,p∈order.toList.filterMap (ps[·]?)↔p∈ps:=fun p=>by
  constructor
  ·intro hp
   obtain ⟨v,_,q⟩:=List.mem_filterMap.mp hp
   exact List.mem_of_getElem? q
  ·intro hp
   obtain ⟨v,q⟩:=List.getElem?_of_mem hp
   exact List.mem_filterMap.mpr ⟨v,al v (by rw [Array.size_map,esz]; exact (List.getElem?_eq_some_iff.mp q).1),q⟩
 have pm:((order.toList.filterMap (ps[·]?)).map (·.1)).Perm (ps.map (·.1)):=perm_of nd (fun l hl=>by
  obtain ⟨p,hp,rfl⟩:=List.mem_map.mp hl
  exact List.mem_map.mpr ⟨p,(mem p).mpr hp,rfl⟩) (by rw [List.length_map,List.length_map,len]; exact Nat.le_refl _)
 refine h _ _ sb ⟨_,_,_,stored ho hd _ _,hex,rfl,⟨by rw [e2]; exact hm,e3,by rw [e4,len],by rw [e2,len]; exact lo⟩,laid_ris e0,fun i p j hi hj=>?_,fun p hp=>(ks.same sb ho hex.1) p ((mem p).mp hp),pm.nodup_iff.mpr nd⟩ pm
 rw [fm_at e6] at hi
 cases q:order.toList[i]? with
 | none=>rw [q] at hi; cases hi
 | some v =>
  rw [q] at hi
  have hi:ps[v]?=some p:=hi
  obtain ⟨hv,g1,g2⟩:=on i v j (by rw [← Array.getElem?_toList]; exact q) hj
  have lv:=(List.getElem?_eq_some_iff.mp hi).1
  rw [Array.getElem?_map,ents_at lv] at g1
  have g1:hk prog w ps[v].1=hv:=Option.some.inj g1
  have:ps[v]=p:=(List.getElem?_eq_some_iff.mp hi).2
  rw [this] at g1
  rw [e2,g1]
  exact g2
theorem addX {kx:List Int} {a x:Addr} {ps:List (List Int×Addr)} {Q:Bool→Shared→Prop} (hu:A.units < cLine) (st:SetX prog w s.heap a ps) (hx:IsTupleKey (intKind prog w) s.heap kx x) (hn:ps.length + 1≤76)
  (h:∀ b h' ps',Heap.SameBut a s.heap h'→SetX prog w h' a ps'→(∀ l,l∈ps'.map (·.1)↔l∈ps.map (·.1)∨l=kx)→ps'.length≤ps.length + 1→Q b { s with heap:=h' }):wpAny (model prog w) A (setAddHashed a (.ref x) (hk prog w kx)) Q E s:=by
 obtain ⟨o,ep,t,ho,hex,hd,ok,rs,pi,ks,nd⟩:=st
 have esz:(ents prog w ps).size=ps.length:=by simp [ents]
 unfold setAddHashed
 refine wpAny_holding ?_
 unfold setAddHashedIn
 refine wpAny_bind (wpAny_setState_of ho hd (by rw [esz]; exact ok.fits) ?_)
 dsimp only
 rw [show byScan (.ref x) (ents prog w ps)=false from rfl]
 simp only [Bool.false_eq_true,if_false]
 refine wpAny_bind (searchX hu ho hd ok rs ks pi hx (fun hm=>?_) fun j hno hje hon=>?_)
 ·exact wpAny_pure (h _ _ ps (Heap.SameBut.refl _ _) ⟨o,ep,t,ho,hex,hd,ok,rs,pi,ks,nd⟩ (fun l=>⟨.inl,fun z=>z.elim id fun z=>z ▸ hm⟩) (Nat.le_succ _))
 ·dsimp only
  refine wpAny_bind (wpAny_setState_of ho hd (by rw [esz]; exact ok.fits) ?_)
  dsimp only
  obtain ⟨p1,p2,p3,p4⟩:=put_ok ok.msk ok.dum ok.sz j
  obtain ⟨w1,w2⟩:=put_way (x:=x) rs ok.sz pi hon
  have p6:Ris (t.put j).1.place:=put_ris rs hje
  have lq:SetTable.below t.place j≤ps.length:=by rw [← ok.sz]; exact (below_spec rs j).1
  have ep2:(t.put j).2=SetTable.below t.place j:=rfl
  generalize hp:t.put j=tp at p1 p2 p3 p4 p6 w1 ep2
  obtain ⟨t1,p⟩:=tp
  dsimp only at p1 p2 p3 p4 p6 w1 ep2
  subst ep2
  generalize hpp:SetTable.below t.place j=p at w1 w2 lq
  generalize hps:ps.take p ++ (kx,x) :: ps.drop p=ps' at w1 w2
  have len:ps'.length=ps.length + 1:=by rw [← hps]; simp; lia
  have mem:∀ q,q∈ps'↔q∈ps∨q=(kx,x):=fun q=>by
   have:q∈ps↔q∈ps.take p∨q∈ps.drop p:=by rw [← List.mem_append,List.take_append_drop]
   rw [← hps,List.mem_append,List.mem_cons,this]
   constructor
   ·rintro (z | z | z)
    ·exact .inl (.inl z)
    ·exact .inr z
    ·exact .inl (.inr z)
   ·rintro ((z | z) | z)
    ·exact .inl z
    ·exact .inr (.inr z)
    ·exact .inr (.inl z)
  have nd2:(ps'.map (·.1)).Nodup:=by
   have pmm:(ps'.map (·.1)).Perm (kx :: ps.map (·.1)):=by
    rw [← hps,List.map_append,List.map_cons]
    refine List.perm_middle.trans ?_
    rw [← List.map_append,List.take_append_drop]
   exact pmm.nodup_iff.mpr (List.nodup_cons.mpr ⟨hno,nd⟩)
  have keysIff:∀ l,l∈ps'.map (·.1)↔l∈ps.map (·.1)∨l=kx:=fun l=>by
   constructor
   ·intro hl
    obtain ⟨q,hq,rfl⟩:=List.mem_map.mp hl
    rcases (mem q).mp hq with z | rfl
    ·exact .inl (List.mem_map.mpr ⟨q,z,rfl⟩)
    ·exact .inr rfl
   ·rintro (z | rfl)
    ·obtain ⟨q,hq,rfl⟩:=List.mem_map.mp z
     exact List.mem_map.mpr ⟨q,(mem q).mpr (.inl hq),rfl⟩
    ·exact List.mem_map.mpr ⟨_,(mem _).mpr (.inr rfl),rfl⟩
  rw [← w2]
  have rest:∀ b:Bool,wpAny (model prog w) A (do
    storeSet a (ents prog w ps') (if b=true then t1 else { t1 with plain:=false })
    if (!false && (if b=true then t1 else { t1 with plain:=false }).tooFull)=true then do
     setRelay a (SetTable.grown ((ents prog w ps).size + 1))
     pure true
    else pure true) Q E s:=fun b=>by
   have t2:∃ t2,(if b=true then t1 else { t1 with plain:=false })=t2∧t2.mask=t.mask∧t2.dummies = #[]∧t2.place.size=ps.length + 1∧Ris t2.place∧PathI prog w t2 ps':=by
    cases b
    ·exact ⟨_,rfl,p1,p2,p3,p6,w1⟩
    ·exact ⟨_,rfl,p1,p2,p3,p6,w1⟩
   obtain ⟨t2,q,q1,q2,q3,q5,q6⟩:=t2
   rw [q]
   have sb:=Heap.SameBut.update s.heap a (Obj.putSet (ents prog w ps') t2)
   have gt:=stored ho hd (ents prog w ps') t2
   have ks2:Keys prog w (s.heap.update a (Obj.putSet (ents prog w ps') t2)) ps':=fun q hq=>by
    rcases (mem q).mp hq with z | rfl
    ·exact (ks.same sb ho hex.1) q z
    ·exact key_same hx sb ho hex.1
   have isz:(ents prog w ps').size=ps.length + 1:=by simp [ents,len]
   have lo:=ok.lo
   refine wpAny_bind (wpAny_storeSet_of ho hd ?_ (by rw [isz,sizeLine_eq]; lia))
   have tf:t2.tooFull=decide ((ps.length + 1) * 5 ≥ t.mask * 3):=by
    unfold SetTable.tooFull SetTable.fill
    rw [q1,q2,q3]
    rfl
   rw [tf,esz]
   by_cases c:(ps.length + 1) * 5 ≥ t.mask * 3
   ·simp only [c,decide_true,Bool.not_false,Bool.and_self,if_true]
    obtain ⟨g1,g2,g3⟩:=grow_ok ok.msk lo (Nat.not_lt.mpr c) hn
    refine wpAny_bind (relayX gt hex rfl ?_ ks2 nd2 g1 (by rw [len]; exact g2) g3 fun h' ps3 sb' sw pm=>?_)
    ·rw [len]
     unfold SetTable.fits SetTable.fill
     rw [q1,q2,q3]
     simp only [beq_self_eq_true,Bool.true_and,decide_eq_true_eq]
     show ps.length + 1 + 0≤_
     have:=ok.msk
     rcases this with z | z | z | z | z | z <;> rw [z] at lo ⊢ <;> lia
    ·refine wpAny_pure (h _ _ ps3 (sb.trans sb') sw (fun l=>by rw [pm.mem_iff]; exact keysIff l) ?_)
     have:=pm.length_eq
     rw [List.length_map,List.length_map,len] at this
     lia
   ·simp only [c,decide_false,Bool.and_false,Bool.false_eq_true,if_false]
    exact wpAny_pure (h _ _ ps' sb ⟨_,_,_,gt,hex,rfl,⟨by rw [q1]; exact ok.msk,q2,by rw [q3,len],by rw [q1,len]; lia⟩,q5,q6,ks2,nd2⟩ keysIff (by lia))
  dsimp only
  split
  all_goals first | exact wpAny_bind (by_hash ⟨kx,hx⟩ fun b=>rest b) | exact wpAny_bind (wpAny_pure (rest true))
end
end Tab
namespace Tab
open PySem PySem.SetTable
section
variable {prog:Program} {w:World} {A:Around} {E:Value→Shared→Prop} {s:Shared}
def KA (prog:Program) (w:World) (h:Heap) (ks:List (List Int)) (items:Array Value):Prop:=∀ (i:Nat) (v:Value),items.toList[i]?=some v→∃ (b:Addr) (l:List Int),v=.ref b∧ks[i]?=some l∧IsTupleKey (intKind prog w) h l b
theorem key_kept {h h':Heap} {l:List Int} {b:Addr} (x:IsTupleKey (intKind prog w) h l b) (k:∀ o,h.get? b=some o→h'.get? b=some o):IsTupleKey (intKind prog w) h' l b:=by
 obtain ⟨ob,its,m,h1,h2,h3,h4⟩:=x
 exact ⟨ob,its,m,k ob h1,h2,h3,h4⟩
theorem SetX.asW {h:Heap} {S:Addr} {ps:List (List Int×Addr)} (st:SetX prog w h S ps):SetW prog w h S ps.length:=by
 obtain ⟨o,ep,t,ho,hex,hd,ok,rs,pi,ks,nd⟩:=st
 exact ⟨o,_,ep,t,ho,hex,hd,by simp [ents],ok,ks.tks⟩
theorem SetX.keep {h h':Heap} {S:Addr} {ps:List (List Int×Addr)} (st:SetX prog w h S ps) (I:Addr) (hS:S≠I) (hI:∀ b,TK prog w h b→b≠I) (k:∀ b o,b≠I→h.get? b=some o→h'.get? b=some o):SetX prog w h' S ps:=by
 obtain ⟨o,ep,t,ho,hex,hd,ok,rs,pi,ks,nd⟩:=st
 exact ⟨o,ep,t,k _ _ hS ho,hex,hd,ok,rs,pi,fun p hp=>key_kept (ks p hp) fun o' e=>k _ o' (hI _ ⟨_,ks p hp⟩) e,nd⟩
theorem upd_loopX {S I l:Addr} {items:Array Value} {ks:List (List Int)} {R:Result→Shared→Prop} (n1:l≠S) (n2:l≠I) (n3:S≠I) (hh:A.handled=none) (hu:A.units + 1 < cLine) (room:items.size≤75) (hks:ks.length=items.size) :
  ∀ (k i:Nat) (ps:List (List Int×Addr)) (s:Shared),items.size - i=k→i≤items.size→s.heap.IsListIter I l i→s.heap.IsList l items→SetX prog w s.heap S ps→ps.length≤i→(∀ l,l∈ps.map (·.1)↔l∈ks.take i)→KA prog w s.heap ks items →
   (∀ h' tk ps',s.toks≤tk→(∀ b o,b≠S→b≠I→s.heap.get? b=some o→h'.get? b=some o)→SetX prog w h' S ps'→(∀ l,l∈ps'.map (·.1)↔l∈ks)→R (.ok (.ret .none)) { s with heap:=h',toks:=tk }) →
   codeAny (model prog w) A (.builtin "set.update.loop" ⟨[.ref S,.ref I],[]⟩) R s:=by
 intro k
 induction k with
 | zero =>
  intro i ps s hk hi hit hl st hn hm hv hR
  refine codeAny_builtin PyProof.Rows.F.entry_set_update_loop ?_
  simp only [Around.under_plainId PyProof.Rows.F.plain_set_update_loop]
  show wpAny _ A.in1 (pyNext (.ref I) >>= _) _ _ _
  refine wpAny_bind (wpAny_pyNext_list_end hh hit hl (Array.getElem?_eq_none_iff.mpr (by lia)) fun h' he=>?_)
  show wpAny _ A.in1 (ret Value.none) _ _ _
  have hm:∀ l,l∈ps.map (·.1)↔l∈ks:=fun l=>by rw [hm l,List.take_of_length_le (by lia)]
  exact wpAny_pure (hR h' s.toks ps (Nat.le_refl _) (fun b o _ b2 e=>he b o b2 e) (st.keep I n3 (fun b x=>x.iter hit) fun b o hb e=>he b o hb e) hm)
 | succ k ih =>
  intro i ps s hk hi hit hl st hn hm hv hR
  have lt:i < items.size:=by lia
  obtain ⟨b,kx,eb,ek,kb⟩:=hv i items[i] (by simp [lt])
  refine codeAny_builtin PyProof.Rows.F.entry_set_update_loop ?_
  simp only [Around.under_plainId PyProof.Rows.F.plain_set_update_loop]
  show wpAny _ A.in1 (pyNext (.ref I) >>= _) _ _ _
  refine wpAny_bind (wpAny_pyNext_list_item hit hl (x:=items[i]) (by simp [lt]) fun h1 hit1 sb1=>?_)
  have st1:SetX prog w h1 S ps:=st.keep I n3 (fun b x=>x.iter hit) fun b o hb e=>sb1.extBut b o hb e
  have kb1:IsTupleKey (intKind prog w) h1 kx b:=key_kept kb fun o e=>sb1.extBut b o (TK.iter ⟨_,kb⟩ hit) e
  rw [eb]
  show wpAny _ A.in1 (holding [Value.ref b] (setAdd S (.ref b)) >>= _) _ _ _
  refine wpAny_bind (wpAny_holding ?_)
  unfold setAdd
  refine wpAny_holding ?_
  refine wpAny_bind (wpAny_pyHash_tuple (A:=A.in1) hu kb1 ?_)
  refine addX (A:=A.in1) hu st1 kb1 (by lia) fun bb h2 ps2 sb2 st2 hm2 hl2=>?_
  have up:∀ c o,c≠S→c≠I→s.heap.get? c=some o→h2.get? c=some o:=fun c o c1 c2 e=>(sb2.2 c c1).trans (sb1.extBut c o c2 e)
  refine wpAny_pure ⟨plainId_quiet PyProof.Rows.F.plain_set_update_loop _,ih (i + 1) ps2 _ (by lia) lt (hit1.at fun o e=>(sb2.2 I (Ne.symm n3)).trans e) (hl.at fun o e=>up l o n1 n2 e) st2 (by lia) (fun l=>?_) (fun i' v hv'=>?_) fun h3 tk m' ht up' st3 hm'=>?_⟩
  ·rw [hm2 l,hm l,List.take_add_one,ek]
   simp
  ·obtain ⟨c,l',ec,e2,kc⟩:=hv i' v hv'
   exact ⟨c,l',ec,e2,key_kept kc fun o e=>up c o (TK.set ⟨_,kc⟩ st.asW) (TK.iter ⟨_,kc⟩ hit) e⟩
  ·exact hR h3 tk m' (Nat.le_trans (Nat.le_add_right _ _) ht) (fun c o c1 c2 e=>up' c o c1 c2 (up c o c1 c2 e)) st3 hm'
theorem fresh_x {h:Heap} {a:Addr} {led:Bool} (e:h.get? a=some (fresh led)):SetX prog w h a [] :=
 ⟨_,0,_,e,⟨rfl,rfl,rfl⟩,rfl,⟨.inl rfl,rfl,rfl,show 0 * 5 < 7 * 3 by decide⟩,(fun i j _ h=>absurd h (Nat.not_lt_zero _)),(fun i p j h=>by simp at h),(fun p hp=>by simp at hp),List.nodup_nil⟩
theorem call_setX {ks:List (List Int)} {l:Addr} {items:Array Value} {Q:Value→Shared→Prop} (hh:A.handled=none) (hu:A.units + 8 < cLine) (hl:s.heap.IsList l items) (hv:KA prog w s.heap ks items) (room:items.size≤75) (hks:ks.length=items.size)
  (h:∀ (h':Heap) (tk:Nat) (ps:List (List Int×Addr)),s.toks≤tk→SetX prog w h' s.heap.objs.size ps→(∀ l,l∈ps.map (·.1)↔l∈ks)→(∀ b o,s.heap.get? b=some o→h'.get? b=some o)→Q (.ref s.heap.objs.size) { s with heap:=h',toks:=tk }) :
  wpAny (model prog w) A (call (.type "set") [.ref l]) Q E s:=by
 obtain ⟨c,tl,mr⟩:=F.called_set.mro
 have md:=F.called_set.made
 have sb:=F.called_set.sub
 have c1:=F.called_set.notType
 have c2:=F.called_set.canCreate
 have c3:=F.typeCall_set_1 (.ref l)
 refine wpAny_call (codeAny_of_tree (show wpAny _ _ (callAny (.type "set") _) _ _ _ from wpAny_pure ⟨Code.quiet_builtin _ (by decide +kernel),codeAny_builtin F.entry_type_call ?_⟩))
 rw [Around.under_plain (weight_type_call_type "set" [.ref l] []) rfl]
 repeat (any_goals (first | assumption | wp_step))
 refine codeAny_mono (code_set_new_1 (.ref l) (E:=E) (Q₁:=fun v z=>∃ led,v=.ref s.heap.objs.size∧z={ s with heap:=s.heap.push (fresh led) }) fun led=>⟨led,rfl,rfl⟩) fun r z hr=>?_
 cases r with
 | error e=>exact hr
 | ok fl =>
  cases fl with
  | ret v =>
   obtain ⟨led,rfl,rfl⟩:=hr
   have gS:(s.heap.push (fresh led)).get? s.heap.objs.size=some (fresh led):=Heap.get?_push_size _ rfl
   have tS:Shared.TypeIs { s with heap:=s.heap.push (fresh led) } (.ref s.heap.objs.size) "set" := ⟨_,gS,rfl⟩
   have d1:=F.called_set.init.lookup
   have d2:=F.called_set.init.bind (.ref s.heap.objs.size)
   repeat (any_goals (first | assumption | wp_step))
   refine codeAny_mono (codeAny_call_builtin (R:=wants (fun v z=>v=.none∧∃ h' tk m,s.toks≤tk∧z={ s with heap:=h',toks:=tk }∧SetX prog w h' s.heap.objs.size m∧(∀ l,l∈m.map (·.1)↔l∈ks)∧∀ b o,s.heap.get? b=some o→h'.get? b=some o) E) F.called_set.init.plain F.entry_set_init (check_set_init_1 tS ?_)) fun r2 z2 hr2=>?_
   ·obtain ⟨ol,gl,lc,nl,ld⟩:=id hl
    obtain ⟨oc,od,oda,osl⟩:=ol
    simp only at lc ld
    subst lc ld
    have llt:=Heap.lt_size gl
    have gl1:(s.heap.push (fresh led)).get? l=some ⟨.type "list", od,.seq items nl,osl⟩:=Heap.get?_push_of_some _ gl
    have f1:=F.sub_list_set
    have f2:=F.sub_list_frozenset
    have f3:(Value.type "list" == Value.type "dict")=false:=by decide
    have hl1:(s.heap.push (fresh led)).IsList l items:=⟨_,gl1,rfl,nl,rfl⟩
    have sz:(s.heap.push (fresh led)).objs.size=s.heap.objs.size + 1:=Heap.size_push _ _
    unfold Builtin.«set.__init__» noKeywords Builtin.Frozenset.updateFrom
    generalize g:pyIter=it
    wp_walk
    subst g
    refine wpAny_pyIter_list hl1 (wpAny_bind (wpAny_runValue ?_))
    have kp:∀ b o,s.heap.get? b=some o→((s.heap.push (fresh led)).push { cls:=.type "list_iterator", data:=.fields #[.ref l,.int 0 0] }).get? b=some o:=fun b o e=>Heap.get?_push_of_some _ (Heap.get?_push_of_some _ e)
    refine upd_loopX (ks:=ks) (hks:=hks) (S:=s.heap.objs.size) (I:=(s.heap.push (fresh led)).objs.size) (l:=l) (items:=items) (Nat.ne_of_lt llt) (by rw [sz]; exact Nat.ne_of_lt (Nat.lt_succ_of_lt llt)) (by rw [sz]; exact Nat.ne_of_lt (Nat.lt_succ_self _)) (by simp [hh]) (by show A.units + 1 + 1 + 1 < _; lia) room (items.size - 0) 0 [] _ rfl (Nat.zero_le _) ⟨_,Heap.get?_push_size _ rfl,rfl,rfl⟩ (hl1.push _) (fresh_x (led:=led) (Heap.get?_push_of_some _ gS)) (Nat.le_refl _) (fun l=>by simp) (fun i v q=>?_) fun h' tk m ht up sw hm=>?_
    ·obtain ⟨b,l,e,e2,k⟩:=hv i v q
     exact ⟨b,l,e,e2,key_kept k fun o q=>kp b o q⟩
    ·refine wpAny_pure (show wpAny _ _ (ret Value.none) _ _ _ from wpAny_pure ⟨rfl,h',tk,m,ht,rfl,sw,hm,fun b o e=>?_⟩)
     have bl:=Heap.lt_size e
     exact up b o (Nat.ne_of_lt bl) (by rw [sz]; exact Nat.ne_of_lt (Nat.lt_succ_of_lt bl)) (kp b o e)
   ·cases r2 with
    | error e=>exact hr2
    | ok fl2 =>
     cases fl2 with
     | ret r =>
      obtain ⟨rfl,h',tk,m,ht,rfl,sw,hm,kp⟩:=hr2
      repeat (any_goals (first | assumption | wp_step))
      exact h _ _ _ ht sw hm kp
     | _=>exact hr2.elim
  | _=>exact hr.elim
theorem sub_len2 {α:Type} [DecidableEq α]:∀ {l m:List α},l.Nodup→(∀ x∈l,x∈m)→l.length≤m.length
 | [],m,_,_=>Nat.zero_le _
 | a :: l,m,hn,h=>by
  have ha:=h a List.mem_cons_self
  have ih:=sub_len2 (l:=l) (m:=m.erase a) (List.nodup_cons.mp hn).2 fun x hx=>(List.mem_erase_of_ne (fun e=>(List.nodup_cons.mp hn).1 (by rw [← e]; exact hx))).mpr (h x (List.mem_cons_of_mem _ hx))
  have e:=List.length_erase_of_mem ha
  have p:=List.length_pos_of_mem ha
  rw [List.length_cons]
  lia
theorem len_nodup {α:Type} [DecidableEq α] {ms ks:List α} (nd:ms.Nodup) (h:∀ l,l∈ms↔l∈ks):ms.length≤ks.length∧(ms.length=ks.length↔ks.Nodup):=by
 have le:=sub_len2 nd fun x hx=>(h x).mp hx
 refine ⟨le,fun e=>?_,fun k=>?_⟩
 ·exact (perm_of nd (fun x hx=>(h x).mp hx) (by lia)).nodup_iff.mpr nd
 ·have:=sub_len2 k fun x hx=>(h x).mpr hx
  lia
end
end Tab
namespace L2
open PySem PySem.Spec PyProof.Rows PySem.W
def tLenSetX (K:PySem.W.Frag) (ta:TA):TE:=fun σ H Q=>ta σ H fun vs H1=>∃ l xs ks,vs=[.ref l]∧SqL K H1 l xs∧xs.length≤75∧List.length (α:=List Int) ks=xs.length∧(∀ (i:Nat) (x:V),xs[i]?=some x→∃ (b:Addr) (ns:List Int),x=.ref b∧ks[i]?=some ns∧SqT K H1 b (ns.map V.int))∧∀ ms:List (List Int),ms.Nodup→(∀ l,l∈ms↔l∈ks)→Q (.int ms.length) H1
theorem pe_lensetX {X:Cx} {a:Expr} {ta:TA} {p p2 pos pos2:Pos} (hc:X.calm=true) (hu:X.A.units + 64 < cLine) (hg1:Gl X "len") (hm1:X.mg "len" = none) (hg2:Gl X "set") (hm2:X.mg "set" = none) (ha:PA X [a] ta)
  (hs:starEach [a] X.env=[(false,eval a X.env)]:=by rfl) (hs2:starEach [.Call (.Name "set" p2) [a] [] pos2] X.env=[(false,eval (.Call (.Name "set" p2) [a] [] pos2) X.env)]:=by rfl) :
  PE X (.Call (.Name "len" p) [.Call (.Name "set" p2) [a] [] pos2] [] pos) (tLenSetX X.K ta):=by
 intro pins s σ H Q I h
 refine wpAny_Call_Name_kw (ld_blt I hg1 hm1 PySem.boot_len (PyProof.Rows.callWith_builtin1 ?_ hs2 rfl))
 rw [hs2]
 show wpAny _ _ (spliced ((false,eval (.Call (.Name "set" p2) [a] [] pos2) X.env) :: backTo pos [])) _ _ s
 refine Calls.spliced_cons ?_
 refine wpAny_Call_Name_kw (ld_blt I hg2 hm2 (by decide +kernel:bootBuiltins "set" = some (.type "set")) (PyProof.Rows.callWith_type1 (thn (ha pos2 pins s σ H _ I h) fun us s1 ⟨vs,H1,I1,r1,q1⟩=>?_) hs rfl))
 obtain ⟨l,xs,ks,rfl,hq,hz,hkl,hx,q⟩:=q1
 obtain ⟨u,rfl,r⟩:=vals1 r1
 cases r
 obtain ⟨its,rv,pl,_⟩:=I1.list hq
 refine Tab.call_setX (ks:=ks) (I1.ok.hd hc) (by lia) pl.isList (fun i v hv=>?_) (by rw [List.size_toArray,← rv.length]; exact hz) (by rw [List.size_toArray,← rv.length]; exact hkl) fun h' tk ps ht sw hm kp=>?_
 ·obtain ⟨x,hxm,rx⟩:=rv.getR (show its[i]?=some v by simpa using hv)
  obtain ⟨b,ns,rfl,hk,hb⟩:=hx i x hxm
  cases rx
  obtain ⟨us,ru,⟨o,go,co,n,dd⟩,_⟩:=I1.tuple hb
  exact ⟨b,ns,rfl,hk,o,us.toArray,n,go,co,dd,by simpa using items_ints ru⟩
 ·obtain ⟨o,ep,t,ho,hex,hd,ok,_,_,_,nd⟩:=sw
  have he:(Tab.ents X.prog X.w ps).size=ps.length:=by simp [Tab.ents]
  have lp:ps.length≤ks.length:=by
   have:=Tab.sub_len2 nd fun l hl=>(hm l).mp hl
   rwa [List.length_map] at this
  refine Calls.spliced_nil ?_
  refine call_len_set ho hex hd (by rw [he]; exact ok.fits) (by rw [he]; lia) ?_
  rw [he]
  have qq:=q (ps.map (·.1)) nd hm
  rw [List.length_map] at qq
  exact ⟨.int ps.length,H1,I1.kept (t':=tk + 1 + 1) kp,⟨_,rfl⟩,qq⟩
end L2
namespace L3
open PySem L2
def uLenSetX (u:UE):UE:=fun ρ k=>u ρ fun d=>∃ ks:List (List Int),d=.lst (ks.map fun ns=>.tup (ns.map D.int))∧ks.length≤75∧∀ ms:List (List Int),ms.Nodup→(∀ l,l∈ms↔l∈ks)→k (.int ms.length)
theorem e_lenSetX {X:Cx} {a:Expr} {u:UE} {p p2 pos pos2:Pos} (hc:X.calm=true) (hu:X.A.units + 64 < cLine) (ha:PE3 X a u) (hg1:Gl X "len") (hm1:X.mg "len" = none) (hg2:Gl X "set") (hm2:X.mg "set" = none)
  (hs:starEach [a] X.env=[(false,eval a X.env)]:=by rfl) (hs2:starEach [.Call (.Name "set" p2) [a] [] pos2] X.env=[(false,eval (.Call (.Name "set" p2) [a] [] pos2) X.env)]:=by rfl) :
  PE3 X (.Call (.Name "len" p) [.Call (.Name "set" p2) [a] [] pos2] [] pos) (uLenSetX u):=by
 obtain ⟨_,h1,r1⟩:=ha
 refine ⟨_,pe_lensetX hc hu hg1 hm1 hg2 hm2 (pa_cons h1 pa_nil (by rw [hs]; rfl)) hs hs2,fun ρ k h R W B H σ Q e q=>?_⟩
 refine r1 ρ _ h R W B H σ _ e fun d v B1 H1 h1 e1 g1 rv=>?_
 obtain ⟨ks,rfl,hz,hk⟩:=h1
 obtain ⟨l,vs,rfl,hl,rs⟩:=rv.lstV
 have lv:vs.length=ks.length:=by rw [rs.length,List.length_map]
 refine ⟨l,vs,ks,rfl,SqL.of (e1.bh _ _ hl),by rw [lv]; exact hz,lv.symm,fun i x hi=>?_,fun ms nd hm=>q _ _ B1 H1 (hk ms nd hm) e1 g1 (.int _)⟩
 obtain ⟨d,hd,rd⟩:=rs.getV hi
 rw [List.getElem?_map] at hd
 cases q2:ks[i]? with
 | none=>rw [q2] at hd; cases hd
 | some ns =>
  rw [q2] at hd
  have hd:D.tup (ns.map D.int)=d:=Option.some.inj hd
  subst hd
  obtain ⟨b,ws,rfl,hb,rw2⟩:=rd.tupV
  exact ⟨b,ns,rfl,rfl,by rw [← allInts rw2]; exact SqT.of (e1.bh _ _ hb)⟩
end L3
namespace Tab
open PySem PySem.SetTable
instance (m:Nat):Decidable (Msk m):=by unfold Msk; infer_instance
end Tab
namespace Tab
open PySem PySem.SetTable
end Tab
namespace Tab
open PySem PySem.SetTable PyProof.Rows
end Tab
namespace Tab
open PySem PySem.SetTable
end Tab
namespace Tab
open PySem PySem.SetTable PyProof.Rows
end Tab
namespace Tab
open PySem PySem.SetTable PyProof.Rows L2 L3
end Tab
namespace Tab
open PySem PySem.SetTable
end Tab
namespace L3
open PySem PySem.Spec PyProof.Rows PySem.W L2
end L3
namespace Tab
open PySem PyProof.Rows L2 L3
end Tab
namespace Tab
open PySem PyProof.Rows L2 L3
end Tab
namespace L3
open PySem PySem.Spec PyProof.Rows PySem.W L2
end L3
namespace L3
open PySem PySem.Spec PyProof.Rows L2
end L3
namespace Cut
open PySem L2 L3
open PySem.Builtin.Int (intBits)
end Cut
namespace Tab
open PySem PySem.SetTable PyProof.Rows L2 PySem.W
end Tab
namespace L2
open PySem PySem.Spec PyProof.Rows PySem.W
end L2
namespace L3
open PySem L2
variable {X:Cx} {e:Expr} {u:UE} {p p2 pos pos2:Pos}
end L3
namespace Cut
open PySem L2 L3
open PySem.Builtin.Int (intBits)
end Cut
namespace Cut
open PySem L2 L3
open PySem.Builtin.Int (intBits)
end Cut
namespace Cut
open PySem L2 L3
open PySem.Builtin.Int (intBits)
end Cut
namespace L2
open PySem PySem.Spec PyProof.Rows PySem.W
variable {X:Cx}
end L2
namespace L3
open PySem L2
end L3
namespace Cut
open PySem L2 L3
open PySem.Builtin.Int (intBits)
end Cut
namespace Cut
open PySem L2 L3
open PySem.Builtin.Int (intBits)
end Cut
namespace Cut
open PySem L2 L3
open PySem.Builtin.Int (intBits)
end Cut
namespace Cut
open PySem L2 L3
open PySem.Builtin.Int (intBits)
end Cut
namespace L3
open PySem L2
end L3
namespace Cut
open PySem L2 L3
open PySem.Builtin.Int (intBits)
end Cut
namespace Cut
open PySem L2 L3
open PySem.Builtin.Int (intBits)
end Cut
namespace Cut
open PySem L2 L3
open PySem.Builtin.Int (intBits)
end Cut
namespace L3
open PySem L2
end L3
namespace Cut
open PySem L2 L3
open PySem.Builtin.Int (intBits)
end Cut
namespace Cut
open PySem L2 L3
open PySem.Builtin.Int (intBits)
end Cut
namespace Cut
open PySem L2 L3
open PySem.Builtin.Int (intBits)
end Cut
namespace Cut
open PySem L2 L3
end Cut
namespace L3
open PySem L2
end L3
namespace Cut
open PySem L2 L3
open PySem.Builtin.Int (intBits)
end Cut
namespace Cut
open PySem L2 L3
open PySem.Builtin.Int (intBits)
end Cut
namespace Cut
open PySem L2 L3
open PySem.Builtin.Int (intBits)
end Cut
namespace L3
open PySem L2
end L3
namespace L2
open PySem PySem.Spec PyProof.Rows PySem.W L3
end L2
namespace L3
open PySem L2
end L3
namespace Cut
open PySem L2 L3
open PySem.Builtin.Int (intBits)
end Cut
namespace Cut
open L2 L3
def tcB (p q r s:F2):Bool:=(onB p q r || (onB p q s || (onB r s p || onB r s q))) || (decide (sg (crF p q r) * sg (crF p q s) < 0) && decide (sg (crF r s p) * sg (crF r s q) < 0))
def rbB (p q r:F2):Bool:=onB p q r || onB q r p
def ckB (e f:F2×F2) (t:Bool):Bool:=if t && decide (e.2=f.1) then rbB e.1 e.2 f.2 else if t && decide (f.2=e.1) then rbB f.1 f.2 e.2 else tcB e.1 e.2 f.1 f.2
theorem hP_inj {n:Int} (h:0 < n) {p q:F2} (e:hP n p=hP n q):p=q:=by
 obtain ⟨a,b⟩:=npt_inj (x:=p.1) (y:=p.2) (x':=q.1) (y':=q.2) (Int.ne_of_gt h) (congrArg dP e)
 exact Prod.ext a b
theorem hP_iff {n:Int} (h:0 < n) {p q:F2}:(dP (hP n p)=dP (hP n q))↔p=q:=⟨fun e=>hP_inj h (dP_inj e),fun e=>by rw [e]⟩
theorem eqP {n:Int} (h:0 < n) (p q:F2):eqD (dP (hP n p)) (dP (hP n q))=decide (p=q):=by
 rw [Bool.eq_iff_iff,eqD_iff,decide_eq_true_iff,hP_iff h]
theorem sg_mulB (x y:Int):CMulB (sg x) (sg y):=by
 have b:∀ z:Int,PySem.Builtin.Int.intBits (sg z)≤9000:=fun z=>by
  rcases sg_cases z with e | e | e <;> rw [e] <;> decide
 exact ⟨b x,b y⟩
def idS (rs:RS):List (Nat×(F2×F2)):=(rs.zipIdx).flatMap fun x=>(zpF x.1).map fun e=>(x.2,e)
def apB (l:List (Nat×(F2×F2))):Bool:=decide (l.Pairwise fun a b=>ckB a.2 b.2 (decide (a.1=b.1))=false)
theorem idS_snoc (rs:RS) (ps:List F2):idS (rs ++ [ps])=idS rs ++ (zpF ps).map fun e=>(rs.length,e):=by
 unfold idS
 rw [List.zipIdx_append,List.flatMap_append]
 simp
theorem apB_pre {a b:List (Nat×(F2×F2))} (h:apB a=false):apB (a ++ b)=false:=by
 unfold apB at *
 rw [decide_eq_false_iff_not] at *
 exact fun z=>h (List.pairwise_append.mp z).1
theorem apB_snoc {a:List (Nat×(F2×F2))} {x:Nat×(F2×F2)}:apB (a ++ [x])=(apB a && !(a.any fun y=>ckB y.2 x.2 (decide (y.1=x.1)))):=by
 unfold apB
 rw [Bool.eq_iff_iff,decide_eq_true_iff,List.pairwise_append]
 simp
theorem idS_mem {rs:RS} {x:Nat×(F2×F2)} (h:x∈idS rs):∃ ps∈rs,x.2∈zpF ps:=by
 unfold idS at h
 obtain ⟨y,hy,h⟩:=List.mem_flatMap.mp h
 obtain ⟨e,he,rfl⟩:=List.mem_map.mp h
 refine ⟨y.1,?_,he⟩
 obtain ⟨_,_,q⟩:=List.mem_zipIdx (x:=y.1) (i:=y.2) hy
 rw [q]
 exact List.getElem_mem _
theorem area_neg {n:Int} (h:0 < n) {ps:List F2} {T:F2} (hT:IsF T (fsum (cyc (ps.map (hP n))))):(nrat (T.1 * 1) (T.2 * 2)).1 < 0↔tw ps < 0:=by
 have e:=due_is (f:=fun ps=>ps.map (hP n)) (rs:=[ps]) (T:=nrat (T.1 * 1) (T.2 * 2)) h (fun qs hq p hp=>by
  obtain ⟨q,_,rfl⟩:=List.mem_map.mp hp
  exact (npt_spec (Int.ne_of_gt h)).1.1) (fun qs hq=>area_handed h qs) (by
   rw [show ([ps].map fun ps=>ps.map (hP n)).flatMap cyc=cyc (ps.map (hP n)) by simp]
   exact hf_half hT)
 rw [show ([ps].map tw).sum=tw ps by simp] at e
 rw [e]
 have d:0 < 2 * n * n:=Int.mul_pos (Int.mul_pos (by decide) h) h
 obtain ⟨l,e1,_⟩:=nrat_spec (t:=tw ps) (b:=2 * n * n) (Int.ne_of_gt d)
 have lp:=l.1
 generalize (nrat (tw ps) (2 * n * n)).1=u at *
 generalize (nrat (tw ps) (2 * n * n)).2=v at *
 generalize 2 * n * n=w at *
 generalize tw ps=t at *
 constructor
 ·intro hu
  have a:=Int.mul_neg_of_neg_of_pos hu d
  rw [e1] at a
  exact Int.not_le.mp fun z=>absurd (Int.mul_nonneg z (Int.le_of_lt lp)) (Int.not_le.mpr a)
 ·intro ht
  have a:=Int.mul_neg_of_neg_of_pos ht lp
  rw [← e1] at a
  exact Int.not_le.mp fun z=>absurd (Int.mul_nonneg z (Int.le_of_lt d)) (Int.not_le.mpr a)
def inB (rs:RS) (p:F2):Bool:=xorL (rs.map fun ps=>xorL ((zpF ps).map (cR2 p)))
def rgB (rs:RS):Bool:=rs.zipIdx.all fun x=>decide (tw x.1 < 0) == inB (rs.take x.2 ++ rs.drop (x.2 + 1)) (x.1.headD (0,0))
def clB (rs:RS):Bool:=decide (rs.length≤8) && decide ((rs.map List.length).sum≤24) && (rs.all fun ps=>decide (3≤ps.length) && decide ps.Nodup) && apB (idS rs) && rgB rs
theorem sumN:∀ (rs:RS),(rs.map fun ps=>((ps.length:Nat):Int)).sum=(((rs.map List.length).sum:Nat):Int)
 | []=>rfl
 | ps :: rs=>by rw [List.map_cons,List.sum_cons,sumN rs,List.map_cons,List.sum_cons]; lia
theorem idS_len:∀ (rs:RS),(idS rs).length=(rs.map List.length).sum:=by
 intro rs
 have:∀ (rs:RS) (j:Nat),((rs.zipIdx j).flatMap fun x=>(zpF x.1).map fun e=>(x.2,e)).length=(rs.map List.length).sum:=by
  intro rs
  induction rs with
  | nil=>intro j; rfl
  | cons ps rs ih =>
   intro j
   rw [List.zipIdx_cons,List.flatMap_cons,List.length_append,ih,List.map_cons,List.sum_cons,List.length_map]
   dsimp only
   unfold zpF
   rw [List.length_zip,List.length_append,List.length_drop,List.length_take]
   lia
 exact this rs 0
end Cut
namespace Cut
open PySem L2 L3
abbrev l2F (p:F2):List Int:=[p.1,p.2]
def bq (f:List Int→List Int→Bool) (p q:F2):F2:=if f (l2F q) (l2F p)=true then q else p
theorem bestF {f:List Int→List Int→Bool} {ua ub:UE} {ρ:List Sl} {k:D→Prop} {p q:F2} (ha:∀ k:D→Prop,k (dR p)→ua ρ k) (hb:∀ k:D→Prop,k (dR q)→ub ρ k) (h:k (dR (bq f p q))):uBestX f ua ub ρ k:=by
 refine ha _ (hb _ ⟨l2F p,l2F q,rfl,rfl,rfl,?_⟩)
 unfold bq at h
 cases c:f (l2F q) (l2F p) with
 | true=>rw [c,if_pos rfl] at h; rw [if_pos rfl]; exact h
 | false=>rw [c,if_neg Bool.false_ne_true] at h; rw [if_neg Bool.false_ne_true]; exact h
theorem seq_best4X {n:Nat} {f g:List Int→List Int→Bool} {t:US} {U:UEnds} {ρ:List Sl} {i j l m:Nat} {a b c d:F2} (hi:ρ[i]?=some (.val (dR a))) (hj:ρ[j]?=some (.val (dR b))) (hl:ρ[l]?=some (.val (dR c))) (hm:ρ[m]?=some (.val (dR d))) (h:t U (ρ.set n (.val (dR (bq f (bq g a b) (bq g c d)))))) :
  uSeq (uSet n (uBestX f (uBestX g (uVar i) (uVar j)) (uBestX g (uVar l) (uVar m)))) t U ρ:=by
 show uBestX f (uBestX g (uVar i) (uVar j)) (uBestX g (uVar l) (uVar m)) ρ fun x=>t U (ρ.set n (.val x))
 refine bestF (p:=bq g a b) (q:=bq g c d) (fun _ k1=>?_) (fun _ k1=>?_) h
 ·exact bestF (p:=a) (q:=b) (fun _ k=>⟨_,hi,k⟩) (fun _ k=>⟨_,hj,k⟩) k1
 ·exact bestF (p:=c) (q:=d) (fun _ k=>⟨_,hl,k⟩) (fun _ k=>⟨_,hm,k⟩) k1
theorem chE_is {f g:Int→Int→Bool} {ρ:List Sl} {i m:Nat} {x z:Int} {k:D→Prop} (hi:ρ[i]?=some (.val (.int x))) (hm:ρ[m]?=some (.val (.int z))) (h:k (.bl (f 0 x && g x z))):uChainE f g (uC (.int 0)) (uVar i) (uVar m) ρ k:=by
 refine ⟨_,hi,0,x,rfl,rfl,?_⟩
 cases c:f 0 x with
 | true=>rw [c,Bool.true_and] at h; exact ⟨_,hm,z,rfl,h⟩
 | false=>rw [c,Bool.false_and] at h; exact h
theorem chE2_is {f g f' g':Int→Int→Bool} {ρ:List Sl} {i j m:Nat} {x y z:Int} {k:D→Prop} (hi:ρ[i]?=some (.val (.int x))) (hj:ρ[j]?=some (.val (.int y))) (hm:ρ[m]?=some (.val (.int z))) (h:k (.bl ((f 0 x && g x z) && (f' 0 y && g' y z)))) :
  uAndV (uChainE f g (uC (.int 0)) (uVar i) (uVar m)) (uChainE f' g' (uC (.int 0)) (uVar j) (uVar m)) ρ k:=by
 refine chE_is hi hm ⟨_,rfl,?_⟩
 cases c:(f 0 x && g x z) with
 | true=>rw [c,Bool.true_and] at h; exact chE_is hj hm h
 | false=>rw [c,Bool.false_and] at h; exact h
def inW (x w:Int):Bool:=decide (0≤x) && decide (x≤w)
def ltB (p q r s:F2):Bool :=
 let w:=(q.1 - p.1) * (s.2 - r.2) - (q.2 - p.2) * (s.1 - r.1)
 let f:=(r.1 - p.1) * (s.2 - r.2) - (r.2 - p.2) * (s.1 - r.1)
 let g:=(r.1 - p.1) * (q.2 - p.2) - (r.2 - p.2) * (q.1 - p.1)
 if w=0 then decide (crF p q r=0) && leQ (l2F (bq gtQ (bq ltQ p q) (bq ltQ r s))) (l2F (bq ltQ (bq gtQ p q) (bq gtQ r s)))
 else if w < 0 then inW (-f) (-w) && inW (-g) (-w) else inW f w && inW g w
def lbB (p q r:F2):Bool:=decide (crF p q r=0) && decide (0 < (p.1 - q.1) * (r.1 - q.1) + (p.2 - q.2) * (r.2 - q.2))
def rng (ps:List F2) (i:Int):F2:=(ps[(i % (ps.length:Int)).toNat]?).getD (0,0)
def nearB (n k j:Nat):Bool:=decide (((k:Int) - j) % n=1) || decide (((k:Int) - j) % n=n - 1)
def ltK (ps:List F2) (k j:Nat):Bool:=ltB (rng ps (k - 1)) (rng ps k) (rng ps (j - 1)) (rng ps j)
def smB (ps:List F2):Bool:=decide (3≤ps.length) && (decide ps.Nodup && (List.range ps.length).all fun k => !lbB (rng ps (k - 2)) (rng ps (k - 1)) (rng ps k) && (List.range k).all fun j=>nearB ps.length k j || !ltK ps k j)
theorem rng_at {ps:List F2} {i:Int} (h1 : -(ps.length:Int)≤i) (h2:i < ps.length):atI (ps.map dR) i=some (dR (rng ps i))∧rng ps i∈ps:=by
 have e:∃ j:Nat,ixN ps.length i=some j∧j < ps.length∧(i % (ps.length:Int)).toNat=j:=by
  unfold ixN
  by_cases h0:0≤i
  ·rw [if_pos h0,if_pos h2]
   exact ⟨_,rfl,by lia,by rw [Int.emod_eq_of_lt h0 h2]⟩
  ·rw [if_neg h0,if_pos h1]
   refine ⟨_,rfl,by lia,?_⟩
   rw [← Int.add_emod_right,Int.emod_eq_of_lt (by lia) (by lia)]
   try rfl
   try lia
 obtain ⟨j,e,hj,ej⟩:=e
 unfold rng atI
 rw [List.length_map,e,ej,List.getElem?_eq_getElem hj]
 refine ⟨?_,List.getElem_mem _⟩
 simp [hj]
end Cut
namespace Cut
open L2 L3
theorem sq_pos2 {x y:Int} (h:¬ (x=0∧y=0)):0 < x * x + y * y:=by
 have hx:0≤x * x:=(Int.le_total 0 x).elim (fun a=>Int.mul_nonneg a a) (fun a=>Int.mul_nonneg_of_nonpos_of_nonpos a a)
 have hy:0≤y * y:=(Int.le_total 0 y).elim (fun a=>Int.mul_nonneg a a) (fun a=>Int.mul_nonneg_of_nonpos_of_nonpos a a)
 rcases Int.lt_or_eq_of_le hx with a | a
 ·lia
 ·rcases Int.lt_or_eq_of_le hy with b | b
  ·lia
  ·exact absurd ⟨by rcases Int.mul_eq_zero.mp a.symm with z | z <;> exact z,by rcases Int.mul_eq_zero.mp b.symm with z | z <;> exact z⟩ h
theorem sign_le {x y g w:Int} (hg:0 < g) (hw:0 < w) (h:x * g=y * w):x≤0↔y≤0:=by
 constructor
 ·intro a
  refine Int.not_lt.mp fun b=>?_
  have h1:=Int.mul_pos b hw
  have h2:=Int.mul_nonpos_of_nonpos_of_nonneg a (Int.le_of_lt hg)
  lia
 ·intro a
  refine Int.not_lt.mp fun b=>?_
  have h1:=Int.mul_pos b hg
  have h2:=Int.mul_nonpos_of_nonpos_of_nonneg a (Int.le_of_lt hw)
  lia
theorem back_eq {p q r:F2} (h1:p≠q) (h2:q≠r):rbB p q r=lbB p q r:=by
 obtain ⟨p1,p2⟩:=p
 obtain ⟨q1,q2⟩:=q
 obtain ⟨r1,r2⟩:=r
 have hu:0 < (p1 - q1) * (p1 - q1) + (p2 - q2) * (p2 - q2):=sq_pos2 fun z=>h1 (by rw [show p1=q1 by lia,show p2=q2 by lia])
 have hv:0 < (r1 - q1) * (r1 - q1) + (r2 - q2) * (r2 - q2):=sq_pos2 fun z=>h2 (by rw [show q1=r1 by lia,show q2=r2 by lia])
 unfold rbB lbB onB crF
 dsimp only
 have e1:(q1 - p1) * (r2 - p2) - (q2 - p2) * (r1 - p1)=(r1 - q1) * (p2 - q2) - (r2 - q2) * (p1 - q1):=by grind
 have e2:(p1 - r1) * (q1 - r1) + (p2 - r2) * (q2 - r2)=((r1 - q1) * (r1 - q1) + (r2 - q2) * (r2 - q2)) - ((p1 - q1) * (r1 - q1) + (p2 - q2) * (r2 - q2)):=by grind
 have e3:(q1 - p1) * (r1 - p1) + (q2 - p2) * (r2 - p2)=((p1 - q1) * (p1 - q1) + (p2 - q2) * (p2 - q2)) - ((p1 - q1) * (r1 - q1) + (p2 - q2) * (r2 - q2)):=by grind
 have lg:((p1 - q1) * (r1 - q1) + (p2 - q2) * (r2 - q2)) * ((p1 - q1) * (r1 - q1) + (p2 - q2) * (r2 - q2)) + ((r1 - q1) * (p2 - q2) - (r2 - q2) * (p1 - q1)) * ((r1 - q1) * (p2 - q2) - (r2 - q2) * (p1 - q1))=((p1 - q1) * (p1 - q1) + (p2 - q2) * (p2 - q2)) * ((r1 - q1) * (r1 - q1) + (r2 - q2) * (r2 - q2)):=by grind
 rw [e1,e2,e3]
 generalize (r1 - q1) * (p2 - q2) - (r2 - q2) * (p1 - q1)=c at *
 generalize (p1 - q1) * (r1 - q1) + (p2 - q2) * (r2 - q2)=d at *
 generalize (p1 - q1) * (p1 - q1) + (p2 - q2) * (p2 - q2)=u at *
 generalize (r1 - q1) * (r1 - q1) + (r2 - q2) * (r2 - q2)=v at *
 by_cases c0:c=0
 ·subst c0
  rw [Bool.eq_iff_iff]
  simp only [decide_true,Bool.true_and,Bool.or_eq_true,decide_eq_true_iff]
  constructor
  ·intro h; lia
  ·intro h
   refine Classical.byContradiction fun n=>?_
   have a1:d + 1≤u:=by lia
   have a2:d + 1≤v:=by lia
   have:=Int.mul_le_mul a1 a2 (by lia) (by lia)
   grind
 ·simp [c0]
theorem on_sign {u1 u2 v1 v2 m1 m2:Int} (z:u1 * v2 - u2 * v1=0) (w0:(v1 - u1) * m2 - (v2 - u2) * m1≠0):u1 * v1 + u2 * v2≤0↔(m1 * u2 - m2 * u1) * (m1 * v2 - m2 * v1)≤0:=by
 have hg:0 < (v1 - u1) * (v1 - u1) + (v2 - u2) * (v2 - u2):=sq_pos2 fun z=>w0 (by rw [z.1,z.2]; simp)
 have hw:0 < ((v1 - u1) * m2 - (v2 - u2) * m1) * ((v1 - u1) * m2 - (v2 - u2) * m1):=by
  have:=sq_pos2 (x:=(v1 - u1) * m2 - (v2 - u2) * m1) (y:=0) fun z=>w0 z.1
  rwa [Int.mul_zero,Int.add_zero] at this
 refine (sign_le hg hw ?_).symm
 grind
theorem sg_prod {x y:Int}:sg x * sg y < 0↔x * y < 0:=sg_mul_neg
theorem le_split {x y:Int}:x * y≤0↔x * y < 0∨x=0∨y=0:=by
 constructor
 ·intro h
  rcases Int.lt_or_eq_of_le h with h | h
  ·exact .inl h
  ·exact .inr (Int.mul_eq_zero.mp h)
 ·rintro (h | rfl | rfl)
  ·lia
  ·simp
  ·simp
theorem touch_ne {p q r s:F2} (w0:(q.1 - p.1) * (s.2 - r.2) - (q.2 - p.2) * (s.1 - r.1)≠0):tcB p q r s=true↔(crF p q r * crF p q s≤0∧crF r s p * crF r s q≤0):=by
 obtain ⟨p1,p2⟩:=p
 obtain ⟨q1,q2⟩:=q
 obtain ⟨r1,r2⟩:=r
 obtain ⟨s1,s2⟩:=s
 dsimp only at w0
 have ha:crF (p1,p2) (q1,q2) (r1,r2)=0→((p1 - r1) * (q1 - r1) + (p2 - r2) * (q2 - r2)≤0↔crF (r1,r2) (s1,s2) (p1,p2) * crF (r1,r2) (s1,s2) (q1,q2)≤0):=fun z=>by
  have h:=on_sign (u1:=p1 - r1) (u2:=p2 - r2) (v1:=q1 - r1) (v2:=q2 - r2) (m1:=s1 - r1) (m2:=s2 - r2) (by unfold crF at z; dsimp only at z; grind) (by grind)
  exact h
 have hb:crF (p1,p2) (q1,q2) (s1,s2)=0→((p1 - s1) * (q1 - s1) + (p2 - s2) * (q2 - s2)≤0↔crF (r1,r2) (s1,s2) (p1,p2) * crF (r1,r2) (s1,s2) (q1,q2)≤0):=fun z=>by
  have h:=on_sign (u1:=p1 - s1) (u2:=p2 - s2) (v1:=q1 - s1) (v2:=q2 - s2) (m1:=s1 - r1) (m2:=s2 - r2) (by unfold crF at z; dsimp only at z; grind) (by grind)
  rw [h]
  unfold crF
  dsimp only
  rw [show (s1 - r1) * (p2 - s2) - (s2 - r2) * (p1 - s1)=(s1 - r1) * (p2 - r2) - (s2 - r2) * (p1 - r1) by grind,show (s1 - r1) * (q2 - s2) - (s2 - r2) * (q1 - s1)=(s1 - r1) * (q2 - r2) - (s2 - r2) * (q1 - r1) by grind]
 have hc:crF (r1,r2) (s1,s2) (p1,p2)=0→((r1 - p1) * (s1 - p1) + (r2 - p2) * (s2 - p2)≤0↔crF (p1,p2) (q1,q2) (r1,r2) * crF (p1,p2) (q1,q2) (s1,s2)≤0):=fun z=>by
  have h:=on_sign (u1:=r1 - p1) (u2:=r2 - p2) (v1:=s1 - p1) (v2:=s2 - p2) (m1:=q1 - p1) (m2:=q2 - p2) (by unfold crF at z; dsimp only at z; grind) (by grind)
  exact h
 have hd:crF (r1,r2) (s1,s2) (q1,q2)=0→((r1 - q1) * (s1 - q1) + (r2 - q2) * (s2 - q2)≤0↔crF (p1,p2) (q1,q2) (r1,r2) * crF (p1,p2) (q1,q2) (s1,s2)≤0):=fun z=>by
  have h:=on_sign (u1:=r1 - q1) (u2:=r2 - q2) (v1:=s1 - q1) (v2:=s2 - q2) (m1:=q1 - p1) (m2:=q2 - p2) (by unfold crF at z; dsimp only at z; grind) (by grind)
  rw [h]
  unfold crF
  dsimp only
  rw [show (q1 - p1) * (r2 - q2) - (q2 - p2) * (r1 - q1)=(q1 - p1) * (r2 - p2) - (q2 - p2) * (r1 - p1) by grind,show (q1 - p1) * (s2 - q2) - (q2 - p2) * (s1 - q1)=(q1 - p1) * (s2 - p2) - (q2 - p2) * (s1 - p1) by grind]
 unfold tcB onB
 simp only [Bool.or_eq_true,Bool.and_eq_true,decide_eq_true_iff,sg_prod]
 generalize crF (p1,p2) (q1,q2) (r1,r2)=a at *
 generalize crF (p1,p2) (q1,q2) (s1,s2)=b at *
 generalize crF (r1,r2) (s1,s2) (p1,p2)=c at *
 generalize crF (r1,r2) (s1,s2) (q1,q2)=d at *
 have sab:=le_split (x:=a) (y:=b)
 have scd:=le_split (x:=c) (y:=d)
 constructor
 ·rintro ((⟨z,h⟩ | ⟨z,h⟩ | ⟨z,h⟩ | ⟨z,h⟩) | ⟨h,h'⟩)
  ·exact ⟨sab.mpr (.inr (.inl z)),(ha z).mp h⟩
  ·exact ⟨sab.mpr (.inr (.inr z)),(hb z).mp h⟩
  ·exact ⟨(hc z).mp h,scd.mpr (.inr (.inl z))⟩
  ·exact ⟨(hd z).mp h,scd.mpr (.inr (.inr z))⟩
  ·exact ⟨sab.mpr (.inl h),scd.mpr (.inl h')⟩
 ·rintro ⟨h,h'⟩
  rcases sab.mp h with x | x | x
  ·rcases scd.mp h' with y | y | y
   ·exact .inr ⟨x,y⟩
   ·exact .inl (.inr (.inr (.inl ⟨y,(hc y).mpr h⟩)))
   ·exact .inl (.inr (.inr (.inr ⟨y,(hd y).mpr h⟩)))
  ·exact .inl (.inl ⟨x,(ha x).mpr h'⟩)
  ·exact .inl (.inr (.inl ⟨x,(hb x).mpr h'⟩))
theorem opp_in {x w:Int} (h:0 < w):x * (x - w)≤0↔0≤x∧x≤w:=by
 constructor
 ·intro n
  refine ⟨Int.not_lt.mp fun a=>?_,Int.not_lt.mp fun a=>?_⟩
  ·have:=Int.mul_pos_of_neg_of_neg a (show x - w < 0 by lia)
   lia
  ·have:=Int.mul_pos (show 0 < x by lia) (show 0 < x - w by lia)
   lia
 ·rintro ⟨a,b⟩
  exact Int.mul_nonpos_of_nonneg_of_nonpos a (by lia)
theorem touch_eqN {p q r s:F2} (w0:(q.1 - p.1) * (s.2 - r.2) - (q.2 - p.2) * (s.1 - r.1)≠0):tcB p q r s=ltB p q r s:=by
 rw [Bool.eq_iff_iff,touch_ne w0]
 obtain ⟨p1,p2⟩:=p
 obtain ⟨q1,q2⟩:=q
 obtain ⟨r1,r2⟩:=r
 obtain ⟨s1,s2⟩:=s
 unfold ltB
 dsimp only at w0 ⊢
 rw [if_neg w0]
 have ea:crF (p1,p2) (q1,q2) (r1,r2) = -((r1 - p1) * (q2 - p2) - (r2 - p2) * (q1 - p1)):=by unfold crF; dsimp only; grind
 have eb:crF (p1,p2) (q1,q2) (s1,s2)=((q1 - p1) * (s2 - r2) - (q2 - p2) * (s1 - r1)) - ((r1 - p1) * (q2 - p2) - (r2 - p2) * (q1 - p1)):=by unfold crF; dsimp only; grind
 have ec:crF (r1,r2) (s1,s2) (p1,p2)=(r1 - p1) * (s2 - r2) - (r2 - p2) * (s1 - r1):=by unfold crF; dsimp only; grind
 have ed:crF (r1,r2) (s1,s2) (q1,q2)=((r1 - p1) * (s2 - r2) - (r2 - p2) * (s1 - r1)) - ((q1 - p1) * (s2 - r2) - (q2 - p2) * (s1 - r1)):=by unfold crF; dsimp only; grind
 rw [ea,eb,ec,ed]
 generalize (q1 - p1) * (s2 - r2) - (q2 - p2) * (s1 - r1)=w at *
 generalize (r1 - p1) * (s2 - r2) - (r2 - p2) * (s1 - r1)=f at *
 generalize (r1 - p1) * (q2 - p2) - (r2 - p2) * (q1 - p1)=g at *
 unfold inW
 by_cases w1:w < 0
 ·rw [if_pos w1]
  simp only [Bool.and_eq_true,decide_eq_true_iff]
  have h1:=opp_in (x := -g) (w := -w) (by lia)
  have h2:=opp_in (x := -f) (w := -w) (by lia)
  rw [show -g * (w - g) = -g * (-g - -w) by grind,h1,show f * (f - w) = -f * (-f - -w) by grind,h2]
  exact And.comm
 ·rw [if_neg w1]
  simp only [Bool.and_eq_true,decide_eq_true_iff]
  have h1:=opp_in (x:=g) (w:=w) (by lia)
  have h2:=opp_in (x:=f) (w:=w) (by lia)
  rw [show -g * (w - g)=g * (g - w) by grind,h1,h2]
  exact And.comm
theorem ltQ_iff (p q:F2):ltQ (l2F p) (l2F q)=true↔p.1 < q.1∨(p.1=q.1∧p.2 < q.2):=by
 simp only [ltQ,HT.lexQ,l2F]
 by_cases h:p.1=q.1
 ·rw [if_pos h]
  by_cases h2:p.2=q.2
  ·rw [if_pos h2]
   exact ⟨fun e=>absurd e Bool.false_ne_true,fun _=>by lia⟩
  ·rw [if_neg h2,decide_eq_true_iff]
   lia
 ·rw [if_neg h,decide_eq_true_iff]
  lia
theorem gtQ_iff (p q:F2):gtQ (l2F p) (l2F q)=true↔q.1 < p.1∨(p.1=q.1∧q.2 < p.2):=by
 simp only [gtQ,HT.lexQ,l2F]
 by_cases h:p.1=q.1
 ·rw [if_pos h]
  by_cases h2:p.2=q.2
  ·rw [if_pos h2]
   exact ⟨fun e=>absurd e Bool.false_ne_true,fun _=>by lia⟩
  ·rw [if_neg h2,decide_eq_true_iff]
   lia
 ·rw [if_neg h,decide_eq_true_iff]
  lia
theorem mn_spec (p q:F2):(bq ltQ p q=p∨bq ltQ p q=q)∧(bq ltQ p q).1≤p.1∧(bq ltQ p q).1≤q.1∧(p.1=q.1→(bq ltQ p q).2≤p.2∧(bq ltQ p q).2≤q.2):=by
 have e:=ltQ_iff q p
 by_cases h:ltQ (l2F q) (l2F p)=true
 ·rw [bq,if_pos h]
  have e:=e.mp h
  exact ⟨.inr rfl,by lia,by lia,fun _=>⟨by lia,by lia⟩⟩
 ·rw [bq,if_neg h]
  have e:=mt e.mpr h
  exact ⟨.inl rfl,by lia,by lia,fun _=>⟨by lia,by lia⟩⟩
theorem mx_spec (p q:F2):(bq gtQ p q=p∨bq gtQ p q=q)∧p.1≤(bq gtQ p q).1∧q.1≤(bq gtQ p q).1∧(p.1=q.1→p.2≤(bq gtQ p q).2∧q.2≤(bq gtQ p q).2):=by
 have e:=gtQ_iff q p
 by_cases h:gtQ (l2F q) (l2F p)=true
 ·rw [bq,if_pos h]
  have e:=e.mp h
  exact ⟨.inr rfl,by lia,by lia,fun _=>⟨by lia,by lia⟩⟩
 ·rw [bq,if_neg h]
  have e:=mt e.mpr h
  exact ⟨.inl rfl,by lia,by lia,fun _=>⟨by lia,by lia⟩⟩
theorem leQ_iff (p q:F2):leQ (l2F p) (l2F q)=true↔p.1 < q.1∨(p.1=q.1∧p.2≤q.2):=by
 simp only [leQ,HT.lexQ,l2F]
 by_cases h:p.1=q.1
 ·rw [if_pos h]
  by_cases h2:p.2=q.2
  ·rw [if_pos h2]
   exact ⟨fun _=>.inr ⟨h,by lia⟩,fun _=>rfl⟩
  ·rw [if_neg h2,decide_eq_true_iff]
   lia
 ·rw [if_neg h,decide_eq_true_iff]
  lia
theorem le0_iff {x y:Int}:x * y≤0↔(x≤0∧0≤y)∨(0≤x∧y≤0):=by
 constructor
 ·intro n
  refine Classical.byContradiction fun h=>?_
  rcases Int.lt_trichotomy x 0 with a | a | a
  ·have:=Int.mul_pos_of_neg_of_neg a (show y < 0 by lia); lia
  ·lia
  ·have:=Int.mul_pos a (show 0 < y by lia); lia
 ·rintro (⟨a,b⟩ | ⟨a,b⟩)
  ·exact Int.mul_nonpos_of_nonpos_of_nonneg a b
  ·exact Int.mul_nonpos_of_nonneg_of_nonpos a b
theorem on_x {u1 u2 v1 v2:Int} (z:u1 * v2 - u2 * v1=0) (n:u1≠v1):u1 * v1 + u2 * v2≤0↔(u1≤0∧0≤v1)∨(0≤u1∧v1≤0):=by
 rw [← le0_iff]
 have hg:0 < (v1 - u1) * (v1 - u1) + 0 * 0:=sq_pos2 fun z=>n (by lia)
 have hw:0 < (v1 - u1) * (v1 - u1) + (v2 - u2) * (v2 - u2):=sq_pos2 fun z=>n (by lia)
 refine sign_le hg hw ?_
 grind
theorem touch_eqZ {p q r s:F2} (h1:p≠q) (h2:r≠s) (w0:(q.1 - p.1) * (s.2 - r.2) - (q.2 - p.2) * (s.1 - r.1)=0):tcB p q r s=ltB p q r s:=by
 have eb:crF p q s=crF p q r:=by unfold crF; grind
 have st:decide (sg (crF p q r) * sg (crF p q s) < 0)=false:=by
  rw [eb]
  refine decide_eq_false fun z=>?_
  rcases sg_cases (crF p q r) with e | e | e <;> rw [e] at z <;> lia
 have elt:ltB p q r s=(decide (crF p q r=0) && leQ (l2F (bq gtQ (bq ltQ p q) (bq ltQ r s))) (l2F (bq ltQ (bq gtQ p q) (bq gtQ r s)))):=by
  unfold ltB
  dsimp only
  rw [if_pos w0]
 unfold tcB
 rw [st,Bool.false_and,Bool.or_false,elt]
 by_cases a0:crF p q r=0
 ·rw [decide_eq_true a0,Bool.true_and,Bool.eq_iff_iff,leQ_iff]
  have b0:crF p q s=0:=eb.trans a0
  obtain ⟨mo,m1,m2,m3⟩:=mn_spec p q
  obtain ⟨no,n1,n2,n3⟩:=mn_spec r s
  obtain ⟨uo,u1,u2,u3⟩:=mx_spec p q
  obtain ⟨vo,v1,v2,v3⟩:=mx_spec r s
  obtain ⟨lo,l1,l2,l3⟩:=mx_spec (bq ltQ p q) (bq ltQ r s)
  obtain ⟨ho,k1,k2,k3⟩:=mn_spec (bq gtQ p q) (bq gtQ r s)
  generalize bq gtQ (bq ltQ p q) (bq ltQ r s)=l at *
  generalize bq ltQ (bq gtQ p q) (bq gtQ r s)=h at *
  generalize bq ltQ p q=m at *
  generalize bq ltQ r s=n at *
  generalize bq gtQ p q=u at *
  generalize bq gtQ r s=v at *
  by_cases g0:p.1=q.1
  ·-- upright
   have g2:q.2 - p.2≠0:=fun z=>h1 (Prod.ext g0 (by lia))
   have rx:r.1=p.1:=by
    unfold crF at a0
    have:(q.2 - p.2) * (r.1 - p.1)=0:=by rw [← g0] at a0; grind
    rcases Int.mul_eq_zero.mp this with z | z
    ·exact absurd z g2
    ·lia
   have sx:s.1=p.1:=by
    unfold crF at b0
    have:(q.2 - p.2) * (s.1 - p.1)=0:=by rw [← g0] at b0; grind
    rcases Int.mul_eq_zero.mp this with z | z
    ·exact absurd z g2
    ·lia
   have c0:crF r s p=0:=by unfold crF; rw [rx,sx]; grind
   have d0:crF r s q=0:=by unfold crF; rw [rx,sx,← g0]; grind
   have on:∀ a b c:F2,a.1=c.1→((a.1 - c.1) * (b.1 - c.1) + (a.2 - c.2) * (b.2 - c.2)≤0↔(a.2≤c.2∧c.2≤b.2)∨(c.2≤a.2∧b.2≤c.2)):=fun a b c e=>by
    rw [e,Int.sub_self,Int.zero_mul,Int.zero_add,le0_iff]
    lia
   unfold onB
   rw [decide_eq_true a0,decide_eq_true b0,decide_eq_true c0,decide_eq_true d0]
   simp only [Bool.true_and,Bool.or_eq_true,decide_eq_true_iff]
   rw [on p q r (by lia),on p q s (by lia),on r s p (by lia),on r s q (by lia)]
   have m3:=m3 g0
   have n3:=n3 (by lia)
   have u3:=u3 g0
   have v3:=v3 (by lia)
   rcases mo with rfl | rfl <;> rcases no with rfl | rfl <;> rcases uo with rfl | rfl <;> rcases vo with rfl | rfl <;> rcases lo with rfl | rfl <;> rcases ho with rfl | rfl <;> omega (config:={})
  ·have gx:q.1 - p.1≠0:=by lia
   have at0:∀ a b:F2,crF p q a=0→crF p q b=0→a.1=b.1→a.2=b.2:=fun a b ha hb e=>by
    unfold crF at ha hb
    have:(q.1 - p.1) * (a.2 - b.2)=0:=by rw [e] at ha; grind
    rcases Int.mul_eq_zero.mp this with z | z
    ·exact absurd z gx
    ·lia
   have pp:crF p q p=0:=by unfold crF; grind
   have pq:crF p q q=0:=by unfold crF; grind
   have rs1:r.1≠s.1:=fun e=>h2 (Prod.ext e (at0 r s a0 b0 e))
   have c0:crF r s p=0:=by
    unfold crF at *
    have:(q.1 - p.1) * ((s.1 - r.1) * (p.2 - r.2) - (s.2 - r.2) * (p.1 - r.1))=0:=by grind
    rcases Int.mul_eq_zero.mp this with z | z
    ·exact absurd z gx
    ·exact z
   have d0:crF r s q=0:=by
    unfold crF at *
    have:(q.1 - p.1) * ((s.1 - r.1) * (q.2 - r.2) - (s.2 - r.2) * (q.1 - r.1))=0:=by grind
    rcases Int.mul_eq_zero.mp this with z | z
    ·exact absurd z gx
    ·exact z
   have on:∀ a b c:F2,crF a b c=0→a.1≠b.1→((a.1 - c.1) * (b.1 - c.1) + (a.2 - c.2) * (b.2 - c.2)≤0↔(a.1 - c.1≤0∧0≤b.1 - c.1)∨(0≤a.1 - c.1∧b.1 - c.1≤0)):=fun a b c e n=>on_x (by unfold crF at e; grind) (by lia)
   have lon:crF p q l=0:=by
    rcases lo with e | e <;> rw [e]
    ·rcases mo with e | e <;> rw [e] <;> assumption
    ·rcases no with e | e <;> rw [e] <;> assumption
   have hon:crF p q h=0:=by
    rcases ho with e | e <;> rw [e]
    ·rcases uo with e | e <;> rw [e] <;> assumption
    ·rcases vo with e | e <;> rw [e] <;> assumption
   have same:=at0 l h lon hon
   unfold onB
   rw [decide_eq_true a0,decide_eq_true b0,decide_eq_true c0,decide_eq_true d0]
   simp only [Bool.true_and,Bool.or_eq_true,decide_eq_true_iff]
   rw [on p q r a0 g0,on p q s b0 g0,on r s p c0 rs1,on r s q d0 rs1]
   clear at0 on lon hon a0 b0 c0 d0 pp pq gx st elt eb w0 h1 h2 m3 n3 u3 v3 l3 k3
   have lo:l.1=m.1∨l.1=n.1:=lo.imp (fun e=>by rw [e]) (fun e=>by rw [e])
   have ho:h.1=u.1∨h.1=v.1:=ho.imp (fun e=>by rw [e]) (fun e=>by rw [e])
   have mo:m.1=p.1∨m.1=q.1:=mo.imp (fun e=>by rw [e]) (fun e=>by rw [e])
   have no:n.1=r.1∨n.1=s.1:=no.imp (fun e=>by rw [e]) (fun e=>by rw [e])
   have uo:u.1=p.1∨u.1=q.1:=uo.imp (fun e=>by rw [e]) (fun e=>by rw [e])
   have vo:v.1=r.1∨v.1=s.1:=vo.imp (fun e=>by rw [e]) (fun e=>by rw [e])
   constructor
   ·intro hh
    have:l.1≤h.1:=by omega (config:={})
    rcases Int.lt_or_eq_of_le this with z | z
    ·exact .inl z
    ·exact .inr ⟨z,Int.le_of_eq (same z)⟩
   ·intro hh
    have:l.1≤h.1:=by rcases hh with z | z <;> lia
    omega (config:={})
 ·rw [decide_eq_false a0,Bool.false_and]
  have nb:¬ crF p q s=0:=by rw [eb]; exact a0
  have way:∀ c d:Int,(s.1 - r.1) * (c - r.2) - (s.2 - r.2) * (d - r.1)=0→(c=p.2∧d=p.1∨c=q.2∧d=q.1)→False:=fun c d z hcd=>by
   have wn:¬ (s.1 - r.1=0∧s.2 - r.2=0):=fun z=>h2 (Prod.ext (by lia) (by lia))
   have gn:¬ (q.1 - p.1=0∧q.2 - p.2=0):=fun z=>h1 (Prod.ext (by lia) (by lia))
   unfold crF at a0
   have x1:(s.1 - r.1) * ((q.1 - p.1) * (r.2 - p.2) - (q.2 - p.2) * (r.1 - p.1))=0:=by rcases hcd with ⟨rfl,rfl⟩ | ⟨rfl,rfl⟩ <;> grind
   have x2:(s.2 - r.2) * ((q.1 - p.1) * (r.2 - p.2) - (q.2 - p.2) * (r.1 - p.1))=0:=by rcases hcd with ⟨rfl,rfl⟩ | ⟨rfl,rfl⟩ <;> grind
   rcases Int.mul_eq_zero.mp x1 with z1 | z1
   ·rcases Int.mul_eq_zero.mp x2 with z2 | z2
    ·exact wn ⟨z1,z2⟩
    ·exact a0 z2
   ·exact a0 z1
  have nc:¬ crF r s p=0:=fun z=>way p.2 p.1 z (.inl ⟨rfl,rfl⟩)
  have ndd:¬ crF r s q=0:=fun z=>way q.2 q.1 z (.inr ⟨rfl,rfl⟩)
  unfold onB
  rw [decide_eq_false a0,decide_eq_false nb,decide_eq_false nc,decide_eq_false ndd]
  rfl
theorem touch_eq {p q r s:F2} (h1:p≠q) (h2:r≠s):tcB p q r s=ltB p q r s:=by
 by_cases w0:(q.1 - p.1) * (s.2 - r.2) - (q.2 - p.2) * (s.1 - r.1)=0
 ·exact touch_eqZ h1 h2 w0
 ·exact touch_eqN w0
end Cut
namespace Cut
open L2 L3
theorem rng_mod (ps:List F2) (i:Int):rng ps (i % (ps.length:Int))=rng ps i:=by
 unfold rng
 rw [Int.emod_emod]
theorem rng_get {ps:List F2} {i:Nat} (h:i < ps.length):rng ps i=ps[i]:=by
 unfold rng
 rw [Int.emod_eq_of_lt (by lia) (by lia),show ((i:Nat):Int).toNat=i by lia,List.getElem?_eq_getElem h]
 rfl
theorem nd_inj {ps:List F2} (nd:ps.Nodup) {i j:Nat} (hi:i < ps.length) (hj:j < ps.length) (e:ps[i]=ps[j]):i=j:=by
 have h:=List.pairwise_iff_getElem.mp nd
 rcases Nat.lt_trichotomy i j with a | a | a
 ·exact absurd e (h i j hi hj a)
 ·exact a
 ·exact absurd e.symm (h j i hj hi a)
theorem rng_inj {ps:List F2} (nd:ps.Nodup) (h0:0 < ps.length) {i j:Int}:rng ps i=rng ps j↔i % (ps.length:Int)=j % (ps.length:Int):=by
 constructor
 ·intro e
  rw [← rng_mod ps i,← rng_mod ps j] at e
  have a1:=Int.emod_nonneg i (show (ps.length:Int)≠0 by lia)
  have a2:=Int.emod_lt_of_pos i (show 0 < (ps.length:Int) by lia)
  have b1:=Int.emod_nonneg j (show (ps.length:Int)≠0 by lia)
  have b2:=Int.emod_lt_of_pos j (show 0 < (ps.length:Int) by lia)
  generalize i % (ps.length:Int)=x at *
  generalize j % (ps.length:Int)=y at *
  obtain ⟨x,rfl⟩:=Int.eq_ofNat_of_zero_le a1
  obtain ⟨y,rfl⟩:=Int.eq_ofNat_of_zero_le b1
  rw [rng_get (by lia),rng_get (by lia)] at e
  exact congrArg _ (nd_inj nd (by lia) (by lia) e)
 ·intro e
  rw [← rng_mod ps i,← rng_mod ps j,e]
theorem zpF_len (ps:List F2):(zpF ps).length=ps.length:=by
 unfold zpF
 rw [List.length_zip,List.length_append,List.length_drop,List.length_take]
 lia
theorem zpF_get {ps:List F2} {i:Nat} (h:i < ps.length):(zpF ps)[i]'(by rw [zpF_len]; exact h)=(rng ps i,rng ps (i + 1)):=by
 unfold zpF
 rw [List.getElem_zip,rng_get h]
 refine Prod.ext rfl ?_
 show (ps.drop 1 ++ ps.take 1)[i]'_=rng ps (i + 1)
 by_cases c:i + 1 < ps.length
 ·rw [show ((i:Nat):Int) + 1=((i + 1:Nat):Int) by lia,rng_get c,List.getElem_append_left (by rw [List.length_drop]; lia),List.getElem_drop]
  congr 1
  lia
 ·have e:i + 1=ps.length:=by lia
  rw [← rng_mod,show (((i:Nat):Int) + 1)=(ps.length:Int) by lia,Int.emod_self,List.getElem_append_right (by rw [List.length_drop]; lia),List.getElem_take]
  have z:=rng_get (ps:=ps) (i:=0) (by lia)
  rw [show (0:Int)=((0:Nat):Int) from rfl,z]
  congr 1
  rw [List.length_drop]
  lia
theorem tc_comm (p q r s:F2):tcB p q r s=tcB r s p q:=by
 unfold tcB
 cases onB p q r <;> cases onB p q s <;> cases onB r s p <;> cases onB r s q <;> simp [Bool.and_comm]
def Simp (ps:List F2):Prop:=(∀ i:Int,rbB (rng ps i) (rng ps (i + 1)) (rng ps (i + 2))=false) ∧
 ∀ i j:Int,i % (ps.length:Int)≠j % (ps.length:Int)→(i + 1) % (ps.length:Int)≠j % (ps.length:Int)→(j + 1) % (ps.length:Int)≠i % (ps.length:Int)→tcB (rng ps i) (rng ps (i + 1)) (rng ps j) (rng ps (j + 1))=false
theorem apB_one (ps:List F2):apB (idS [ps])=true↔∀ i j:Nat,i < j→j < ps.length→ckB (rng ps i,rng ps (i + 1)) (rng ps j,rng ps (j + 1)) true=false:=by
 have e:idS [ps]=(zpF ps).map fun e=>(0,e):=by unfold idS; simp
 unfold apB
 rw [decide_eq_true_iff,e,List.pairwise_map,List.pairwise_iff_getElem]
 constructor
 ·intro h i j a b
  have:=h i j (by rw [zpF_len]; lia) (by rw [zpF_len]; lia) a
  rw [zpF_get (by lia),zpF_get b] at this
  simpa using this
 ·intro h i j hi hj a
  rw [zpF_len] at hi hj
  rw [zpF_get hi,zpF_get hj]
  simpa using h i j a hj
theorem ap_simp {ps:List F2} (l3:3≤ps.length) (nd:ps.Nodup):apB (idS [ps])=true↔Simp ps:=by
 rw [apB_one]
 have inj:=fun i j:Int=>rng_inj nd (show 0 < ps.length by lia) (i:=i) (j:=j)
 have md:∀ i:Int,0≤i % (ps.length:Int)∧i % (ps.length:Int) < ps.length:=fun i=>⟨Int.emod_nonneg i (by lia),Int.emod_lt_of_pos i (by lia)⟩
 have ml:∀ x:Int,0≤x→x < ps.length→x % (ps.length:Int)=x:=fun x a b=>Int.emod_eq_of_lt a b
 have mself:(ps.length:Int) % (ps.length:Int)=0:=Int.emod_self
 have shift:∀ i k:Int,rng ps (i % (ps.length:Int) + k)=rng ps (i + k):=fun i k=>by
  rw [← rng_mod ps (i % (ps.length:Int) + k),← rng_mod ps (i + k),Int.emod_add_emod]
 constructor
 ·intro h
  have bk:∀ i:Nat,i < ps.length→rbB (rng ps i) (rng ps (i + 1)) (rng ps (i + 2))=false:=fun i hi=>by
   by_cases c:i + 1 < ps.length
   ·have:=h i (i + 1) (by lia) c
    unfold ckB at this
    rw [if_pos (by simp)] at this
    have e:((i + 1:Nat):Int) + 1=(i:Int) + 2:=by lia
    rw [e] at this
    exact this
   ·have:=h 0 i (by lia) hi
    have e:(i:Int) + 1=ps.length:=by lia
    unfold ckB at this
    rw [if_neg (by
     rw [Bool.true_and,decide_eq_true_iff]
     show ¬ rng ps (0 + 1)=rng ps i
     rw [inj,ml _ (by lia) (by lia),ml _ (by lia) (by lia)]
     lia),if_pos (by
     rw [Bool.true_and,decide_eq_true_iff]
     show rng ps (i + 1)=rng ps 0
     rw [inj,e,mself,ml _ (by lia) (by lia)])] at this
    have e2:rng ps ((i:Int) + 2)=rng ps (0 + 1):=by
     rw [inj,show (i:Int) + 2=1 + ps.length by lia,Int.add_emod_right]
     rfl
    rw [e2]
    exact this
  have tc:∀ i j:Nat,i < j→j < ps.length→i + 1≠j→¬ (i=0∧j + 1=ps.length)→tcB (rng ps i) (rng ps (i + 1)) (rng ps j) (rng ps (j + 1))=false:=fun i j a b c d=>by
   have:=h i j a b
   unfold ckB at this
   rwa [if_neg (by
    rw [Bool.true_and,decide_eq_true_iff]
    show ¬ rng ps (i + 1)=rng ps j
    rw [inj,ml _ (by lia) (by lia),ml _ (by lia) (by lia)]
    lia),if_neg (by
    rw [Bool.true_and,decide_eq_true_iff]
    show ¬ rng ps (j + 1)=rng ps i
    rw [inj]
    by_cases z:j + 1=ps.length
    ·rw [show (j:Int) + 1=ps.length by lia,mself,ml _ (by lia) (by lia)]
     lia
    ·rw [ml _ (by lia) (by lia),ml _ (by lia) (by lia)]
     lia)] at this
  refine ⟨fun i=>?_,fun i j n1 n2 n3=>?_⟩
  ·obtain ⟨a,b⟩:=md i
   have:=bk (i % (ps.length:Int)).toNat (by lia)
   rw [show (((i % (ps.length:Int)).toNat:Nat):Int)=i % (ps.length:Int) by lia,shift,shift,rng_mod] at this
   exact this
  ·obtain ⟨a,b⟩:=md i
   obtain ⟨c,d⟩:=md j
   have ei:=shift i 1
   have ej:=shift j 1
   rw [← rng_mod ps i,← rng_mod ps j,← ei,← ej]
   rw [← Int.emod_add_emod] at n2 n3
   generalize i % (ps.length:Int)=x at *
   generalize j % (ps.length:Int)=y at *
   obtain ⟨x,rfl⟩:=Int.eq_ofNat_of_zero_le a
   obtain ⟨y,rfl⟩:=Int.eq_ofNat_of_zero_le c
   rcases Nat.lt_trichotomy x y with z | z | z
   ·refine tc x y z (by lia) (fun e=>n2 ?_) (fun e=>n3 ?_)
    ·rw [show (x:Int) + 1=y by lia]; exact ml _ c d
    ·rw [show (y:Int) + 1=ps.length by lia,mself]; lia
   ·exact absurd (by rw [z]) n1
   ·rw [tc_comm]
    refine tc y x z (by lia) (fun e=>n3 ?_) (fun e=>n2 ?_)
    ·rw [show (y:Int) + 1=x by lia]; exact ml _ a b
    ·rw [show (x:Int) + 1=ps.length by lia,mself]; lia
 ·rintro ⟨bk,tc⟩ i j hij hj
  unfold ckB
  by_cases c:i + 1=j
  ·rw [if_pos (by
    rw [Bool.true_and,decide_eq_true_iff]
    show rng ps (i + 1)=rng ps j
    rw [show (i:Int) + 1=(j:Int) by lia])]
   have:=bk i
   show rbB (rng ps i) (rng ps (i + 1)) (rng ps (j + 1))=false
   rw [show (j:Int) + 1=i + 2 by lia]
   exact this
  ·rw [if_neg (by
    rw [Bool.true_and,decide_eq_true_iff]
    show ¬ rng ps (i + 1)=rng ps j
    rw [inj,ml _ (by lia) (by lia),ml _ (by lia) (by lia)]
    lia)]
   by_cases d:i=0∧j + 1=ps.length
   ·obtain ⟨rfl,d⟩:=d
    rw [if_pos (by
     rw [Bool.true_and,decide_eq_true_iff]
     show rng ps (j + 1)=rng ps (0:Nat)
     rw [inj,show (j:Int) + 1=ps.length by lia,mself,ml _ (by lia) (by lia)]
     rfl)]
    have:=bk j
    show rbB (rng ps j) (rng ps (j + 1)) (rng ps ((0:Nat) + 1))=false
    rw [show rng ps (((0:Nat):Int) + 1)=rng ps ((j:Int) + 2) by
     rw [inj,show (j:Int) + 2=1 + ps.length by lia,Int.add_emod_right]
     rfl]
    exact this
   ·rw [if_neg (by
     rw [Bool.true_and,decide_eq_true_iff]
     show ¬ rng ps (j + 1)=rng ps i
     rw [inj]
     by_cases z:j + 1=ps.length
     ·rw [show (j:Int) + 1=ps.length by lia,mself,ml _ (by lia) (by lia)]
      lia
     ·rw [ml _ (by lia) (by lia),ml _ (by lia) (by lia)]
      lia)]
    refine tc i j ?_ ?_ ?_
    ·rw [ml _ (by lia) (by lia),ml _ (by lia) (by lia)]; lia
    ·rw [ml _ (by lia) (by lia),ml _ (by lia) (by lia)]; lia
    ·by_cases z:j + 1=ps.length
     ·rw [show (j:Int) + 1=ps.length by lia,mself,ml _ (by lia) (by lia)]
      lia
     ·rw [ml _ (by lia) (by lia),ml _ (by lia) (by lia)]
      lia
end Cut
namespace Cut
open L2 L3
theorem sm_simp (ps:List F2):smB ps=true↔3≤ps.length∧ps.Nodup∧Simp ps:=by
 unfold smB
 rw [Bool.and_eq_true,Bool.and_eq_true,decide_eq_true_iff,decide_eq_true_iff]
 refine and_congr_right fun l3=>and_congr_right fun nd=>?_
 have inj:=fun i j:Int=>rng_inj nd (show 0 < ps.length by lia) (i:=i) (j:=j)
 have md:∀ i:Int,0≤i % (ps.length:Int)∧i % (ps.length:Int) < ps.length:=fun i=>⟨Int.emod_nonneg i (by lia),Int.emod_lt_of_pos i (by lia)⟩
 have ml:∀ x:Int,0≤x→x < ps.length→x % (ps.length:Int)=x:=fun x a b=>Int.emod_eq_of_lt a b
 have m1:(-1:Int) % (ps.length:Int)=ps.length - 1:=by
  rw [← Int.add_emod_right,ml _ (by lia) (by lia)]
  lia
 have shift:∀ i k:Int,rng ps (i % (ps.length:Int) + k)=rng ps (i + k):=fun i k=>by
  rw [← rng_mod ps (i % (ps.length:Int) + k),← rng_mod ps (i + k),Int.emod_add_emod]
 have ne:∀ i:Int,rng ps i≠rng ps (i + 1):=fun i e=>by
  rw [inj,← Int.emod_add_emod] at e
  obtain ⟨a,b⟩:=md i
  generalize i % (ps.length:Int)=x at *
  by_cases c:x + 1=ps.length
  ·rw [c,Int.emod_self] at e; lia
  ·rw [ml _ (by lia) (by lia)] at e; lia
 have near:∀ k j:Nat,j < k→k < ps.length→(nearB ps.length k j=true↔k=j + 1∨k - j + 1=ps.length):=fun k j a b=>by
  unfold nearB
  rw [Bool.or_eq_true,decide_eq_true_iff,decide_eq_true_iff,ml _ (by lia) (by lia)]
  lia
 have tK:∀ k j:Nat,ltK ps k j=tcB (rng ps ((k:Int) - 1)) (rng ps k) (rng ps ((j:Int) - 1)) (rng ps j):=fun k j=>by
  unfold ltK
  refine (touch_eq ?_ ?_).symm
  ·have:=ne ((k:Int) - 1)
   rwa [Int.sub_add_cancel] at this
  ·have:=ne ((j:Int) - 1)
   rwa [Int.sub_add_cancel] at this
 constructor
 ·intro h
  have h1:∀ k:Nat,k < ps.length→lbB (rng ps ((k:Int) - 2)) (rng ps ((k:Int) - 1)) (rng ps k)=false∧∀ j:Nat,j < k→nearB ps.length k j=false→ltK ps k j=false:=fun k hk=>by
   have:=List.all_eq_true.mp h k (List.mem_range.mpr hk)
   rw [Bool.and_eq_true,Bool.not_eq_true'] at this
   refine ⟨this.1,fun j hj nr=>?_⟩
   have:=List.all_eq_true.mp this.2 j (List.mem_range.mpr hj)
   rwa [nr,Bool.false_or,Bool.not_eq_true'] at this
  have tc:∀ k j:Nat,j < k→k < ps.length→k≠j + 1→k - j + 1≠ps.length→tcB (rng ps ((k:Int) - 1)) (rng ps k) (rng ps ((j:Int) - 1)) (rng ps j)=false:=fun k j a b c d=>by
   rw [← tK]
   refine (h1 k b).2 j a ?_
   rw [Bool.eq_false_iff]
   intro z
   rcases (near k j a b).mp z with z | z
   ·exact c z
   ·exact d z
  refine ⟨fun i=>?_,fun i j n1 n2 n3=>?_⟩
  ·rw [back_eq (ne i) (by have:=ne (i + 1); rwa [Int.add_assoc] at this)]
   obtain ⟨a,b⟩:=md (i + 2)
   have:=(h1 ((i + 2) % (ps.length:Int)).toNat (by lia)).1
   rw [show ((((i + 2) % (ps.length:Int)).toNat:Nat):Int)=(i + 2) % (ps.length:Int) by lia,Int.sub_eq_add_neg,Int.sub_eq_add_neg,shift,shift,rng_mod,show i + 2 + -2=i by lia,show i + 2 + -1=i + 1 by lia] at this
   exact this
  ·obtain ⟨a,b⟩:=md (i + 1)
   obtain ⟨c,d⟩:=md (j + 1)
   have ei:rng ps ((i + 1) % (ps.length:Int) + -1)=rng ps i:=by rw [shift]; congr 1; lia
   have ej:rng ps ((j + 1) % (ps.length:Int) + -1)=rng ps j:=by rw [shift]; congr 1; lia
   have fi:((i + 1) % (ps.length:Int) + -1) % (ps.length:Int)=i % (ps.length:Int):=by rw [Int.emod_add_emod]; congr 1; lia
   have fj:((j + 1) % (ps.length:Int) + -1) % (ps.length:Int)=j % (ps.length:Int):=by rw [Int.emod_add_emod]; congr 1; lia
   rw [← ei,← ej,← rng_mod ps (i + 1),← rng_mod ps (j + 1)]
   rw [← fi,← fj] at n1
   rw [← fj] at n2
   rw [← fi] at n3
   generalize (i + 1) % (ps.length:Int)=x at *
   generalize (j + 1) % (ps.length:Int)=y at *
   obtain ⟨x,rfl⟩:=Int.eq_ofNat_of_zero_le a
   obtain ⟨y,rfl⟩:=Int.eq_ofNat_of_zero_le c
   rcases Nat.lt_trichotomy x y with z | z | z
   ·rw [tc_comm]
    refine tc y x z (by lia) (fun e=>n2 ?_) (fun e=>n3 ?_)
    ·rw [ml _ (by lia) (by lia)]; lia
    ·rw [show x=0 by lia,show ((0:Nat):Int) + -1 = -1 from rfl,m1]; lia
   ·exact absurd (by rw [z]) n1
   ·refine tc x y z (by lia) (fun e=>n3 ?_) (fun e=>n2 ?_)
    ·rw [ml _ (by lia) (by lia)]; lia
    ·rw [show y=0 by lia,show ((0:Nat):Int) + -1 = -1 from rfl,m1]; lia
 ·rintro ⟨bk,tc⟩
  refine List.all_eq_true.mpr fun k hk=>?_
  have hk:=List.mem_range.mp hk
  rw [Bool.and_eq_true,Bool.not_eq_true']
  constructor
  ·have:=bk ((k:Int) - 2)
   have e1:(k:Int) - 2 + 1=k - 1:=by lia
   have e2:(k:Int) - 2 + 2=k:=by lia
   rw [e1,e2] at this
   rwa [← back_eq (by have:=ne ((k:Int) - 2); rwa [e1] at this) (by have:=ne ((k:Int) - 1); rwa [Int.sub_add_cancel] at this)]
  ·refine List.all_eq_true.mpr fun j hj=>?_
   have hj:=List.mem_range.mp hj
   have nr:=near k j hj hk
   cases c:nearB ps.length k j with
   | true=>rfl
   | false =>
    rw [Bool.false_or,Bool.not_eq_true',tK]
    rw [c] at nr
    have nr:¬ (k=j + 1∨k - j + 1=ps.length):=fun z=>Bool.false_ne_true (nr.mpr z)
    have:=tc ((k:Int) - 1) ((j:Int) - 1)
    rw [Int.sub_add_cancel,Int.sub_add_cancel] at this
    have ek:((k:Int) - 1) % (ps.length:Int)=k - 1:=ml _ (by lia) (by lia)
    have mk:(k:Int) % (ps.length:Int)=k:=ml _ (by lia) (by lia)
    have mj:(j:Int) % (ps.length:Int)=j:=ml _ (by lia) (by lia)
    rw [ek,mk,mj] at this
    by_cases j0:j=0
    ·subst j0
     rw [show ((0:Nat):Int) - 1 = -1 from rfl,m1] at this
     exact this (by lia) (by lia) (by lia)
    ·rw [ml ((j:Int) - 1) (by lia) (by lia)] at this
     exact this (by lia) (by lia) (by lia)
end Cut
namespace Cut
open L2 L3
theorem mix_le {a b:Int} {μ:Rat} (h0:0≤μ) (h1:μ≤1) (h:(1 - μ) * (a:Rat) + μ * (b:Rat)=0):a * b≤0:=by
 refine Int.not_lt.mp fun p=>?_
 have m1:0≤1 - μ:=by grind
 have key:∀ c d:Int,1≤c→1≤d→(1 - μ) * (c:Rat) + μ * (d:Rat)=0→False:=fun c d hc hd e=>by
  have c1:(1:Rat)≤(c:Rat):=by exact_mod_cast hc
  have d1:(1:Rat)≤(d:Rat):=by exact_mod_cast hd
  have x1:0≤(1 - μ) * ((c:Rat) - 1):=Rat.mul_nonneg m1 (by grind)
  have x2:0≤μ * ((d:Rat) - 1):=Rat.mul_nonneg h0 (by grind)
  grind
 rcases Int.lt_trichotomy a 0 with z | z | z
 ·have zb:b < 0:=Int.not_le.mp fun n=>by
   have:=Int.mul_nonpos_of_nonpos_of_nonneg (Int.le_of_lt z) n
   lia
  refine key (-a) (-b) (by lia) (by lia) ?_
  rw [Rat.intCast_neg,Rat.intCast_neg]
  grind
 ·rw [z,Int.zero_mul] at p
  lia
 ·have zb:0 < b:=Int.not_le.mp fun n=>by
   have:=Int.mul_nonpos_of_nonneg_of_nonpos (Int.le_of_lt z) n
   lia
  exact key a b (by lia) (by lia) h
def onR (p q:F2) (t:Rat):Rat×Rat:=((p.1:Rat) + t * ((q.1:Rat) - p.1),(p.2:Rat) + t * ((q.2:Rat) - p.2))
theorem meet_touchN {p q r s:F2} (w0:(q.1 - p.1) * (s.2 - r.2) - (q.2 - p.2) * (s.1 - r.1)≠0) {t u:Rat} (t0:0≤t) (t1:t≤1) (u0:0≤u) (u1:u≤1) (e:onR p q t=onR r s u):tcB p q r s=true:=by
 obtain ⟨p1,p2⟩:=p
 obtain ⟨q1,q2⟩:=q
 obtain ⟨r1,r2⟩:=r
 obtain ⟨s1,s2⟩:=s
 unfold onR at e
 obtain ⟨e1,e2⟩:=Prod.mk.inj e
 dsimp only at e1 e2
 refine (touch_ne w0).mpr ⟨mix_le u0 u1 ?_,mix_le t0 t1 ?_⟩
 ·unfold crF
  dsimp only
  simp only [Rat.intCast_sub,Rat.intCast_mul]
  grind
 ·unfold crF
  dsimp only
  simp only [Rat.intCast_sub,Rat.intCast_mul]
  grind
theorem btw {a b c d:Int} {t u:Rat} (t0:0≤t) (t1:t≤1) (u0:0≤u) (u1:u≤1) (h:(a:Rat) + t * ((b:Rat) - a)=(c:Rat) + u * ((d:Rat) - c)):a≤c∨a≤d∨b≤c∨b≤d:=by
 refine Classical.byContradiction fun n=>?_
 have key:∀ K:Int,K + 1≤a→K + 1≤b→c≤K→d≤K→False:=fun K h1 h2 h3 h4=>by
  have r1:(K:Rat) + 1≤a:=by exact_mod_cast h1
  have r2:(K:Rat) + 1≤b:=by exact_mod_cast h2
  have r3:(c:Rat)≤K:=by exact_mod_cast h3
  have r4:(d:Rat)≤K:=by exact_mod_cast h4
  have x1:0≤(1 - t) * ((a:Rat) - (K + 1)):=Rat.mul_nonneg (by grind) (by grind)
  have x2:0≤t * ((b:Rat) - (K + 1)):=Rat.mul_nonneg t0 (by grind)
  have x3:0≤(1 - u) * ((K:Rat) - c):=Rat.mul_nonneg (by grind) (by grind)
  have x4:0≤u * ((K:Rat) - d):=Rat.mul_nonneg u0 (by grind)
  grind
 rcases Int.le_total c d with z | z
 ·exact key d (by lia) (by lia) z (Int.le_refl d)
 ·exact key c (by lia) (by lia) (Int.le_refl c) z
theorem meet_touchZ {p q r s:F2} (h1:p≠q) (h2:r≠s) (w0:(q.1 - p.1) * (s.2 - r.2) - (q.2 - p.2) * (s.1 - r.1)=0) {t u:Rat} (t0:0≤t) (t1:t≤1) (u0:0≤u) (u1:u≤1) (e:onR p q t=onR r s u):tcB p q r s=true:=by
 unfold onR at e
 obtain ⟨e1,e2⟩:=Prod.mk.inj e
 have eb:crF p q s=crF p q r:=by unfold crF; grind
 have a0:crF p q r=0:=by
  have x:((crF p q r:Int):Rat)=0:=by
   have y:(1 - u) * ((crF p q r:Int):Rat) + u * ((crF p q s:Int):Rat)=0:=by
    unfold crF
    simp only [Rat.intCast_sub,Rat.intCast_mul]
    grind
   rw [eb] at y
   grind
  exact_mod_cast x
 have b0:crF p q s=0:=eb.trans a0
 rw [touch_eqZ h1 h2 w0]
 unfold ltB
 dsimp only
 rw [if_pos w0,decide_eq_true a0,Bool.true_and,leQ_iff]
 have x1:=btw t0 t1 u0 u1 e1
 have x2:=btw u0 u1 t0 t1 e1.symm
 have y1:=btw t0 t1 u0 u1 e2
 have y2:=btw u0 u1 t0 t1 e2.symm
 obtain ⟨mo,m1,m2,m3⟩:=mn_spec p q
 obtain ⟨no,n1,n2,n3⟩:=mn_spec r s
 obtain ⟨uo,u1,u2,u3⟩:=mx_spec p q
 obtain ⟨vo,v1,v2,v3⟩:=mx_spec r s
 obtain ⟨lo,l1,l2,l3⟩:=mx_spec (bq ltQ p q) (bq ltQ r s)
 obtain ⟨ho,k1,k2,k3⟩:=mn_spec (bq gtQ p q) (bq gtQ r s)
 generalize bq gtQ (bq ltQ p q) (bq ltQ r s)=l at *
 generalize bq ltQ (bq gtQ p q) (bq gtQ r s)=h at *
 generalize bq ltQ p q=m at *
 generalize bq ltQ r s=n at *
 generalize bq gtQ p q=g at *
 generalize bq gtQ r s=v at *
 by_cases g0:p.1=q.1
 ·have g2:q.2 - p.2≠0:=fun z=>h1 (Prod.ext g0 (by lia))
  have at1:∀ a:F2,crF p q a=0→a.1=p.1:=fun a ha=>by
   unfold crF at ha
   have:(q.2 - p.2) * (a.1 - p.1)=0:=by rw [← g0] at ha; grind
   rcases Int.mul_eq_zero.mp this with z | z
   ·exact absurd z g2
   ·lia
  have rx:=at1 r a0
  have sx:=at1 s b0
  have m3:=m3 g0
  have n3:=n3 (by lia)
  have u3:=u3 g0
  have v3:=v3 (by lia)
  clear at1 e e1 e2 l3 k3 w0 eb a0 b0 h1 h2
  rcases mo with rfl | rfl <;> rcases no with rfl | rfl <;> rcases uo with rfl | rfl <;> rcases vo with rfl | rfl <;> rcases lo with rfl | rfl <;> rcases ho with rfl | rfl <;> lia
 ·have gx:q.1 - p.1≠0:=by lia
  have at0:∀ a b:F2,crF p q a=0→crF p q b=0→a.1=b.1→a.2=b.2:=fun a b ha hb e=>by
   unfold crF at ha hb
   have:(q.1 - p.1) * (a.2 - b.2)=0:=by rw [e] at ha; grind
   rcases Int.mul_eq_zero.mp this with z | z
   ·exact absurd z gx
   ·lia
  have pp:crF p q p=0:=by unfold crF; grind
  have pq:crF p q q=0:=by unfold crF; grind
  have lon:crF p q l=0:=by
   rcases lo with e | e <;> rw [e]
   ·rcases mo with e | e <;> rw [e] <;> assumption
   ·rcases no with e | e <;> rw [e] <;> assumption
  have hon:crF p q h=0:=by
   rcases ho with e | e <;> rw [e]
   ·rcases uo with e | e <;> rw [e] <;> assumption
   ·rcases vo with e | e <;> rw [e] <;> assumption
  have same:=at0 l h lon hon
  have lo:l.1=m.1∨l.1=n.1:=lo.imp (fun e=>by rw [e]) (fun e=>by rw [e])
  have ho:h.1=g.1∨h.1=v.1:=ho.imp (fun e=>by rw [e]) (fun e=>by rw [e])
  have mo:m.1=p.1∨m.1=q.1:=mo.imp (fun e=>by rw [e]) (fun e=>by rw [e])
  have no:n.1=r.1∨n.1=s.1:=no.imp (fun e=>by rw [e]) (fun e=>by rw [e])
  have uo:g.1=p.1∨g.1=q.1:=uo.imp (fun e=>by rw [e]) (fun e=>by rw [e])
  have vo:v.1=r.1∨v.1=s.1:=vo.imp (fun e=>by rw [e]) (fun e=>by rw [e])
  clear at0 lon hon pp pq e e1 e2 l3 k3 w0 eb a0 b0 h1 h2 m3 n3 u3 v3 y1 y2
  have:l.1≤h.1:=by lia
  rcases Int.lt_or_eq_of_le this with z | z
  ·exact .inl z
  ·exact .inr ⟨z,Int.le_of_eq (same z)⟩
theorem no_meet {p q r s:F2} (h1:p≠q) (h2:r≠s) (h:tcB p q r s=false) {t u:Rat} (t0:0≤t) (t1:t≤1) (u0:0≤u) (u1:u≤1):onR p q t≠onR r s u:=fun e=>by
 by_cases w0:(q.1 - p.1) * (s.2 - r.2) - (q.2 - p.2) * (s.1 - r.1)=0
 ·rw [meet_touchZ h1 h2 w0 t0 t1 u0 u1 e] at h; cases h
 ·rw [meet_touchN w0 t0 t1 u0 u1 e] at h; cases h
theorem no_back {p q r:F2} (h1:p≠q) (h2:q≠r) (h:rbB p q r=false) {t u:Rat} (t1:t≤1) (u0:0≤u) (e:onR p q t=onR q r u):t=1∧u=0:=by
 rw [back_eq h1 h2] at h
 obtain ⟨p1,p2⟩:=p
 obtain ⟨q1,q2⟩:=q
 obtain ⟨r1,r2⟩:=r
 unfold onR at e
 obtain ⟨e1,e2⟩:=Prod.mk.inj e
 dsimp only at e1 e2
 have hu:0 < (p1 - q1) * (p1 - q1) + (p2 - q2) * (p2 - q2):=sq_pos2 fun z=>h1 (by rw [show p1=q1 by lia,show p2=q2 by lia])
 have hv:0 < (r1 - q1) * (r1 - q1) + (r2 - q2) * (r2 - q2):=sq_pos2 fun z=>h2 (by rw [show q1=r1 by lia,show q2=r2 by lia])
 have hu':(0:Rat) < ((p1:Rat) - q1) * ((p1:Rat) - q1) + ((p2:Rat) - q2) * ((p2:Rat) - q2):=by exact_mod_cast hu
 have hv':(0:Rat) < ((r1:Rat) - q1) * ((r1:Rat) - q1) + ((r2:Rat) - q2) * ((r2:Rat) - q2):=by exact_mod_cast hv
 have f1:(1 - t) * ((p1:Rat) - q1)=u * ((r1:Rat) - q1):=by grind
 have f2:(1 - t) * ((p2:Rat) - q2)=u * ((r2:Rat) - q2):=by grind
 have g1:(1 - t) * (((p1:Rat) - q1) * ((p1:Rat) - q1) + ((p2:Rat) - q2) * ((p2:Rat) - q2))=u * (((p1:Rat) - q1) * ((r1:Rat) - q1) + ((p2:Rat) - q2) * ((r2:Rat) - q2)):=by grind
 have g2:(1 - t) * (((p1:Rat) - q1) * ((r1:Rat) - q1) + ((p2:Rat) - q2) * ((r2:Rat) - q2))=u * (((r1:Rat) - q1) * ((r1:Rat) - q1) + ((r2:Rat) - q2) * ((r2:Rat) - q2)):=by grind
 have g3:(1 - t) * (((q1:Rat) - p1) * ((r2:Rat) - p2) - ((q2:Rat) - p2) * ((r1:Rat) - p1))=0:=by grind
 by_cases c:u=0
 ·subst c
  rw [Rat.zero_mul] at g1
  rcases Rat.mul_eq_zero.mp g1 with z | z
  ·exact ⟨by grind,rfl⟩
  ·grind
 ·exfalso
  have up:0 < u:=by grind
  have x:0 < u * (((r1:Rat) - q1) * ((r1:Rat) - q1) + ((r2:Rat) - q2) * ((r2:Rat) - q2)):=Rat.mul_pos up hv'
  rw [← g2] at x
  have tp:0 < 1 - t:=by
   refine Classical.byContradiction fun n=>?_
   have:1 - t=0:=by grind
   rw [this,Rat.zero_mul] at x
   grind
  have dp:0 < ((p1:Rat) - q1) * ((r1:Rat) - q1) + ((p2:Rat) - q2) * ((r2:Rat) - q2):=by
   refine Classical.byContradiction fun n=>?_
   have y:0≤(1 - t) * (-(((p1:Rat) - q1) * ((r1:Rat) - q1) + ((p2:Rat) - q2) * ((r2:Rat) - q2))):=Rat.mul_nonneg (by grind) (by grind)
   grind
  have dI:0 < (p1 - q1) * (r1 - q1) + (p2 - q2) * (r2 - q2):=by exact_mod_cast dp
  have cI:(q1 - p1) * (r2 - p2) - (q2 - p2) * (r1 - p1)=0:=by
   rcases Rat.mul_eq_zero.mp g3 with z | z
   ·rw [z] at tp; exact absurd tp (by grind)
   ·exact_mod_cast z
  unfold lbB crF at h
  dsimp only at h
  rw [decide_eq_true cI,decide_eq_true dI] at h
  cases h
end Cut
namespace Cut
open L2 L3
def sdR (ps:List F2) (i:Int) (t:Rat):Rat×Rat:=onR (rng ps i) (rng ps (i + 1)) t
theorem rng_same {ps:List F2} {i j:Int} (k:Int) (h:i % (ps.length:Int)=j % (ps.length:Int)):rng ps (i + k)=rng ps (j + k):=by
 rw [← rng_mod ps (i + k),← rng_mod ps (j + k),← Int.emod_add_emod,h,Int.emod_add_emod]
theorem rng_step {ps:List F2} (l3:3≤ps.length) (nd:ps.Nodup) (i:Int):rng ps i≠rng ps (i + 1):=fun e=>by
 rw [rng_inj nd (by lia),← Int.emod_add_emod] at e
 have a:=Int.emod_nonneg i (show (ps.length:Int)≠0 by lia)
 have b:=Int.emod_lt_of_pos i (show 0 < (ps.length:Int) by lia)
 generalize i % (ps.length:Int)=x at *
 by_cases c:x + 1=ps.length
 ·rw [c,Int.emod_self] at e; lia
 ·rw [Int.emod_eq_of_lt (by lia) (by lia)] at e; lia
theorem no_x {ps:List F2} (l3:3≤ps.length) (nd:ps.Nodup) (S:Simp ps) {i j:Int} {t u:Rat} (t0:0≤t) (t1:t≤1) (u0:0≤u) (u1:u≤1) (e:sdR ps i t=sdR ps j u) :
  i % (ps.length:Int)=j % (ps.length:Int)∨((i + 1) % (ps.length:Int)=j % (ps.length:Int)∧t=1∧u=0)∨((j + 1) % (ps.length:Int)=i % (ps.length:Int)∧u=1∧t=0):=by
 unfold sdR at e
 have st:=rng_step l3 nd
 by_cases c:i % (ps.length:Int)=j % (ps.length:Int)
 ·exact .inl c
 by_cases d:(i + 1) % (ps.length:Int)=j % (ps.length:Int)
 ·refine .inr (.inl ⟨d,?_⟩)
  have r0:=rng_same 0 d
  have r1:=rng_same 1 d
  rw [Int.add_zero,Int.add_zero] at r0
  rw [← r0,← r1] at e
  have bk:=S.1 i
  rw [show i + 2=i + 1 + 1 by lia] at bk
  exact no_back (st i) (st (i + 1)) bk t1 u0 e
 by_cases f:(j + 1) % (ps.length:Int)=i % (ps.length:Int)
 ·refine .inr (.inr ⟨f,?_⟩)
  have r0:=rng_same 0 f
  have r1:=rng_same 1 f
  rw [Int.add_zero,Int.add_zero] at r0
  rw [← r0,← r1] at e
  have bk:=S.1 j
  rw [show j + 2=j + 1 + 1 by lia] at bk
  exact no_back (st j) (st (j + 1)) bk u1 t0 e.symm
 ·exact absurd e (no_meet (st i) (st j) (S.2 i j c d f) t0 t1 u0 u1)
end Cut
namespace Cut
open L2 L3
def crP (p q:F2):Int:=p.1 * q.2 - p.2 * q.1
theorem tw_sum (ps:List F2):tw ps=((List.range ps.length).map fun i:Nat=>crP (rng ps ((i:Int) - 1)) (rng ps i)).sum:=by
 have go:∀ m,m≤ps.length→(((eds (ps.map up)).take m).map crI).sum=((List.range m).map fun i:Nat=>crP (rng ps ((i:Int) - 1)) (rng ps i)).sum:=by
  intro m
  induction m with
  | zero=>intro _; rfl
  | succ m ih =>
   intro h
   obtain ⟨p,q,mp,mq,gp,gq,et⟩:=back_up (ps:=ps) (i:=m) (by lia)
   have e1:=rng_at (ps:=ps) (i:=(m:Int) - 1) (by lia) (by lia)
   have e2:=rng_at (ps:=ps) (i:=(m:Int)) (by lia) (by lia)
   rw [e1.1] at gp
   rw [e2.1] at gq
   have z1:=dR_inj (Option.some.inj gp)
   have z2:=dR_inj (Option.some.inj gq)
   rw [et,List.map_append,List.sum_append,ih (by lia),List.range_succ,List.map_append,List.sum_append,← z1,← z2]
   simp [crP,crI,up,Int.mul_comm]
 have al:=eds_all (ps.map up)
 rw [List.length_map] at al
 have:=go ps.length (Nat.le_refl _)
 rw [al] at this
 exact this
def shK (ps:List F2):Int:=2 * ((ps.map fun p=>p.2.natAbs).sum:Nat) + 1
def shX (ps:List F2) (i:Int):Int:=shK ps * (rng ps i).1 + (rng ps i).2
def shY (ps:List F2) (i:Int):Int:=(rng ps i).2
theorem rng_mem {ps:List F2} (h:0 < ps.length) (i:Int):rng ps i∈ps:=by
 rw [← rng_mod]
 have a:=Int.emod_nonneg i (show (ps.length:Int)≠0 by lia)
 have b:=Int.emod_lt_of_pos i (show 0 < (ps.length:Int) by lia)
 exact (rng_at (by lia) b).2
theorem shX_inj {ps:List F2} (h:0 < ps.length) {i j:Int} (e:shX ps i=shX ps j):rng ps i=rng ps j:=by
 have b:∀ i,(rng ps i).2.natAbs≤(ps.map fun p=>p.2.natAbs).sum:=fun i=>le_sum (List.mem_map.mpr ⟨_,rng_mem h i,rfl⟩)
 have bi:=b i
 have bj:=b j
 unfold shX shK at e
 generalize (ps.map fun p=>p.2.natAbs).sum=M at *
 generalize rng ps i=p at *
 generalize rng ps j=q at *
 have e1:(2 * (M:Int) + 1) * (p.1 - q.1)=q.2 - p.2:=by grind
 have x:p.1=q.1:=by
  rcases Int.lt_trichotomy p.1 q.1 with z | z | z
  ·have:=Int.mul_le_mul_of_nonneg_left (show p.1 - q.1 ≤ -1 by lia) (show 0≤2 * (M:Int) + 1 by lia)
   lia
  ·exact z
  ·have:=Int.mul_le_mul_of_nonneg_left (show 1≤p.1 - q.1 by lia) (show 0≤2 * (M:Int) + 1 by lia)
   lia
 refine Prod.ext x ?_
 rw [x] at e
 lia
theorem sh_sum {α:Type} (K:Int) (f:α→Int):∀ l:List α,(l.map fun x=>K * f x).sum=K * (l.map f).sum
 | []=>by simp
 | x :: l=>by rw [List.map_cons,List.sum_cons,sh_sum K f l,List.map_cons,List.sum_cons,Int.mul_add]
theorem tw_shear (ps:List F2):shK ps * tw ps=((List.range ps.length).map fun i:Nat=>shX ps ((i:Int) - 1) * shY ps i - shY ps ((i:Int) - 1) * shX ps i).sum:=by
 rw [tw_sum,← sh_sum]
 congr 1
 refine List.map_congr_left fun i _=>?_
 unfold shX shY crP
 grind
end Cut
namespace Cut
open L2 L3
def AtS (ps:List F2) (i:Int) (x y:Rat):Prop:=∃ t:Rat,0≤t∧t≤1∧x=(shX ps i:Rat) + t * ((shX ps (i + 1):Rat) - shX ps i)∧y=(shY ps i:Rat) + t * ((shY ps (i + 1):Rat) - shY ps i)
theorem shK_pos (ps:List F2):0 < shK ps:=by unfold shK; lia
theorem at_meet {ps:List F2} (l3:3≤ps.length) (nd:ps.Nodup) (S:Simp ps) {i j:Int} {x y:Rat} (a:AtS ps i x y) (b:AtS ps j x y) :
  i % (ps.length:Int)=j % (ps.length:Int)∨((i + 1) % (ps.length:Int)=j % (ps.length:Int)∧x=shX ps j)∨((j + 1) % (ps.length:Int)=i % (ps.length:Int)∧x=shX ps i):=by
 obtain ⟨t,t0,t1,tx,ty⟩:=a
 obtain ⟨u,u0,u1,ux,uy⟩:=b
 have k0:(0:Rat) < (shK ps:Rat):=by exact_mod_cast shK_pos ps
 have e:sdR ps i t=sdR ps j u:=by
  unfold sdR onR
  unfold shX shY at *
  simp only [Rat.intCast_add,Rat.intCast_mul] at tx ux
  have e2:((rng ps i).2:Rat) + t * (((rng ps (i + 1)).2:Rat) - (rng ps i).2)=((rng ps j).2:Rat) + u * (((rng ps (j + 1)).2:Rat) - (rng ps j).2):=ty.symm.trans uy
  refine Prod.ext ?_ e2
  show ((rng ps i).1:Rat) + t * (((rng ps (i + 1)).1:Rat) - (rng ps i).1)=((rng ps j).1:Rat) + u * (((rng ps (j + 1)).1:Rat) - (rng ps j).1)
  have e3:(shK ps:Rat) * ((((rng ps i).1:Rat) + t * (((rng ps (i + 1)).1:Rat) - (rng ps i).1)) - (((rng ps j).1:Rat) + u * (((rng ps (j + 1)).1:Rat) - (rng ps j).1)))=0:=by grind
  rcases Rat.mul_eq_zero.mp e3 with z | z
  ·rw [z] at k0; exact absurd k0 (by grind)
  ·grind
 rcases no_x l3 nd S t0 t1 u0 u1 e with c | ⟨c,_,rfl⟩ | ⟨c,_,rfl⟩
 ·exact .inl c
 ·exact .inr (.inl ⟨c,by grind⟩)
 ·exact .inr (.inr ⟨c,by grind⟩)
def OvC (ps:List F2) (i:Int) (x:Rat):Prop:=((shX ps i:Rat)≤x∧x≤shX ps (i + 1))∨((shX ps (i + 1):Rat)≤x∧x≤shX ps i)
def htS (ps:List F2) (i:Int) (x:Rat):Rat:=(shY ps i:Rat) + (x - shX ps i) / ((shX ps (i + 1):Rat) - shX ps i) * ((shY ps (i + 1):Rat) - shY ps i)
theorem shX_step {ps:List F2} (l3:3≤ps.length) (nd:ps.Nodup) (i:Int):shX ps i≠shX ps (i + 1):=fun e=>rng_step l3 nd i (shX_inj (by lia) e)
theorem ht_at {ps:List F2} (l3:3≤ps.length) (nd:ps.Nodup) {i:Int} {x:Rat} (h:OvC ps i x):AtS ps i x (htS ps i x):=by
 have ne:=shX_step l3 nd i
 have d0:(shX ps (i + 1):Rat) - shX ps i≠0:=fun z=>ne (by
  have:(shX ps i:Rat)=shX ps (i + 1):=by grind
  exact_mod_cast this)
 have m:(x - shX ps i) / ((shX ps (i + 1):Rat) - shX ps i) * ((shX ps (i + 1):Rat) - shX ps i)=x - shX ps i:=Rat.div_mul_cancel d0
 refine ⟨(x - shX ps i) / ((shX ps (i + 1):Rat) - shX ps i),?_,?_,by rw [m]; grind,rfl⟩
 all_goals
  generalize (x - shX ps i) / ((shX ps (i + 1):Rat) - shX ps i)=t at *
  refine Rat.not_lt.mp fun n=>?_
  rcases h with ⟨a,b⟩ | ⟨a,b⟩
  ·have d1:0 < (shX ps (i + 1):Rat) - shX ps i:=by grind
   first
   | (have:=Rat.mul_pos (show 0 < -t by grind) d1; grind)
   | (have:=Rat.mul_pos (show 0 < t - 1 by grind) d1; grind)
  ·have d1:0 < (shX ps i:Rat) - shX ps (i + 1):=by grind
   first
   | (have:=Rat.mul_pos (show 0 < -t by grind) d1; grind)
   | (have:=Rat.mul_pos (show 0 < t - 1 by grind) d1; grind)
end Cut
namespace Cut
open L2 L3
theorem ht_ne {ps:List F2} (l3:3≤ps.length) (nd:ps.Nodup) (S:Simp ps) {i j:Int} {x:Rat} (a:OvC ps i x) (b:OvC ps j x) (n:i % (ps.length:Int)≠j % (ps.length:Int))
  (n1:¬ ((i + 1) % (ps.length:Int)=j % (ps.length:Int)∧x=shX ps j)) (n2:¬ ((j + 1) % (ps.length:Int)=i % (ps.length:Int)∧x=shX ps i)):htS ps i x≠htS ps j x:=fun e=>by
 have h1:=ht_at l3 nd a
 have h2:=ht_at l3 nd b
 rw [← e] at h2
 rcases at_meet l3 nd S h1 h2 with c | c | c
 ·exact n c
 ·exact n1 c
 ·exact n2 c
theorem ht_mix (ps:List F2) (i:Int) (x y s:Rat):htS ps i (x + s * (y - x))=htS ps i x + s * (htS ps i y - htS ps i x):=by
 unfold htS
 simp only [Rat.div_def]
 grind
theorem ht_root {ps:List F2} {i j:Int} {x y:Rat} (h:htS ps i x < htS ps j x) (g:htS ps j y≤htS ps i y):∃ s:Rat,0≤s∧s≤1∧htS ps i (x + s * (y - x))=htS ps j (x + s * (y - x)):=by
 have d:0 < (htS ps j x - htS ps i x) + (htS ps i y - htS ps j y):=by grind
 have m:(htS ps j x - htS ps i x) / ((htS ps j x - htS ps i x) + (htS ps i y - htS ps j y)) * ((htS ps j x - htS ps i x) + (htS ps i y - htS ps j y))=htS ps j x - htS ps i x:=Rat.div_mul_cancel (by grind)
 refine ⟨(htS ps j x - htS ps i x) / ((htS ps j x - htS ps i x) + (htS ps i y - htS ps j y)),?_,?_,?_⟩
 all_goals generalize (htS ps j x - htS ps i x) / ((htS ps j x - htS ps i x) + (htS ps i y - htS ps j y))=s at *
 ·refine Rat.not_lt.mp fun n=>?_
  have:=Rat.mul_pos (show 0 < -s by grind) d
  grind
 ·refine Rat.not_lt.mp fun n=>?_
  have:=Rat.mul_pos (show 0 < s - 1 by grind) d
  grind
 ·rw [ht_mix,ht_mix]
  grind
theorem ht_keep {ps:List F2} {i j:Int} {x y:Rat} (h:∀ s:Rat,0≤s→s≤1→htS ps i (x + s * (y - x))≠htS ps j (x + s * (y - x))):htS ps i x < htS ps j x↔htS ps i y < htS ps j y:=by
 have r0:x + 0 * (y - x)=x:=by grind
 have r1:x + 1 * (y - x)=y:=by grind
 have n0:=h 0 (by grind) (by grind)
 rw [r0] at n0
 have n1:=h 1 (by grind) (by grind)
 rw [r1] at n1
 constructor
 ·intro a
  refine Classical.byContradiction fun b=>?_
  obtain ⟨s,s0,s1,e⟩:=ht_root a (Rat.not_lt.mp b)
  exact h s s0 s1 e
 ·intro a
  refine Classical.byContradiction fun b=>?_
  have b':htS ps j x < htS ps i x:=by
   have:=Rat.not_lt.mp b
   grind
  have g':htS ps i y≤htS ps j y:=by grind
  obtain ⟨s,s0,s1,e⟩:=ht_root b' g'
  exact h s s0 s1 e.symm
theorem ov_mid {ps:List F2} {i:Int} {x y s:Rat} (a:OvC ps i x) (b:OvC ps i y) (s0:0≤s) (s1:s≤1):OvC ps i (x + s * (y - x)):=by
 unfold OvC at *
 have btw:∀ l r:Rat,l≤x→x≤r→l≤y→y≤r→l≤x + s * (y - x)∧x + s * (y - x)≤r:=fun l r a b c d=>by
  have x1:0≤(1 - s) * (x - l):=Rat.mul_nonneg (by grind) (by grind)
  have x2:0≤s * (y - l):=Rat.mul_nonneg s0 (by grind)
  have x3:0≤(1 - s) * (r - x):=Rat.mul_nonneg (by grind) (by grind)
  have x4:0≤s * (r - y):=Rat.mul_nonneg s0 (by grind)
  grind
 by_cases c:(shX ps i:Rat)≤shX ps (i + 1)
 ·have p:(shX ps i:Rat)≤x∧x≤shX ps (i + 1):=by rcases a with a | a <;> grind
  have q:(shX ps i:Rat)≤y∧y≤shX ps (i + 1):=by rcases b with b | b <;> grind
  exact .inl (btw _ _ p.1 p.2 q.1 q.2)
 ·have p:(shX ps (i + 1):Rat)≤x∧x≤shX ps i:=by rcases a with a | a <;> grind
  have q:(shX ps (i + 1):Rat)≤y∧y≤shX ps i:=by rcases b with b | b <;> grind
  exact .inr (btw _ _ p.1 p.2 q.1 q.2)
end Cut
namespace Cut
open L2 L3
def altR:List Rat→Rat
 | []=>0
 | a :: r=>a - altR r
theorem altR_pos:∀ {l:List Rat},l.Pairwise (fun a b=>b < a)→l.length % 2=0→l≠[]→0 < altR l
 | [],_,_,h=>absurd rfl h
 | [a],_,h,_=>by simp at h
 | a :: b :: r,h,e,_=>by
  obtain ⟨h1,h2⟩:=List.pairwise_cons.mp h
  obtain ⟨h3,h4⟩:=List.pairwise_cons.mp h2
  have ab:=h1 b List.mem_cons_self
  show 0 < a - (b - altR r)
  by_cases c:r=[]
  ·subst c
   show 0 < a - (b - 0)
   grind
  ·have:=altR_pos h4 (by simp only [List.length_cons] at e; lia) c
   grind
end Cut
namespace Cut
open L2 L3
def eS (ps:List F2) (i:Int) (w:Rat):Int:=(if w < (shX ps (i + 1):Rat) then 1 else 0) - (if w < (shX ps i:Rat) then 1 else 0)
def sgQ (a:Rat):Int:=if 0 < a then 1 else if a < 0 then -1 else 0
def tS (ps:List F2) (i j:Int) (w:Rat):Int:=eS ps j w * sgQ (htS ps j w - htS ps i w)
def TS (ps:List F2) (i:Int) (w:Rat):Int:=((List.range ps.length).map fun j:Nat=>tS ps i j w).sum
theorem sgQ_0:sgQ 0=0:=by unfold sgQ; rw [if_neg (by grind),if_neg (by grind)]
theorem sgQ_neg (a:Rat):sgQ (-a) = -sgQ a:=by
 unfold sgQ
 by_cases h:0 < a
 ·rw [if_pos h,if_neg (by grind),if_pos (by grind)]
 ·by_cases g:a < 0
  ·rw [if_neg h,if_pos g,if_pos (by grind)]; rfl
  ·rw [if_neg h,if_neg g,if_neg (by grind),if_neg (by grind)]; rfl
theorem sgQ_iff {a b:Rat} (h:0 < a↔0 < b) (ha:a≠0) (hb:b≠0):sgQ a=sgQ b:=by
 unfold sgQ
 by_cases c:0 < a
 ·rw [if_pos c,if_pos (h.mp c)]
 ·have d:¬ 0 < b:=fun x=>c (h.mpr x)
  rw [if_neg c,if_neg d,if_pos (by grind),if_pos (by grind)]
section per
variable {ps:List F2} {i j:Int}
theorem shX_same (k:Int) (h:i % (ps.length:Int)=j % (ps.length:Int)):shX ps (i + k)=shX ps (j + k):=by unfold shX; rw [rng_same k h]
theorem shY_same (k:Int) (h:i % (ps.length:Int)=j % (ps.length:Int)):shY ps (i + k)=shY ps (j + k):=by unfold shY; rw [rng_same k h]
theorem shX_same0 (h:i % (ps.length:Int)=j % (ps.length:Int)):shX ps i=shX ps j:=by
 have:=shX_same 0 h
 rwa [Int.add_zero,Int.add_zero] at this
theorem shY_same0 (h:i % (ps.length:Int)=j % (ps.length:Int)):shY ps i=shY ps j:=by
 have:=shY_same 0 h
 rwa [Int.add_zero,Int.add_zero] at this
theorem ht_same (h:i % (ps.length:Int)=j % (ps.length:Int)) (w:Rat):htS ps i w=htS ps j w:=by unfold htS; rw [shX_same 1 h,shY_same 1 h,shX_same0 h,shY_same0 h]
theorem eS_same (h:i % (ps.length:Int)=j % (ps.length:Int)) (w:Rat):eS ps i w=eS ps j w:=by unfold eS; rw [shX_same 1 h,shX_same0 h]
end per
theorem ht_l {ps:List F2} (i:Int):htS ps i (shX ps i)=shY ps i:=by
 unfold htS
 rw [Rat.sub_self,Rat.div_def]
 grind
theorem ht_r {ps:List F2} (l3:3≤ps.length) (nd:ps.Nodup) (i:Int):htS ps i (shX ps (i + 1))=shY ps (i + 1):=by
 have ne:=shX_step l3 nd i
 have d0:(shX ps (i + 1):Rat) - shX ps i≠0:=fun z=>ne (by
  have:(shX ps i:Rat)=shX ps (i + 1):=by grind
  exact_mod_cast this)
 have m:((shX ps (i + 1):Rat) - shX ps i) / ((shX ps (i + 1):Rat) - shX ps i) * ((shX ps (i + 1):Rat) - shX ps i)=(shX ps (i + 1):Rat) - shX ps i:=Rat.div_mul_cancel d0
 unfold htS
 generalize ((shX ps (i + 1):Rat) - shX ps i) / ((shX ps (i + 1):Rat) - shX ps i)=t at *
 have e:(t - 1) * ((shX ps (i + 1):Rat) - shX ps i)=0:=by grind
 rcases Rat.mul_eq_zero.mp e with z | z
 ·have:t=1:=by grind
  rw [this]; grind
 ·exact absurd z d0
theorem e_ov {ps:List F2} {j:Int} {w:Rat} (h:eS ps j w≠0):OvC ps j w:=by
 unfold eS at h
 unfold OvC
 by_cases a:w < (shX ps (j + 1):Rat) <;> by_cases b:w < (shX ps j:Rat)
 ·rw [if_pos a,if_pos b] at h; exact absurd rfl h
 ·exact .inl ⟨by grind,by grind⟩
 ·exact .inr ⟨by grind,by grind⟩
 ·rw [if_neg a,if_neg b] at h; exact absurd rfl h
def aS (ps:List F2) (i:Int) (u v:Rat) (k:Int):Int:=if u < (shX ps k:Rat)∧(shX ps k:Rat)≤v then sgQ ((shY ps k:Rat) - htS ps i (shX ps k)) else 0
theorem sg_beta {ps:List F2} {i j:Int} {u v:Rat} (h:∀ w,u≤w→w≤v→OvC ps j w→htS ps j w≠htS ps i w) :
  ∃ β:Int,∀ w,u≤w→w≤v→OvC ps j w→sgQ (htS ps j w - htS ps i w)=β:=by
 by_cases c:∃ w0,u≤w0∧w0≤v∧OvC ps j w0
 ·obtain ⟨w0,a,b,o⟩:=c
  refine ⟨sgQ (htS ps j w0 - htS ps i w0),fun w a' b' o'=>?_⟩
  have k:=ht_keep (ps:=ps) (i:=i) (j:=j) (x:=w) (y:=w0) fun s s0 s1=>by
   refine (h _ ?_ ?_ (ov_mid o' o s0 s1)).symm
   ·have x1:0≤(1 - s) * (w - u):=Rat.mul_nonneg (by grind) (by grind)
    have x2:0≤s * (w0 - u):=Rat.mul_nonneg s0 (by grind)
    grind
   ·have x1:0≤(1 - s) * (v - w):=Rat.mul_nonneg (by grind) (by grind)
    have x2:0≤s * (v - w0):=Rat.mul_nonneg s0 (by grind)
    grind
  have n1:=h w a' b' o'
  have n0:=h w0 a b o
  exact sgQ_iff ⟨fun x=>by have:=k.mp (by grind); grind,fun x=>by have:=k.mpr (by grind); grind⟩ (by grind) (by grind)
 ·exact ⟨0,fun w a b o=>absurd ⟨w,a,b,o⟩ c⟩
theorem ov_l {ps:List F2} (j:Int):OvC ps j (shX ps j):=by
 unfold OvC
 rcases Int.le_total (shX ps j) (shX ps (j + 1)) with z | z
 ·exact .inl ⟨Rat.le_refl,by exact_mod_cast z⟩
 ·exact .inr ⟨by exact_mod_cast z,Rat.le_refl⟩
theorem ov_r {ps:List F2} (j:Int):OvC ps j (shX ps (j + 1)):=by
 unfold OvC
 rcases Int.le_total (shX ps j) (shX ps (j + 1)) with z | z
 ·exact .inl ⟨by exact_mod_cast z,Rat.le_refl⟩
 ·exact .inr ⟨Rat.le_refl,by exact_mod_cast z⟩
theorem flux_one {ps:List F2} (l3:3≤ps.length) (nd:ps.Nodup) {i j:Int} {u v:Rat} (uv:u≤v) (h:∀ w,u≤w→w≤v→OvC ps j w→htS ps j w≠htS ps i w) :
  tS ps i j u - tS ps i j v=aS ps i u v (j + 1) - aS ps i u v j:=by
 obtain ⟨β,hb⟩:=sg_beta h
 have tu:tS ps i j u=eS ps j u * β:=by
  unfold tS
  by_cases c:eS ps j u=0
  ·rw [c,Int.zero_mul,Int.zero_mul]
  ·rw [hb u Rat.le_refl uv (e_ov c)]
 have tv:tS ps i j v=eS ps j v * β:=by
  unfold tS
  by_cases c:eS ps j v=0
  ·rw [c,Int.zero_mul,Int.zero_mul]
  ·rw [hb v uv Rat.le_refl (e_ov c)]
 have a1:aS ps i u v (j + 1)=(if u < (shX ps (j + 1):Rat)∧(shX ps (j + 1):Rat)≤v then 1 else 0) * β:=by
  unfold aS
  by_cases c:u < (shX ps (j + 1):Rat)∧(shX ps (j + 1):Rat)≤v
  ·have:=hb (shX ps (j + 1)) (Rat.le_of_lt c.1) c.2 (ov_r j)
   rw [ht_r l3 nd] at this
   rw [if_pos c,if_pos c,this,Int.one_mul]
  ·rw [if_neg c,if_neg c,Int.zero_mul]
 have a0:aS ps i u v j=(if u < (shX ps j:Rat)∧(shX ps j:Rat)≤v then 1 else 0) * β:=by
  unfold aS
  by_cases c:u < (shX ps j:Rat)∧(shX ps j:Rat)≤v
  ·have:=hb (shX ps j) (Rat.le_of_lt c.1) c.2 (ov_l j)
   rw [ht_l] at this
   rw [if_pos c,if_pos c,this,Int.one_mul]
  ·rw [if_neg c,if_neg c,Int.zero_mul]
 have d:∀ x:Rat,(if u < x∧x≤v then (1:Int) else 0)=(if u < x then 1 else 0) - (if v < x then 1 else 0):=fun x=>by
  by_cases c:u < x <;> by_cases e:v < x
  ·rw [if_neg (by grind),if_pos c,if_pos e]; rfl
  ·rw [if_pos (by grind),if_pos c,if_neg e]; rfl
  ·exact absurd (show u < x by grind) c
  ·rw [if_neg (by grind),if_neg c,if_neg e]; rfl
 rw [tu,tv,a1,a0,d,d]
 unfold eS
 grind
theorem sum_tele (f:Int→Int):∀ n:Nat,((List.range n).map fun j:Nat=>f ((j:Int) + 1) - f j).sum=f n - f 0
 | 0=>by simp
 | n + 1=>by
  rw [List.range_succ,List.map_append,List.sum_append,sum_tele f n]
  simp
  lia
theorem sum_one (c:Int) (m:Nat):∀ n:Nat,((List.range n).map fun j:Nat=>if j=m then c else 0).sum=if m < n then c else 0
 | 0=>by simp
 | n + 1=>by
  rw [List.range_succ,List.map_append,List.sum_append,sum_one c m n,List.map_singleton,List.sum_singleton]
  by_cases a:m < n
  ·rw [if_pos a,if_neg (by lia),if_pos (by lia),Int.add_zero]
  ·by_cases b:n=m
   ·rw [if_neg a,if_pos b,if_pos (by lia),Int.zero_add]
   ·rw [if_neg a,if_neg b,if_neg (by lia),Int.zero_add]
theorem sum_add2 {α:Type} (f g:α→Int):∀ l:List α,(l.map fun x=>f x + g x).sum=(l.map f).sum + (l.map g).sum
 | []=>by simp
 | x :: l=>by rw [List.map_cons,List.sum_cons,sum_add2 f g l,List.map_cons,List.sum_cons,List.map_cons,List.sum_cons]; lia
theorem sum_sub2 {α:Type} (f g:α→Int):∀ l:List α,(l.map fun x=>f x - g x).sum=(l.map f).sum - (l.map g).sum
 | []=>by simp
 | x :: l=>by rw [List.map_cons,List.sum_cons,sum_sub2 f g l,List.map_cons,List.sum_cons,List.map_cons,List.sum_cons]; lia
theorem t_self (ps:List F2) (i:Int) (w:Rat):tS ps i i w=0:=by
 unfold tS
 rw [Rat.sub_self,sgQ_0,Int.mul_zero]
theorem t_same {ps:List F2} {i j m:Int} (h:j % (ps.length:Int)=m % (ps.length:Int)) (w:Rat):tS ps i j w=tS ps i m w:=by
 unfold tS
 rw [eS_same h,ht_same h]
theorem a_same {ps:List F2} {i j m:Int} {u v:Rat} (k:Int) (h:j % (ps.length:Int)=m % (ps.length:Int)):aS ps i u v (j + k)=aS ps i u v (m + k):=by
 unfold aS
 rw [shX_same k h,shY_same k h]
theorem a_same0 {ps:List F2} {i j m:Int} {u v:Rat} (h:j % (ps.length:Int)=m % (ps.length:Int)):aS ps i u v j=aS ps i u v m:=by
 unfold aS
 rw [shX_same0 h,shY_same0 h]
theorem a_self {ps:List F2} (i:Int) (u v:Rat):aS ps i u v i=0:=by
 unfold aS
 rw [ht_l,Rat.sub_self,sgQ_0]
 split <;> rfl
theorem a_self1 {ps:List F2} (l3:3≤ps.length) (nd:ps.Nodup) (i:Int) (u v:Rat):aS ps i u v (i + 1)=0:=by
 unfold aS
 rw [ht_r l3 nd,Rat.sub_self,sgQ_0]
 split <;> rfl
theorem flux {ps:List F2} (l3:3≤ps.length) (nd:ps.Nodup) {i m:Int} {u v:Rat} (uv:u≤v)
  (h:∀ j:Int,j % (ps.length:Int)≠i % (ps.length:Int)→j % (ps.length:Int)≠m % (ps.length:Int)→∀ w,u≤w→w≤v→OvC ps j w→htS ps j w≠htS ps i w)
  (a0:aS ps i u v m=0) (a1:aS ps i u v (m + 1)=0):TS ps i u - TS ps i v=tS ps i m u - tS ps i m v:=by
 have n0:(0:Int) < ps.length:=by lia
 have mm:m % (ps.length:Int)=(((m % (ps.length:Int)).toNat:Nat):Int):=(Int.toNat_of_nonneg (Int.emod_nonneg _ (by lia))).symm
 have ml:=Int.emod_lt_of_pos m n0
 have im:∀ x:Int,x % (ps.length:Int) % (ps.length:Int)=x % (ps.length:Int):=fun x=>Int.emod_emod_of_dvd _ (Int.dvd_refl _)
 unfold TS
 rw [← sum_sub2]
 have e:((List.range ps.length).map fun j:Nat=>tS ps i j u - tS ps i j v)=(List.range ps.length).map fun j:Nat=>(aS ps i u v ((j:Int) + 1) - aS ps i u v j) + if j=(m % (ps.length:Int)).toNat then tS ps i m u - tS ps i m v else 0:=by
  refine List.map_congr_left fun j hj=>?_
  have jl:=List.mem_range.mp hj
  have jj:(j:Int) % (ps.length:Int)=j:=Int.emod_eq_of_lt (by lia) (by lia)
  by_cases c:j=(m % (ps.length:Int)).toNat
  ·have q:(j:Int) % (ps.length:Int)=m % (ps.length:Int):=by lia
   rw [if_pos c,a_same0 q,a_same 1 q,a0,a1,t_same q,t_same q]
   lia
  ·rw [if_neg c]
   have q:(j:Int) % (ps.length:Int)≠m % (ps.length:Int):=by lia
   by_cases d:(j:Int) % (ps.length:Int)=i % (ps.length:Int)
   ·rw [a_same0 d,a_same 1 d,a_self,a_self1 l3 nd,t_same d,t_same d,t_self,t_self]
    rfl
   ·rw [flux_one l3 nd uv (h j d q),Int.add_zero]
 rw [e,sum_add2,sum_one,if_pos (by lia),sum_tele (aS ps i u v)]
 have:aS ps i u v (ps.length:Int)=aS ps i u v 0:=a_same0 (by rw [Int.emod_self]; rfl)
 lia
end Cut
namespace Cut
open L2 L3
def OvO (ps:List F2) (i:Int) (w:Rat):Prop:=((shX ps i:Rat) < w∧w < shX ps (i + 1))∨((shX ps (i + 1):Rat) < w∧w < shX ps i)
theorem OvO.cl {ps:List F2} {i:Int} {w:Rat} (h:OvO ps i w):OvC ps i w:=by
 unfold OvO at h; unfold OvC
 rcases h with h | h
 ·exact .inl ⟨by grind,by grind⟩
 ·exact .inr ⟨by grind,by grind⟩
theorem ov_bet {ps:List F2} {i:Int} {u v w:Rat} (a:OvC ps i u) (b:OvC ps i v) (h1:u≤w) (h2:w≤v):OvC ps i w:=by
 unfold OvC at *
 rcases a with a | a <;> rcases b with b | b
 ·exact .inl ⟨by grind,by grind⟩
 ·exact .inl ⟨by grind,by grind⟩
 ·exact .inr ⟨by grind,by grind⟩
 ·exact .inr ⟨by grind,by grind⟩
theorem T_along {ps:List F2} (l3:3≤ps.length) (nd:ps.Nodup) (S:Simp ps) {i:Int} {u v:Rat} (uv:u≤v) (a:OvO ps i u) (b:OvO ps i v):TS ps i u=TS ps i v:=by
 have f:=flux l3 nd (i:=i) (m:=i) uv (fun j ne _ w w1 w2 o=>by
  refine ht_ne l3 nd S o (ov_bet a.cl b.cl w1 w2) ne (fun c=>?_) (fun c=>?_)
  ·have:=c.2
   unfold OvO at a b
   rcases a with a | a <;> rcases b with b | b <;> grind
  ·have e:=shX_same0 c.1
   have:=c.2
   rw [← e] at this
   unfold OvO at a b
   rcases a with a | a <;> rcases b with b | b <;> grind) (a_self i u v) (a_self1 l3 nd i u v)
 rw [t_self,t_self] at f
 lia
theorem T_corner {ps:List F2} (l3:3≤ps.length) (nd:ps.Nodup) (S:Simp ps) {i m k:Int} {w:Rat}
  (c:(i=k∧m + 1=k)∨(i + 1=k∧m=k)) (hw:w=(shX ps k:Rat) - 1 / 2∨w=(shX ps k:Rat) + 1 / 2) (o:OvC ps i w):TS ps i w=TS ps i (shX ps k) + tS ps i m w:=by
 have near:∀ q:Int,(w≤(shX ps q:Rat)∧(shX ps q:Rat)≤shX ps k)∨((shX ps k:Rat)≤shX ps q∧(shX ps q:Rat)≤w)→q % (ps.length:Int)=k % (ps.length:Int):=fun q hq=>by
  have e:shX ps q=shX ps k:=by
   have lt1:∀ x y:Int,(x:Rat)≤(y:Rat)→x≤y:=fun x y h=>by exact_mod_cast h
   have lt2:∀ x y:Int,(x:Rat) < (y:Rat) + 1→x≤y:=fun x y h=>by
    have:x < y + 1:=by exact_mod_cast h
    lia
   rcases hq with hq | hq
   ·have q2:=lt1 _ _ hq.2
    have q1:=lt2 (shX ps k) (shX ps q) (by rcases hw with h | h <;> grind)
    lia
   ·have q2:=lt1 _ _ hq.1
    have q1:=lt2 (shX ps q) (shX ps k) (by rcases hw with h | h <;> grind)
    lia
  exact (rng_inj nd (by lia)).mp (shX_inj (by lia) e)
 have hk:htS ps i (shX ps k)=shY ps k:=by
  rcases c with ⟨c,_⟩ | ⟨c,_⟩
  ·rw [c,ht_l]
  ·rw [← c,ht_r l3 nd]
 have mk:htS ps m (shX ps k)=shY ps k:=by
  rcases c with ⟨_,c⟩ | ⟨_,c⟩
  ·rw [← c,ht_r l3 nd]
  ·rw [c,ht_l]
 have ok:OvC ps i (shX ps k):=by
  rcases c with ⟨c,_⟩ | ⟨c,_⟩
  ·rw [c]; exact ov_l k
  ·rw [← c]; exact ov_r i
 have t0:tS ps i m (shX ps k)=0:=by
  unfold tS
  rw [hk,mk,Rat.sub_self,sgQ_0,Int.mul_zero]
 have az:∀ u v:Rat,((u=w∧v=shX ps k)∨(u=shX ps k∧v=w))→∀ q,aS ps i u v q=0:=fun u v h q=>by
  unfold aS
  by_cases d:u < (shX ps q:Rat)∧(shX ps q:Rat)≤v
  ·have e:=near q (by
    rcases h with ⟨rfl,rfl⟩ | ⟨rfl,rfl⟩
    ·exact .inl ⟨by grind,d.2⟩
    ·exact .inr ⟨by grind,d.2⟩)
   rw [if_pos d,shX_same0 e,shY_same0 e,hk,Rat.sub_self,sgQ_0]
  ·rw [if_neg d]
 have hh:∀ u v:Rat,((u=w∧v=shX ps k)∨(u=shX ps k∧v=w))→∀ j:Int,j % (ps.length:Int)≠i % (ps.length:Int)→j % (ps.length:Int)≠m % (ps.length:Int)→∀ x,u≤x→x≤v→OvC ps j x→htS ps j x≠htS ps i x:=fun u v h j n1 n2 x x1 x2 oj=>by
  have oi:OvC ps i x:=by
   rcases h with ⟨rfl,rfl⟩ | ⟨rfl,rfl⟩
   ·exact ov_bet o ok x1 x2
   ·exact ov_bet ok o x1 x2
  have nr:∀ q:Int,x=shX ps q→q % (ps.length:Int)=k % (ps.length:Int):=fun q e=>near q (by
   rw [← e]
   rcases h with ⟨rfl,rfl⟩ | ⟨rfl,rfl⟩
   ·exact .inl ⟨x1,x2⟩
   ·exact .inr ⟨x1,x2⟩)
  refine ht_ne l3 nd S oj oi n1 (fun d=>?_) (fun d=>?_)
  ·have e:=nr i d.2
   rcases c with ⟨c1,c2⟩ | ⟨c1,c2⟩
   ·refine n2 ?_
    have d1:=d.1
    rw [c1,← c2] at d1
    have:=Int.emod_sub_cancel_right (k:=(ps.length:Int)) (m:=1) (n:=(j + 1)) (i:=0)
    have q1:(j + 1 - 1) % (ps.length:Int)=(m + 1 - 1) % (ps.length:Int):=by rw [Int.sub_emod,d1,← Int.sub_emod]
    rwa [Int.add_sub_cancel,Int.add_sub_cancel] at q1
   ·have q:=rng_step l3 nd i
    rw [c1] at q
    exact q ((rng_inj nd (by lia)).mpr e)
  ·have e:=nr j d.2
   rcases c with ⟨c1,c2⟩ | ⟨c1,c2⟩
   ·rw [c1] at n1
    exact n1 e
   ·rw [c2] at n2
    exact n2 e
 rcases hw with h | h
 ·have f:=flux l3 nd (i:=i) (m:=m) (u:=w) (v:=shX ps k) (by grind) (hh _ _ (.inl ⟨rfl,rfl⟩)) (az _ _ (.inl ⟨rfl,rfl⟩) _) (az _ _ (.inl ⟨rfl,rfl⟩) _)
  rw [t0] at f
  lia
 ·have f:=flux l3 nd (i:=i) (m:=m) (u:=shX ps k) (v:=w) (by grind) (hh _ _ (.inr ⟨rfl,rfl⟩)) (az _ _ (.inr ⟨rfl,rfl⟩) _) (az _ _ (.inr ⟨rfl,rfl⟩) _)
  rw [t0] at f
  lia
theorem half_lt {a b:Int} (h:a < b):(a:Rat) < (b:Rat) - 1 / 2∧(a:Rat) + 1 / 2 < b:=by
 have:(a:Rat) + 1≤b:=by exact_mod_cast h
 constructor <;> grind
theorem T_next {ps:List F2} (l3:3≤ps.length) (nd:ps.Nodup) (S:Simp ps) (i:Int):∃ u v:Rat,OvO ps i u∧OvO ps (i + 1) v∧TS ps i u=TS ps (i + 1) v:=by
 have n1:=shX_step l3 nd i
 have n2:=shX_step l3 nd (i + 1)
 have same:TS ps i (shX ps (i + 1))=TS ps (i + 1) (shX ps (i + 1)):=by
  unfold TS tS
  rw [ht_r l3 nd,ht_l]
 have ca:∀ w,(w=(shX ps (i + 1):Rat) - 1 / 2∨w=(shX ps (i + 1):Rat) + 1 / 2)→OvO ps i w→TS ps i w=TS ps i (shX ps (i + 1)) + tS ps i (i + 1) w:=fun w hw o=>T_corner l3 nd S (.inr ⟨rfl,rfl⟩) hw o.cl
 have cb:∀ w,(w=(shX ps (i + 1):Rat) - 1 / 2∨w=(shX ps (i + 1):Rat) + 1 / 2)→OvO ps (i + 1) w→TS ps (i + 1) w=TS ps (i + 1) (shX ps (i + 1)) + tS ps (i + 1) i w:=fun w hw o=>T_corner l3 nd S (.inl ⟨rfl,rfl⟩) hw o.cl
 have sg:∀ w,sgQ (htS ps i w - htS ps (i + 1) w) = -sgQ (htS ps (i + 1) w - htS ps i w):=fun w=>by rw [← sgQ_neg]; congr 1; grind
 rcases Int.lt_or_gt_of_ne n1 with a | a <;> rcases Int.lt_or_gt_of_ne n2 with b | b
 ·have ha:=half_lt a
  have hb:=half_lt b
  have o1:OvO ps i ((shX ps (i + 1):Rat) - 1 / 2):=.inl ⟨ha.1,by grind⟩
  have o2:OvO ps (i + 1) ((shX ps (i + 1):Rat) + 1 / 2):=.inl ⟨by grind,hb.2⟩
  refine ⟨_,_,o1,o2,?_⟩
  rw [ca _ (.inl rfl) o1,cb _ (.inr rfl) o2,same]
  unfold tS eS
  rw [if_pos (by grind),if_pos (by grind),if_neg (by grind),if_neg (by grind)]
  lia
 ·have ha:=half_lt a
  have hb:=half_lt b
  have o1:OvO ps i ((shX ps (i + 1):Rat) - 1 / 2):=.inl ⟨ha.1,by grind⟩
  have o2:OvO ps (i + 1) ((shX ps (i + 1):Rat) - 1 / 2):=.inr ⟨hb.1,by grind⟩
  refine ⟨_,_,o1,o2,?_⟩
  rw [ca _ (.inl rfl) o1,cb _ (.inl rfl) o2,same]
  unfold tS
  rw [sg]
  unfold eS
  rw [if_neg (by grind),if_pos (by grind),if_neg (by grind)]
  lia
 ·have ha:=half_lt a
  have hb:=half_lt b
  have o1:OvO ps i ((shX ps (i + 1):Rat) + 1 / 2):=.inr ⟨by grind,ha.2⟩
  have o2:OvO ps (i + 1) ((shX ps (i + 1):Rat) + 1 / 2):=.inl ⟨by grind,hb.2⟩
  refine ⟨_,_,o1,o2,?_⟩
  rw [ca _ (.inr rfl) o1,cb _ (.inr rfl) o2,same]
  unfold tS
  rw [sg]
  unfold eS
  rw [if_pos (by grind),if_neg (by grind),if_pos (by grind)]
  lia
 ·have ha:=half_lt a
  have hb:=half_lt b
  have o1:OvO ps i ((shX ps (i + 1):Rat) + 1 / 2):=.inr ⟨by grind,ha.2⟩
  have o2:OvO ps (i + 1) ((shX ps (i + 1):Rat) - 1 / 2):=.inr ⟨hb.1,by grind⟩
  refine ⟨_,_,o1,o2,?_⟩
  rw [ca _ (.inr rfl) o1,cb _ (.inl rfl) o2,same]
  unfold tS eS
  rw [if_neg (by grind),if_neg (by grind),if_pos (by grind),if_pos (by grind)]
  lia
theorem T_same {ps:List F2} {i j:Int} (h:i % (ps.length:Int)=j % (ps.length:Int)) (w:Rat):TS ps i w=TS ps j w:=by
 unfold TS tS
 rw [ht_same h]
theorem ovo_same {ps:List F2} {i j:Int} (h:i % (ps.length:Int)=j % (ps.length:Int)) {w:Rat} (o:OvO ps i w):OvO ps j w:=by unfold OvO at *; rw [← shX_same 1 h,← shX_same0 h]; exact o
theorem T_all {ps:List F2} (l3:3≤ps.length) (nd:ps.Nodup) (S:Simp ps):∃ s:Int,∀ i w,OvO ps i w→TS ps i w=s:=by
 have al:∀ i u v,OvO ps i u→OvO ps i v→TS ps i u=TS ps i v:=fun i u v a b=>by
  rcases (Rat.le_total:u≤v∨v≤u) with z | z
  ·exact T_along l3 nd S z a b
  ·exact (T_along l3 nd S z b a).symm
 obtain ⟨u0,_,o0,_,_⟩:=T_next l3 nd S 0
 refine ⟨TS ps 0 u0,fun i w o=>?_⟩
 have go:∀ k:Nat,∀ w,OvO ps k w→TS ps k w=TS ps 0 u0:=by
  intro k
  induction k with
  | zero=>exact fun w o=>al 0 w u0 o o0
  | succ k ih =>
   intro w o
   obtain ⟨u,v,a,b,e⟩:=T_next l3 nd S k
   rw [show ((k + 1:Nat):Int)=(k:Int) + 1 from by lia] at o ⊢
   rw [al _ w v o b,← e,ih u a]
 have q:i % (ps.length:Int)=((i % (ps.length:Int)).toNat:Int) % (ps.length:Int):=by
  rw [Int.toNat_of_nonneg (Int.emod_nonneg _ (by lia)),Int.emod_emod_of_dvd _ (Int.dvd_refl _)]
 rw [T_same q,go _ w (ovo_same q o)]
end Cut
namespace Cut
open L2 L3
def AltI:Int→List (Rat×Int)→Prop
 | _,[]=>True
 | s,x :: r=>x.2=s∧AltI (-s) r
theorem altI_sum:∀ {s:Int} {l:List (Rat×Int)},AltI s l→(l.map fun x=>(x.2:Rat) * x.1).sum=(s:Rat) * altR (l.map Prod.fst)
 | s,[],_=>by simp [altR]
 | s,x :: r,h=>by
  obtain ⟨h1,h2⟩:=h
  rw [List.map_cons,List.sum_cons,altI_sum h2,List.map_cons,h1]
  show (s:Rat) * x.1 + ((-s:Int):Rat) * altR (r.map Prod.fst)=(s:Rat) * (x.1 - altR (r.map Prod.fst))
  rw [Rat.intCast_neg]
  grind
theorem altI_tot:∀ {s:Int} {l:List (Rat×Int)},AltI s l→(l.map Prod.snd).sum=if l.length % 2=0 then 0 else s
 | s,[],_=>by simp
 | s,x :: r,h=>by
  obtain ⟨h1,h2⟩:=h
  rw [List.map_cons,List.sum_cons,altI_tot h2,h1,List.length_cons]
  by_cases c:r.length % 2=0
  ·rw [if_pos c,if_neg (by lia)]; lia
  ·rw [if_neg c,if_pos (by lia)]; lia
theorem sgs_lo {h:Rat}:∀ {l:List (Rat×Int)},(∀ y∈l,h < y.1)→(l.map fun y=>y.2 * sgQ (y.1 - h)).sum=(l.map Prod.snd).sum
 | [],_=>rfl
 | y :: l,g=>by
  have:=g y List.mem_cons_self
  rw [List.map_cons,List.sum_cons,List.map_cons,List.sum_cons,sgs_lo fun z m=>g z (List.mem_cons_of_mem _ m)]
  unfold sgQ
  rw [if_pos (by grind),Int.mul_one]
theorem sgs_hi {h:Rat}:∀ {l:List (Rat×Int)},(∀ y∈l,y.1 < h)→(l.map fun y=>y.2 * sgQ (y.1 - h)).sum = -(l.map Prod.snd).sum
 | [],_=>rfl
 | y :: l,g=>by
  have:=g y List.mem_cons_self
  rw [List.map_cons,List.sum_cons,List.map_cons,List.sum_cons,sgs_hi fun z m=>g z (List.mem_cons_of_mem _ m)]
  unfold sgQ
  rw [if_neg (by grind),if_pos (by grind)]
  lia
theorem alt_go {s:Int}:∀ (l pre:List (Rat×Int)),(pre ++ l).Pairwise (fun a b=>b.1 < a.1)→(∀ x∈l,((pre ++ l).map fun y=>y.2 * sgQ (y.1 - x.1)).sum=s)→((pre ++ l).map Prod.snd).sum=0 →
  ((pre.map Prod.snd).sum=0→AltI s l)∧((pre.map Prod.snd).sum=s→AltI (-s) l)
 | [],_,_,_,_=>⟨fun _=>trivial,fun _=>trivial⟩
 | x :: l,pre,pw,T,z=>by
  have t:=T x List.mem_cons_self
  obtain ⟨p1,p2,p3⟩:=List.pairwise_append.mp pw
  obtain ⟨p4,p5⟩:=List.pairwise_cons.mp p2
  rw [List.map_append,List.sum_append,List.map_cons,List.sum_cons,sgs_lo fun y m=>p3 y m x List.mem_cons_self,sgs_hi fun y m=>p4 y m,Rat.sub_self,sgQ_0,Int.mul_zero] at t
  have z':=z
  rw [List.map_append,List.sum_append,List.map_cons,List.sum_cons] at z'
  have ap:pre ++ x :: l=(pre ++ [x]) ++ l:=by simp
  rw [ap] at pw z
  obtain ⟨g1,g2⟩:=alt_go l (pre ++ [x]) pw (fun y m=>by rw [← ap]; exact T y (List.mem_cons_of_mem _ m)) z
  have e:((pre ++ [x]).map Prod.snd).sum=(pre.map Prod.snd).sum + x.2:=by
   rw [List.map_append,List.sum_append,List.map_singleton,List.sum_singleton]
  rw [e] at g1 g2
  constructor
  ·intro c
   exact ⟨by lia,g2 (by lia)⟩
  ·intro c
   refine ⟨by lia,?_⟩
   rw [Int.neg_neg]
   exact g1 (by lia)
theorem prmI {α:Type} {f:α→Int} {a b:List α} (h:a.Perm b):(a.map f).sum=(b.map f).sum:=by
 induction h with
 | nil=>rfl
 | cons x _ ih=>rw [List.map_cons,List.sum_cons,ih,List.map_cons,List.sum_cons]
 | swap x y l=>simp only [List.map_cons,List.sum_cons]; lia
 | trans _ _ h1 h2=>exact h1.trans h2
theorem prmR {α:Type} {f:α→Rat} {a b:List α} (h:a.Perm b):(a.map f).sum=(b.map f).sum:=by
 induction h with
 | nil=>rfl
 | cons x _ ih=>rw [List.map_cons,List.sum_cons,ih,List.map_cons,List.sum_cons]
 | swap x y l=>simp only [List.map_cons,List.sum_cons]; grind
 | trans _ _ h1 h2=>exact h1.trans h2
theorem alt_pos {l:List (Rat×Int)} {s:Int} (ne:l≠[]) (d1:∀ x∈l,x.2≠0) (pw:l.Pairwise fun a b=>a.1≠b.1) (T:∀ x∈l,(l.map fun y=>y.2 * sgQ (y.1 - x.1)).sum=s) (z:(l.map Prod.snd).sum=0) :
  0 < (s:Rat) * (l.map fun x=>(x.2:Rat) * x.1).sum:=by
 have pm:=List.mergeSort_perm l fun a b=>decide (b.1≤a.1)
 have ps:=List.pairwise_mergeSort (le:=fun a b:Rat×Int=>decide (b.1≤a.1)) (fun a b c h1 h2=>by rw [decide_eq_true_eq] at *; exact Rat.le_trans h2 h1) (fun a b=>by
  rw [Bool.or_eq_true,decide_eq_true_eq,decide_eq_true_eq]; exact Rat.le_total) l
 generalize l.mergeSort (fun a b=>decide (b.1≤a.1))=k at *
 have pk:k.Pairwise fun a b=>a.1≠b.1:=pm.symm.pairwise pw fun h=>h.symm
 have pf:k.Pairwise fun a b=>b.1 < a.1:=(List.pairwise_and_iff.mpr ⟨ps,pk⟩).imp fun {a b} h=>by
  obtain ⟨h1,h2⟩:=h
  rw [decide_eq_true_eq] at h1
  grind
 have al:=(alt_go (s:=s) k [] pf (fun x m=>by
  rw [List.nil_append,prmI pm]
  exact T x (pm.mem_iff.mp m)) (by rw [List.nil_append,prmI pm]; exact z)).1 rfl
 have kn:k≠[]:=fun e=>by rw [e] at pm; exact ne (List.nil_perm.mp pm)
 have s0:s≠0:=by
  cases k with
  | nil=>exact absurd rfl kn
  | cons x r=>rw [← al.1]; exact d1 x (pm.mem_iff.mp List.mem_cons_self)
 have ev:k.length % 2=0:=by
  have t:=altI_tot al
  rw [prmI pm,z] at t
  by_cases c:k.length % 2=0
  ·exact c
  ·rw [if_neg c] at t; exact absurd t.symm s0
 have q:=altR_pos (l:=k.map Prod.fst) (List.pairwise_map.mpr pf) (by rw [List.length_map]; exact ev) (fun e=>kn (List.map_eq_nil_iff.mp e))
 have sm:=altI_sum al
 have sr:(l.map fun x=>(x.2:Rat) * x.1).sum=(k.map fun x=>(x.2:Rat) * x.1).sum:=prmR pm.symm
 rw [sr,sm]
 have s2:(0:Rat) < (s:Rat) * s:=by
  have:0 < s * s:=by
   rcases Int.lt_or_gt_of_ne s0 with c | c
   ·have:=Int.mul_pos_of_neg_of_neg c c
    exact this
   ·exact Int.mul_pos c c
  exact_mod_cast this
 have:=Rat.mul_pos s2 q
 grind
end Cut
namespace Cut
open L2 L3
def DS (ps:List F2) (w:Rat):Rat:=((List.range ps.length).map fun j:Nat=>(eS ps j w:Rat) * htS ps j w).sum
theorem fltI {α:Type} (p:α→Bool) (f:α→Int):∀ l:List α,(∀ x∈l,p x=false→f x=0)→((l.filter p).map f).sum=(l.map f).sum
 | [],_=>rfl
 | x :: l,h=>by
  have ih:=fltI p f l fun y m=>h y (List.mem_cons_of_mem _ m)
  rw [List.map_cons,List.sum_cons,List.filter_cons]
  cases c:p x with
  | true=>rw [if_pos rfl,List.map_cons,List.sum_cons,ih]
  | false=>rw [if_neg (by decide),ih,h x List.mem_cons_self c,Int.zero_add]
theorem fltR {α:Type} (p:α→Bool) (f:α→Rat):∀ l:List α,(∀ x∈l,p x=false→f x=0)→((l.filter p).map f).sum=(l.map f).sum
 | [],_=>rfl
 | x :: l,h=>by
  have ih:=fltR p f l fun y m=>h y (List.mem_cons_of_mem _ m)
  rw [List.map_cons,List.sum_cons,List.filter_cons]
  cases c:p x with
  | true=>rw [if_pos rfl,List.map_cons,List.sum_cons,ih]
  | false=>rw [if_neg (by decide),ih,h x List.mem_cons_self c,Rat.zero_add]
theorem e_ovo {ps:List F2} {j:Int} {w:Rat} (h:eS ps j w≠0) (n1:w≠shX ps j) (n2:w≠shX ps (j + 1)):OvO ps j w:=by
 have:=e_ov h
 unfold OvC at this
 unfold OvO
 rcases this with a | a
 ·exact .inl ⟨by grind,by grind⟩
 ·exact .inr ⟨by grind,by grind⟩
theorem e_tot (ps:List F2) (w:Rat):((List.range ps.length).map fun j:Nat=>eS ps j w).sum=0:=by
 have t:=sum_tele (fun j=>if w < (shX ps j:Rat) then (1:Int) else 0) ps.length
 have e:shX ps (ps.length:Int)=shX ps 0:=shX_same0 (by rw [Int.emod_self]; rfl)
 rw [e,Int.sub_self] at t
 exact t
theorem D_sgn {ps:List F2} (l3:3≤ps.length) (nd:ps.Nodup) (S:Simp ps) {s:Int} (hs:∀ i w,OvO ps i w→TS ps i w=s) {w:Rat} (nc:∀ k:Int,w≠shX ps k) :
  0≤(s:Rat) * DS ps w∧((∃ j:Nat,j < ps.length∧eS ps j w≠0)→0 < (s:Rat) * DS ps w):=by
 have z1:∀ j:Nat,(eS ps j w != 0)=false→eS ps j w=0:=fun j h=>by
  refine Classical.byContradiction fun c=>?_
  rw [bne_iff_ne.mpr c] at h
  exact absurd h (by decide)
 have hd:DS ps w=((((List.range ps.length).filter fun j:Nat=>eS ps j w != 0).map fun j:Nat=>(htS ps j w,eS ps j w)).map fun x:Rat×Int=>(x.2:Rat) * x.1).sum:=by
  rw [List.map_map]
  exact (fltR (fun j:Nat=>eS ps j w != 0) (fun j:Nat=>(eS ps j w:Rat) * htS ps j w) (List.range ps.length) fun j _ h=>by rw [z1 j h]; exact Rat.zero_mul _).symm
 have main:((List.range ps.length).filter fun j:Nat=>eS ps j w != 0)≠[]→0 < (s:Rat) * DS ps w:=fun ne=>by
  rw [hd]
  refine alt_pos (fun e=>ne (List.map_eq_nil_iff.mp e)) ?_ ?_ ?_ ?_
  ·intro x m
   obtain ⟨j,mj,rfl⟩:=List.mem_map.mp m
   exact bne_iff_ne.mp (List.mem_filter.mp mj).2
  ·refine List.pairwise_map.mpr ?_
   have pr:=(List.pairwise_lt_range (n:=ps.length)).filter fun j:Nat=>eS ps j w != 0
   refine pr.imp_of_mem fun {a b} ma mb lt=>?_
   have fa:=List.mem_filter.mp ma
   have fb:=List.mem_filter.mp mb
   have la:=List.mem_range.mp fa.1
   have lb:=List.mem_range.mp fb.1
   have qa:(a:Int) % (ps.length:Int)=a:=Int.emod_eq_of_lt (by lia) (by lia)
   have qb:(b:Int) % (ps.length:Int)=b:=Int.emod_eq_of_lt (by lia) (by lia)
   exact ht_ne l3 nd S (e_ov (bne_iff_ne.mp fa.2)) (e_ov (bne_iff_ne.mp fb.2)) (by lia) (fun c=>nc _ c.2) (fun c=>nc _ c.2)
  ·intro x m
   obtain ⟨j,mj,rfl⟩:=List.mem_map.mp m
   rw [List.map_map,← hs j w (e_ovo (bne_iff_ne.mp (List.mem_filter.mp mj).2) (nc _) (nc _))]
   exact fltI (fun j:Nat=>eS ps j w != 0) (fun i:Nat=>eS ps i w * sgQ (htS ps i w - htS ps j w)) (List.range ps.length) fun j _ h=>by rw [z1 j h]; exact Int.zero_mul _
  ·rw [List.map_map]
   refine Eq.trans ?_ (e_tot ps w)
   exact fltI (fun j:Nat=>eS ps j w != 0) (fun i:Nat=>eS ps i w) (List.range ps.length) fun j _ h=>z1 j h
 refine ⟨?_,fun ⟨j,jl,je⟩=>main fun e=>?_⟩
 ·by_cases c:((List.range ps.length).filter fun j:Nat=>eS ps j w != 0)=[]
  ·rw [hd,c]
   simp
  ·exact Rat.le_of_lt (main c)
 ·have:j∈(List.range ps.length).filter fun j:Nat=>eS ps j w != 0:=List.mem_filter.mpr ⟨List.mem_range.mpr jl,bne_iff_ne.mpr je⟩
  rw [e] at this
  exact absurd this List.not_mem_nil
def HS (ps:List F2) (i:Int) (z:Rat):Rat:=(z - shX ps i) * (shY ps i + htS ps i z)
theorem HS_step (ps:List F2) (i:Int) (z:Rat):HS ps i (z + 1) - HS ps i z=2 * htS ps i (z + 1 / 2):=by
 unfold HS htS
 have hh:∀ a:Rat,a / ((shX ps (i + 1):Rat) - shX ps i)=a * ((shX ps (i + 1):Rat) - shX ps i)⁻¹:=fun a=>Rat.div_def a _
 simp only [hh]
 generalize ((shX ps (i + 1):Rat) - shX ps i)⁻¹=t
 grind
theorem strip_sum (H:Int→Rat) (lo c:Int) (h:lo≤c):∀ N:Nat,((List.range N).map fun t:Nat=>if lo + (t:Int) < c then H (lo + t + 1) - H (lo + t) else 0).sum=H (if lo + (N:Int) < c then lo + N else c) - H lo
 | 0=>by
  simp
  by_cases d:lo < c
  ·rw [if_pos d]; grind
  ·rw [if_neg d,show c=lo by lia]; grind
 | N + 1=>by
  rw [List.range_succ,List.map_append,List.sum_append,strip_sum H lo c h N,List.map_singleton,List.sum_singleton]
  by_cases a:lo + (N:Int) < c
  ·rw [if_pos a,if_pos a]
   by_cases b:lo + ((N + 1:Nat):Int) < c
   ·rw [if_pos b,show lo + ((N + 1:Nat):Int)=lo + N + 1 by lia]; grind
   ·rw [if_neg b,show c=lo + N + 1 by lia]; grind
  ·rw [if_neg a,if_neg a,if_neg (by lia)]; grind
theorem swapR (f:Nat→Nat→Rat) (m:Nat):∀ n:Nat,((List.range n).map fun i=>((List.range m).map fun t=>f i t).sum).sum=((List.range m).map fun t=>((List.range n).map fun i=>f i t).sum).sum
 | 0=>by
  have:∀ l:List Nat,(l.map fun _=>(0:Rat)).sum=0:=fun l=>by
   induction l with
   | nil=>rfl
   | cons _ l ih=>rw [List.map_cons,List.sum_cons,ih,Rat.add_zero]
  simp [this]
 | n + 1=>by
  have ad:∀ (g h:Nat→Rat) (l:List Nat),(l.map fun t=>g t + h t).sum=(l.map g).sum + (l.map h).sum:=fun g h l=>by
   induction l with
   | nil=>show (0:Rat)=0 + 0; grind
   | cons _ l ih=>simp only [List.map_cons,List.sum_cons,ih]; grind
  rw [List.range_succ,List.map_append,List.sum_append,swapR f m n,List.map_singleton,List.sum_singleton,← ad]
  congr 1
  refine List.map_congr_left fun t _=>?_
  rw [List.map_append,List.sum_append,List.map_singleton,List.sum_singleton]
theorem side_strips {ps:List F2} (l3:3≤ps.length) (nd:ps.Nodup) (i lo:Int) (N:Nat) (h1:lo≤shX ps i) (h2:lo≤shX ps (i + 1)) (g1:shX ps i≤lo + N) (g2:shX ps (i + 1)≤lo + N) :
  (((shX ps (i + 1) - shX ps i) * (shY ps i + shY ps (i + 1)):Int):Rat)=((List.range N).map fun t:Nat=>2 * ((eS ps i (((lo + (t:Int):Int):Rat) + 1 / 2):Rat) * htS ps i (((lo + (t:Int):Int):Rat) + 1 / 2))).sum:=by
 have a:=strip_sum (fun z=>HS ps i z) lo _ h1 N
 have b:=strip_sum (fun z=>HS ps i z) lo _ h2 N
 have ca:(if lo + (N:Int) < shX ps i then lo + (N:Int) else shX ps i)=shX ps i:=by rw [if_neg (by lia)]
 have cb:(if lo + (N:Int) < shX ps (i + 1) then lo + (N:Int) else shX ps (i + 1))=shX ps (i + 1):=by rw [if_neg (by lia)]
 rw [ca] at a
 rw [cb] at b
 have ha:HS ps i (shX ps i)=0:=by unfold HS; rw [Rat.sub_self,Rat.zero_mul]
 have hb:HS ps i (shX ps (i + 1))=((shX ps (i + 1):Rat) - shX ps i) * (shY ps i + shY ps (i + 1)):=by unfold HS; rw [ht_r l3 nd]
 have sb:∀ (g h:Nat→Rat) (l:List Nat),(l.map fun t=>g t - h t).sum=(l.map g).sum - (l.map h).sum:=fun g h l=>by
  induction l with
  | nil=>show (0:Rat)=0 - 0; grind
  | cons _ l ih=>simp only [List.map_cons,List.sum_cons,ih]; grind
 have e:(((shX ps (i + 1) - shX ps i) * (shY ps i + shY ps (i + 1)):Int):Rat)=((shX ps (i + 1):Rat) - shX ps i) * (shY ps i + shY ps (i + 1)):=by
  simp only [Rat.intCast_mul,Rat.intCast_add,Rat.intCast_sub]
 rw [e,← hb]
 rw [ha] at a
 have:HS ps i (shX ps (i + 1))=(HS ps i (shX ps (i + 1)) - HS ps i lo) - (0 - HS ps i lo):=by grind
 rw [this,← b,← a,← sb]
 congr 1
 refine List.map_congr_left fun t _=>?_
 have st:=HS_step ps i ((lo + (t:Int):Int):Rat)
 have cs:(((lo + (t:Int) + 1:Int)):Rat)=((lo + (t:Int):Int):Rat) + 1:=by simp only [Rat.intCast_add]; rfl
 rw [cs,st]
 have dc:∀ c:Int,(((lo + (t:Int):Int):Rat) + 1 / 2 < (c:Rat))↔lo + (t:Int) < c:=fun c=>by
  constructor
  ·intro h
   have:((lo + (t:Int):Int):Rat) < (c:Rat):=by grind
   exact_mod_cast this
  ·intro h
   have:((lo + (t:Int):Int):Rat) + 1≤c:=by exact_mod_cast h
   grind
 unfold eS
 simp only [dc]
 by_cases x:lo + (t:Int) < shX ps (i + 1) <;> by_cases y:lo + (t:Int) < shX ps i
 all_goals simp only [x,y,if_true,if_false]
 all_goals (try simp)
 all_goals grind
theorem sum_lt {f:Nat→Rat}:∀ {N:Nat},(∀ t,t < N→0≤f t)→(∃ t,t < N∧0 < f t)→0 < ((List.range N).map f).sum
 | 0,_,⟨t,h,_⟩=>absurd h (Nat.not_lt_zero t)
 | N + 1,h,⟨t,tl,tp⟩=>by
  rw [List.range_succ,List.map_append,List.sum_append,List.map_singleton,List.sum_singleton]
  have nn:∀ {M:Nat},(∀ t,t < M→0≤f t)→0≤((List.range M).map f).sum:=fun {M}=>by
   induction M with
   | zero=>intro _; simp
   | succ M ih =>
    intro g
    rw [List.range_succ,List.map_append,List.sum_append,List.map_singleton,List.sum_singleton]
    have:=ih fun t tl=>g t (by lia)
    have:=g M (by lia)
    grind
  by_cases c:t=N
  ·have:=nn (M:=N) fun t tl=>h t (by lia)
   rw [c] at tp
   grind
  ·have:=sum_lt (N:=N) (fun t tl=>h t (by lia)) ⟨t,by lia,tp⟩
   have:=h N (by lia)
   grind
theorem mulR (c:Rat) (f:Nat→Rat) (l:List Nat):(l.map fun t=>c * f t).sum=c * (l.map f).sum:=by
 induction l with
 | nil=>show (0:Rat)=c * 0; grind
 | cons _ l ih=>simp only [List.map_cons,List.sum_cons,ih]; grind
theorem castR (f:Nat→Int) (l:List Nat):(((l.map f).sum:Int):Rat)=(l.map fun t=>(f t:Rat)).sum:=by
 induction l with
 | nil=>rfl
 | cons _ l ih=>simp only [List.map_cons,List.sum_cons,← ih,Rat.intCast_add]
theorem tw_ne {ps:List F2} (l3:3≤ps.length) (nd:ps.Nodup) (S:Simp ps):tw ps≠0:=fun z=>by
 obtain ⟨s,hs⟩:=T_all l3 nd S
 let M:Nat:=((List.range ps.length).map fun i:Nat=>(shX ps i).natAbs).sum
 have hM:∀ i:Int,(shX ps i).natAbs≤M:=fun i=>by
  have q:i % (ps.length:Int)=((i % (ps.length:Int)).toNat:Int) % (ps.length:Int):=by
   rw [Int.toNat_of_nonneg (Int.emod_nonneg _ (by lia)),Int.emod_emod_of_dvd _ (Int.dvd_refl _)]
  have lt:=Int.emod_lt_of_pos i (show (0:Int) < ps.length by lia)
  have nn:=Int.emod_nonneg i (show (ps.length:Int)≠0 by lia)
  rw [shX_same0 q]
  exact le_sum (List.mem_map.mpr ⟨_,List.mem_range.mpr (by lia),rfl⟩)
 have nc:∀ t:Nat,∀ k:Int,(((-(M:Int) + (t:Int):Int):Rat) + 1 / 2)≠shX ps k:=fun t k e=>by
  generalize (-(M:Int) + (t:Int):Int)=a at *
  have l1:(a:Rat) < (shX ps k:Rat):=by grind
  have l2:(shX ps k:Rat) < (a:Rat) + 1:=by grind
  have m1:a < shX ps k:=by exact_mod_cast l1
  have m2:shX ps k < a + 1:=by exact_mod_cast l2
  lia
 let w:Nat→Rat:=fun t=>((-(M:Int) + (t:Int):Int):Rat) + 1 / 2
 have sides:∀ i:Int,(((shX ps (i + 1) - shX ps i) * (shY ps i + shY ps (i + 1)):Int):Rat)=((List.range (2 * M)).map fun t:Nat=>2 * ((eS ps i (w t):Rat) * htS ps i (w t))).sum:=fun i=>by
  have a:=hM i
  have b:=hM (i + 1)
  exact side_strips l3 nd i (-(M:Int)) (2 * M) (by lia) (by lia) (by lia) (by lia)
 have all:((((List.range ps.length).map fun i:Nat=>(shX ps ((i:Int) + 1) - shX ps i) * (shY ps i + shY ps ((i:Int) + 1))).sum:Int):Rat)=((List.range (2 * M)).map fun t:Nat=>2 * DS ps (w t)).sum:=by
  rw [castR,List.map_congr_left fun (i:Nat) _=>sides i,swapR]
  congr 1
  refine List.map_congr_left fun t _=>?_
  rw [mulR]
  rfl
 have zero:((List.range ps.length).map fun i:Nat=>(shX ps ((i:Int) + 1) - shX ps i) * (shY ps i + shY ps ((i:Int) + 1))).sum=0:=by
  have ts:=tw_shear ps
  rw [z,Int.mul_zero] at ts
  have e1:shX ps ((ps.length:Int) - 1)=shX ps (-1):=shX_same0 (by rw [Int.sub_eq_add_neg,Int.add_emod_left])
  have e2:shY ps ((ps.length:Int) - 1)=shY ps (-1):=shY_same0 (by rw [Int.sub_eq_add_neg,Int.add_emod_left])
  have e3:shX ps (ps.length:Int)=shX ps 0:=shX_same0 (by rw [Int.emod_self]; rfl)
  have e4:shY ps (ps.length:Int)=shY ps 0:=shY_same0 (by rw [Int.emod_self]; rfl)
  have t1:=sum_tele (fun i=>(shX ps i - shX ps (i - 1)) * (shY ps (i - 1) + shY ps i)) ps.length
  have t2:=sum_tele (fun i=>shX ps (i - 1) * shY ps (i - 1)) ps.length
  rw [e1,e2,e3,e4] at t1
  rw [e1,e2] at t2
  have ad:=sum_add2 (fun i:Nat=>(shX ps ((i:Int) - 1) * shY ps i - shY ps ((i:Int) - 1) * shX ps i)) (fun i:Nat=>(shX ps ((i:Int) + 1) - shX ps i) * (shY ps i + shY ps ((i:Int) + 1))) (List.range ps.length)
  have ad2:=sum_add2 (fun j:Nat=>((shX ps ((j:Int) + 1) - shX ps ((j:Int) + 1 - 1)) * (shY ps ((j:Int) + 1 - 1) + shY ps ((j:Int) + 1)) - (shX ps j - shX ps ((j:Int) - 1)) * (shY ps ((j:Int) - 1) + shY ps j))) (fun j:Nat=>(shX ps ((j:Int) + 1 - 1) * shY ps ((j:Int) + 1 - 1) - shX ps ((j:Int) - 1) * shY ps ((j:Int) - 1))) (List.range ps.length)
  rw [t1,t2] at ad2
  have same:((List.range ps.length).map fun i:Nat=>(shX ps ((i:Int) - 1) * shY ps i - shY ps ((i:Int) - 1) * shX ps i) + (shX ps ((i:Int) + 1) - shX ps i) * (shY ps i + shY ps ((i:Int) + 1))).sum=((List.range ps.length).map fun j:Nat=>((shX ps ((j:Int) + 1) - shX ps ((j:Int) + 1 - 1)) * (shY ps ((j:Int) + 1 - 1) + shY ps ((j:Int) + 1)) - (shX ps j - shX ps ((j:Int) - 1)) * (shY ps ((j:Int) - 1) + shY ps j)) + (shX ps ((j:Int) + 1 - 1) * shY ps ((j:Int) + 1 - 1) - shX ps ((j:Int) - 1) * shY ps ((j:Int) - 1))).sum:=by
   congr 1
   refine List.map_congr_left fun i _=>?_
   rw [Int.add_sub_cancel]
   grind
  rw [ad,← ts] at same
  have q:=same.trans ad2
  rw [show (0:Int) - 1 = -1 from rfl] at q
  grind
 rw [zero] at all
 have pos:=sum_lt (f:=fun t=>(s:Rat) * (2 * DS ps (w t))) (N:=2 * M) (fun t _=>by
  have:=(D_sgn l3 nd S hs (nc t)).1
  show 0≤(s:Rat) * (2 * DS ps (w t))
  grind) (by
  have ne:=shX_step l3 nd 0
  have b0:=hM 0
  have b1:=hM (0 + 1)
  have fin:∀ c d:Int,c < d→c.natAbs≤M→d.natAbs≤M→∃ t:Nat,t < 2 * M∧(c:Rat) < w t∧w t < (d:Rat):=fun c d cd hc hd=>by
   refine ⟨(c + M).toNat,by lia,?_,?_⟩
   ·show (c:Rat) < ((-(M:Int) + (((c + M).toNat:Nat):Int):Int):Rat) + 1 / 2
    rw [show -(M:Int) + (((c + M).toNat:Nat):Int)=c by lia]
    grind
   ·show ((-(M:Int) + (((c + M).toNat:Nat):Int):Int):Rat) + 1 / 2 < (d:Rat)
    rw [show -(M:Int) + (((c + M).toNat:Nat):Int)=c by lia]
    have:(c:Rat) + 1≤d:=by exact_mod_cast cd
    grind
  rcases Int.lt_or_gt_of_ne ne with c | c
  ·obtain ⟨t,tl,h1,h2⟩:=fin _ _ c b0 b1
   refine ⟨t,tl,?_⟩
   have:=(D_sgn l3 nd S hs (nc t)).2 ⟨0,by lia,by
    unfold eS
    rw [show ((0:Nat):Int)=0 from rfl,if_pos h2,if_neg (by grind)]
    decide⟩
   show 0 < (s:Rat) * (2 * DS ps (w t))
   grind
  ·obtain ⟨t,tl,h1,h2⟩:=fin _ _ c b1 b0
   refine ⟨t,tl,?_⟩
   have:=(D_sgn l3 nd S hs (nc t)).2 ⟨0,by lia,by
    unfold eS
    rw [show ((0:Nat):Int)=0 from rfl,if_pos h2,if_neg (by grind)]
    decide⟩
   show 0 < (s:Rat) * (2 * DS ps (w t))
   grind)
 rw [mulR,← all,Rat.intCast_zero,Rat.mul_zero] at pos
 exact absurd pos (by grind)
end Cut
namespace Cut
open L2 L3
end Cut
namespace Cut
open PySem L2 L3
@[reducible] def Sm1 (p:F2):Prop := -100≤p.1∧p.1≤100 ∧ -100≤p.2∧p.2≤100
theorem Sm6.s1 {p:F2} (h:Sm6 p):Sm1 p:=by
 obtain ⟨a,b,c,d⟩:=h
 exact ⟨by lia,by lia,by lia,by lia⟩
def aptB (ps qs:List F2):Bool:=(List.range ps.length).all fun k=>(List.range qs.length).all fun j => !ltB (rng ps ((k:Int) - 1)) (rng ps k) (rng qs ((j:Int) - 1)) (rng qs j)
def wiB (p:F2) (ps:List F2):Bool:=xorL ((eds (ps.map up)).map (eAb p))
def rgN (rs:RS) (k:Nat):List F2:=rs.getD k []
def lcOk (rs:RS) (k:Nat):Bool:=smB (rgN rs k) && (List.range k).all fun j=>aptB (rgN rs j) (rgN rs k)
def lcIn (rs:RS) (k:Nat):Bool:=decide (0 < tw (rgN rs k)) == decide ((((rs.take k ++ rs.drop (k + 1)).filter (wiB ((rgN rs k).headD (0,0)))).length:Int) % 2=0)
def lcB (rs:RS):Bool:=decide (rs.length≤8) && (decide ((rs.map List.length).sum≤24) && ((List.range rs.length).all (lcOk rs) && (List.range rs.length).all (lcIn rs)))
theorem rgN_get {rs:RS} {k:Nat} (h:k < rs.length):rgN rs k=rs[k]:=by
 unfold rgN
 rw [List.getD_eq_getElem?_getD,List.getElem?_eq_getElem h]
 rfl
theorem rgN_at {rs:RS} {k:Nat} (h:k < rs.length):atI (rs.map dG) (k:Int)=some (dG (rgN rs k)):=by
 unfold atI ixN
 rw [List.length_map,if_pos (by lia),if_pos (by lia)]
 show (rs.map dG)[((k:Nat):Int).toNat]?=_
 rw [show ((k:Nat):Int).toNat=k by lia,List.getElem?_map,List.getElem?_eq_getElem h,rgN_get h]
 rfl
theorem rgN_mem {rs:RS} {k:Nat} (h:k < rs.length):rgN rs k∈rs:=by
 rw [rgN_get h]
 exact List.getElem_mem h
def apZ (ps qs:List F2):Prop:=∀ e∈zpF ps,∀ f∈zpF qs,tcB e.1 e.2 f.1 f.2=false
theorem zpF_iff {ps:List F2} {e:F2×F2}:e∈zpF ps↔∃ i:Nat,i < ps.length∧e=(rng ps i,rng ps (i + 1)):=by
 rw [List.mem_iff_getElem]
 constructor
 ·rintro ⟨i,h,rfl⟩
  rw [zpF_len] at h
  exact ⟨i,h,zpF_get h⟩
 ·rintro ⟨i,h,rfl⟩
  exact ⟨i,by rw [zpF_len]; exact h,zpF_get h⟩
theorem apt_iff {ps qs:List F2} (l1:3≤ps.length) (n1:ps.Nodup) (l2:3≤qs.length) (n2:qs.Nodup):aptB ps qs=true↔apZ ps qs:=by
 have st1:=rng_step l1 n1
 have st2:=rng_step l2 n2
 have sh:∀ {xs:List F2} {i:Nat},3≤xs.length→i < xs.length→∃ k:Nat,k < xs.length∧rng xs ((k:Int) - 1)=rng xs i∧rng xs k=rng xs (i + 1):=fun {xs i} l h=>by
  by_cases c:i + 1 < xs.length
  ·exact ⟨i + 1,c,by rw [show ((i + 1:Nat):Int) - 1=i by lia],by rw [show ((i + 1:Nat):Int)=(i:Int) + 1 by lia]⟩
  ·refine ⟨0,by lia,?_,?_⟩
   ·rw [← rng_mod,← rng_mod xs i,show (((0:Nat):Int) - 1)=(i:Int) - xs.length by lia,Int.sub_emod_right]
   ·rw [← rng_mod,← rng_mod xs (i + 1),show (i:Int) + 1=xs.length by lia,Int.emod_self]
    rfl
 have hs:∀ {xs:List F2} {k:Nat},3≤xs.length→k < xs.length→∃ i:Nat,i < xs.length∧rng xs ((k:Int) - 1)=rng xs i∧rng xs k=rng xs (i + 1):=fun {xs k} l h=>by
  by_cases c:k=0
  ·subst c
   refine ⟨xs.length - 1,by lia,?_,?_⟩
   ·rw [← rng_mod,← rng_mod xs ((xs.length - 1:Nat):Int),show (((0:Nat):Int) - 1)=((xs.length - 1:Nat):Int) - xs.length by lia,Int.sub_emod_right]
   ·rw [← rng_mod,← rng_mod xs (((xs.length - 1:Nat):Int) + 1),show ((xs.length - 1:Nat):Int) + 1=xs.length by lia,Int.emod_self]
    rfl
  ·exact ⟨k - 1,by lia,by rw [show ((k - 1:Nat):Int)=(k:Int) - 1 by lia],by rw [show ((k - 1:Nat):Int) + 1=k by lia]⟩
 unfold aptB apZ
 constructor
 ·intro h e he f hf
  obtain ⟨i,hi,rfl⟩:=zpF_iff.mp he
  obtain ⟨j,hj,rfl⟩:=zpF_iff.mp hf
  obtain ⟨k,hk,a,b⟩:=sh l1 hi
  obtain ⟨m,hm,c,d⟩:=sh l2 hj
  have:=List.all_eq_true.mp (List.all_eq_true.mp h k (List.mem_range.mpr hk)) m (List.mem_range.mpr hm)
  rw [a,b,c,d,← touch_eq (st1 i) (st2 j),Bool.not_eq_true'] at this
  exact this
 ·intro h
  refine List.all_eq_true.mpr fun k hk=>List.all_eq_true.mpr fun m hm=>?_
  obtain ⟨i,hi,a,b⟩:=hs l1 (List.mem_range.mp hk)
  obtain ⟨j,hj,c,d⟩:=hs l2 (List.mem_range.mp hm)
  rw [a,b,c,d,← touch_eq (st1 i) (st2 j),Bool.not_eq_true']
  exact h _ (zpF_iff.mpr ⟨i,hi,rfl⟩) _ (zpF_iff.mpr ⟨j,hj,rfl⟩)
theorem ok_iff (rs:RS):(List.range rs.length).all (lcOk rs)=true↔(∀ ps∈rs,3≤ps.length∧ps.Nodup∧Simp ps)∧rs.Pairwise apZ:=by
 have A:(List.range rs.length).all (lcOk rs)=true↔∀ k,k < rs.length→smB (rgN rs k)=true∧∀ j,j < k→aptB (rgN rs j) (rgN rs k)=true:=by
  rw [List.all_eq_true]
  constructor
  ·intro h k hk
   have:=h k (List.mem_range.mpr hk)
   unfold lcOk at this
   rw [Bool.and_eq_true] at this
   exact ⟨this.1,fun j hj=>List.all_eq_true.mp this.2 j (List.mem_range.mpr hj)⟩
  ·intro h k hk
   obtain ⟨a,b⟩:=h k (List.mem_range.mp hk)
   unfold lcOk
   rw [a,List.all_eq_true.mpr fun j hj=>b j (List.mem_range.mp hj)]
   rfl
 rw [A]
 constructor
 ·intro h
  have s:∀ ps∈rs,3≤ps.length∧ps.Nodup∧Simp ps:=fun ps hp=>by
   obtain ⟨k,hk,rfl⟩:=List.mem_iff_getElem.mp hp
   rw [← rgN_get hk]
   exact (sm_simp _).mp (h k hk).1
  refine ⟨s,List.pairwise_iff_getElem.mpr fun i j hi hj lt=>?_⟩
  obtain ⟨a1,a2,_⟩:=s _ (List.getElem_mem hi)
  obtain ⟨b1,b2,_⟩:=s _ (List.getElem_mem hj)
  have:=(h j hj).2 i lt
  rw [rgN_get hi,rgN_get hj] at this
  exact (apt_iff a1 a2 b1 b2).mp this
 ·rintro ⟨s,pw⟩ k hk
  refine ⟨by rw [rgN_get hk]; exact (sm_simp _).mpr (s _ (List.getElem_mem hk)),fun j hj=>?_⟩
  have hj':j < rs.length:=by lia
  obtain ⟨a1,a2,_⟩:=s _ (List.getElem_mem hj')
  obtain ⟨b1,b2,_⟩:=s _ (List.getElem_mem hk)
  rw [rgN_get hj',rgN_get hk]
  exact (apt_iff a1 a2 b1 b2).mpr (List.pairwise_iff_getElem.mp pw j k hj' hk hj)
theorem ap_iff {rs:RS} (h:∀ ps∈rs,3≤ps.length∧ps.Nodup):apB (idS rs)=true↔(∀ ps∈rs,Simp ps)∧rs.Pairwise apZ:=by
 unfold apB idS
 rw [decide_eq_true_iff,List.pairwise_flatMap]
 have one:∀ ps∈rs,∀ n:Nat,((zpF ps).map fun e=>(n,e)).Pairwise (fun a b=>ckB a.2 b.2 (decide (a.1=b.1))=false)↔Simp ps:=fun ps hp n=>by
  rw [← ap_simp (h ps hp).1 (h ps hp).2]
  unfold apB idS
  rw [decide_eq_true_iff]
  simp [List.pairwise_map]
 have ix:∀ x∈rs.zipIdx,x.1∈rs:=fun x hx=>by
  have:=List.fst_mem_of_mem_zipIdx hx
  exact this
 refine and_congr ?_ ?_
 ·constructor
  ·intro g ps hp
   obtain ⟨k,hk,rfl⟩:=List.mem_iff_getElem.mp hp
   exact (one _ hp k).mp (g (rs[k],k) (List.mem_zipIdx_iff_getElem?.mpr (by rw [List.getElem?_eq_getElem hk])))
  ·intro g x hx
   exact (one _ (ix x hx) x.2).mpr (g _ (ix x hx))
 ·rw [List.pairwise_iff_getElem,List.pairwise_iff_getElem]
  have ck:∀ e f:F2×F2,ckB e f false=tcB e.1 e.2 f.1 f.2:=fun e f=>by unfold ckB; simp
  constructor
  ·intro g i j hi hj lt e he f hf
   have:=g i j (by rw [List.length_zipIdx]; exact hi) (by rw [List.length_zipIdx]; exact hj) lt (i,e) (by rw [List.getElem_zipIdx]; exact List.mem_map.mpr ⟨e,he,by simp⟩) (j,f) (by rw [List.getElem_zipIdx]; exact List.mem_map.mpr ⟨f,hf,by simp⟩)
   rw [show decide (((i,e):Nat×(F2×F2)).1=((j,f):Nat×(F2×F2)).1)=false from decide_eq_false (show ¬ i=j by lia),ck] at this
   exact this
  ·intro g i j hi hj lt x hx y hy
   rw [List.length_zipIdx] at hi hj
   rw [List.getElem_zipIdx] at hx hy
   obtain ⟨e,he,rfl⟩:=List.mem_map.mp hx
   obtain ⟨f,hf,rfl⟩:=List.mem_map.mp hy
   dsimp only
   rw [decide_eq_false (by lia),ck]
   exact g i j hi hj lt e he f hf
theorem off_side {ps qs:List F2} {p:F2} (l1:1≤ps.length) (hp:p∈ps) (a:apZ ps qs∨apZ qs ps):∀ e∈eds (qs.map up),¬ onS p e:=by
 intro e he on
 obtain ⟨f,hf,ob⟩:=List.any_eq_true.mp ((any_zpF p qs).mpr ⟨e,he,on⟩)
 obtain ⟨i,hi,ei⟩:=List.mem_iff_getElem.mp hp
 have me:(rng ps i,rng ps (i + 1))∈zpF ps:=zpF_iff.mpr ⟨i,hi,rfl⟩
 have t:tcB f.1 f.2 (rng ps i) (rng ps (i + 1))=false:=by
  rcases a with a | a
  ·rw [tc_comm]; exact a _ me _ hf
  ·exact a _ hf _ me
 unfold tcB at t
 rw [rng_get hi,ei,ob] at t
 simp at t
theorem lc_is (rs:RS):lcB rs=clB rs:=by
 rw [Bool.eq_iff_iff]
 unfold lcB clB
 simp only [Bool.and_eq_true,decide_eq_true_iff]
 have al:(rs.all fun ps=>decide (3≤ps.length) && decide ps.Nodup)=true↔∀ ps∈rs,3≤ps.length∧ps.Nodup:=by
  rw [List.all_eq_true]
  constructor
  ·intro h ps hp
   have:=h ps hp
   rwa [Bool.and_eq_true,decide_eq_true_iff,decide_eq_true_iff] at this
  ·intro h ps hp
   rw [Bool.and_eq_true,decide_eq_true_iff,decide_eq_true_iff]
   exact h ps hp
 rw [ok_iff,al]
 have C:(∀ ps∈rs,3≤ps.length∧ps.Nodup∧Simp ps)→rs.Pairwise apZ→((List.range rs.length).all (lcIn rs)=true↔rgB rs=true):=fun s pw=>by
  have each:∀ k (hk:k < rs.length),lcIn rs k=(decide (tw rs[k] < 0) == inB (rs.take k ++ rs.drop (k + 1)) (rs[k].headD (0,0))):=fun k hk=>by
   obtain ⟨l3,nd,S⟩:=s _ (List.getElem_mem hk)
   have ne:=tw_ne l3 nd S
   unfold lcIn inB
   rw [rgN_get hk]
   have hp:rs[k].headD (0,0)∈rs[k]:=by
    cases e:rs[k] with
    | nil=>rw [e] at l3; exact absurd l3 (by decide)
    | cons x r=>exact List.mem_cons_self
   have e:((rs.take k ++ rs.drop (k + 1)).map fun ps=>xorL ((zpF ps).map (cR2 (rs[k].headD (0,0)))))=(rs.take k ++ rs.drop (k + 1)).map (wiB (rs[k].headD (0,0))):=by
    refine List.map_congr_left fun qs hq=>?_
    rw [xor_zpF]
    refine (par_ring (off_side (ps:=rs[k]) (by lia) hp ?_)).symm
    have pg:=List.pairwise_iff_getElem.mp pw
    rcases List.mem_append.mp hq with m | m
    ·obtain ⟨i,hi,rfl⟩:=List.mem_iff_getElem.mp m
     rw [List.length_take] at hi
     rw [List.getElem_take]
     exact .inr (pg i k (by lia) hk (by lia))
    ·obtain ⟨i,hi,rfl⟩:=List.mem_iff_getElem.mp m
     rw [List.length_drop] at hi
     rw [List.getElem_drop]
     exact .inl (pg k (k + 1 + i) hk (by lia) (by lia))
   rw [e,← odd_flt]
   generalize (((rs.take k ++ rs.drop (k + 1)).filter (wiB (rs[k].headD (0,0)))).length:Int)=c
   by_cases t:0 < tw rs[k]
   ·rw [decide_eq_true t,decide_eq_false (show ¬ tw rs[k] < 0 by lia)]
    by_cases o:c % 2=0
    ·rw [decide_eq_true o,decide_eq_false (show ¬ c % 2=1 by lia)]
     rfl
    ·rw [decide_eq_false o,decide_eq_true (show c % 2=1 by lia)]
     rfl
   ·rw [decide_eq_false t,decide_eq_true (show tw rs[k] < 0 by lia)]
    by_cases o:c % 2=0
    ·rw [decide_eq_true o,decide_eq_false (show ¬ c % 2=1 by lia)]
     rfl
    ·rw [decide_eq_false o,decide_eq_true (show c % 2=1 by lia)]
     rfl
  unfold rgB
  rw [List.all_eq_true,List.all_eq_true]
  constructor
  ·intro h x hx
   obtain ⟨i,hi,rfl⟩:=List.mem_iff_getElem.mp hx
   rw [List.length_zipIdx] at hi
   have:=h i (List.mem_range.mpr hi)
   rw [each i hi] at this
   rw [List.getElem_zipIdx]
   simpa using this
  ·intro h k hk
   have hk:=List.mem_range.mp hk
   rw [each k hk]
   have:=h (rs[k],k) (List.mem_zipIdx_iff_getElem?.mpr (by rw [List.getElem?_eq_getElem hk]))
   exact this
 constructor
 ·rintro ⟨a,b,⟨c,d⟩,e⟩
  exact ⟨⟨⟨⟨a,b⟩,fun ps hp=>⟨(c ps hp).1,(c ps hp).2.1⟩⟩,(ap_iff fun ps hp=>⟨(c ps hp).1,(c ps hp).2.1⟩).mpr ⟨fun ps hp=>(c ps hp).2.2,d⟩⟩,(C c d).mp e⟩
 ·rintro ⟨⟨⟨⟨a,b⟩,c⟩,d⟩,e⟩
  obtain ⟨d1,d2⟩:=(ap_iff c).mp d
  have c':∀ ps∈rs,3≤ps.length∧ps.Nodup∧Simp ps:=fun ps hp=>⟨(c ps hp).1,(c ps hp).2,d1 ps hp⟩
  exact ⟨a,b,⟨c',d2⟩,(C c' d2).mpr e⟩
end Cut
namespace Cut
open PySem L2 L3
open PySem.Builtin.Int (intBits)
structure Blts (mg:Str→Option Value):Prop where
 len_:mg "len" = none
 abs_:mg "abs" = none
 int_:mg "int" = none
 bool_:mg "bool" = none
 tuple_:mg "tuple" = none
 isinstance_:mg "isinstance" = none
 range_:mg "range" = none
 all_:mg "all" = none
 sum_:mg "sum" = none
 list_:mg "list" = none
 ValueError_:mg "ValueError" = none
 zip_:mg "zip" = none
 str_:mg "str" = none
 enumerate_:mg "enumerate" = none
 set_:mg "set" = none
 max_:mg "max" = none
 min_:mg "min" = none
 sorted_:mg "sorted" = none
 dict_:mg "dict" = none
local macro_rules | `(tactic| walk_at "bu") => `(tactic| first | assumption | exact intBits_sub_le (by walk_at "bu") (by walk_at "bu") | exact intBits_add_le (by walk_at "bu") (by walk_at "bu") | exact intBits_mul_le (by walk_at "bu") (by walk_at "bu") | exact intBits_neg_le (by walk_at "bu") | exact intBits_fdiv_le (by walk_at "bu") | exact bits_om (by omega) (by omega) | fail)
local macro_rules | `(tactic| walk_at "bits") => `(tactic| ((with_reducible show intBits _ ≤ _); first | assumption | exact Nat.le_trans (bits_om (by omega) (by omega)) (by decide) | decide +kernel | exact Nat.le_trans (by walk_at "bu") (by first | omega | decide) | fail))
local macro_rules | `(tactic| walk_at "sd") => `(tactic| first | ((with_reducible show intBits _ ≤ _); walk_at "bits") | ((with_reducible show CMulB _ _); exact ⟨by walk_at "bits", by walk_at "bits"⟩) | ((with_reducible show CDivB _ _); exact ⟨by omega, by walk_at "bits"⟩) | ((with_reducible show (_ : Int) < _); first | omega | decide +kernel) | ((with_reducible show (_ : Int) ≤ _); first | omega | decide +kernel) | ((with_reducible show CPow _ _); exact ⟨by decide, by decide, by decide⟩) | ((with_reducible show List.length _ ≤ sizeLine); first | (show 2 ≤ sizeLine; decide) | (show 3 ≤ sizeLine; decide) | (show 1 ≤ sizeLine; decide) | (show 0 ≤ sizeLine; decide) | (show 4 ≤ sizeLine; decide)) | fail)
local macro_rules | `(tactic| walk_at "w1") => `(tactic| first | refine ⟨_, rfl, ?_⟩ | refine ⟨_, _, rfl, rfl, ?_⟩ | refine ⟨_, _, rfl, rfl, by walk_at "sd", ?_⟩ | refine ⟨_, _, _, .inl rfl, rfl, rfl, ?_⟩ | refine ⟨_, _, _, .inr rfl, rfl, rfl, ?_⟩ | refine ⟨_, _, rfl, fun _ => rfl, ?_⟩ | refine ⟨by walk_at "sd", ?_⟩ | refine ⟨rfl, ?_⟩)
local macro_rules | `(tactic| walk_at "w") => `(tactic| repeat walk_at "w1")
local macro_rules | `(tactic| walk_at "wd") => `(tactic| (walk_at "w"; try dsimp only [fzR]))
local macro_rules | `(tactic| walk_at "it") => `(tactic| first | exact .inl (by assumption) | exact .inr (by assumption))
local macro_rules | `(tactic| walk_at "r0") => `(tactic| repeat (first | refine ⟨_, rfl, ?_⟩ | refine ⟨_, _, rfl, rfl, ?_⟩ | refine ⟨_, _, _, _, rfl, rfl, by walk_at "it", rfl, ?_⟩ | refine ⟨by walk_at "sd", ?_⟩))
local macro_rules | `(tactic| walk_at "rd") => `(tactic| (walk_at "r0"; try dsimp only))
local macro_rules | `(tactic| walk_at "fall") => `(tactic| first | exact List.forall_mem_cons.mpr ⟨rfl, by walk_at "fall"⟩ | exact List.forall_mem_nil _)
local macro_rules | `(tactic| walk_at "fal2") => `(tactic| first | exact List.forall_mem_nil _ | exact List.forall_mem_cons.mpr ⟨fun h => absurd h (by decide), by walk_at "fal2"⟩ | exact List.forall_mem_cons.mpr ⟨fun _ => ⟨_, rfl⟩, by walk_at "fal2"⟩)
local macro_rules | `(tactic| walk_at "fsub") => `(tactic| exact fsub_of (by walk_at "fall"))
local macro_rules | `(tactic| walk_at "fhas") => `(tactic| exact fhas_of (by walk_at "fal2"))
local macro_rules | `(tactic| walk_at "ffr") => `(tactic| (intro i y e; rcases i with _ | _ | _ | _ | _ | i <;> first | (cases e; done) | (cases e; exact ⟨_, rfl, rfl, rfl, Or.inl rfl, _, rfl⟩)))
variable {P:Program} {w:World} {K:PySem.W.Frag} {mg:Str→Option Value} {base:Heap}
theorem sc_law_cell:FnScope ["_law_script", "_law_k"] ["_law_script", "_law_k"] (defScope s_law_cell):=⟨rfl,rfl,rfl,by decide +kernel,rfl,by decide +kernel,by decide +kernel⟩
theorem ok_law_cell (B:Blts mg) (F:Fnd K mg "_law_cell" s_law_cell ["_law_script", "_law_k"]) :
  Cal P w K mg base "_law_cell" ["_law_script", "_law_k"] 1 (Con K 2 F_cell):=by
 refine Cal.imp (sp:=spCell K) ?_ (fun vs H Q E h=>cell_con h)
 refine F.ok (k:=0) sc_law_cell (fun vs H Q E h=>?_) (fun f cdv A outer s H vs Q E hr h=>?_)
 ·obtain ⟨a,k,ns,rfl,hS,h0,q⟩:=h
  rfl
 obtain ⟨a,k,ns,rfl,hS,h0,q⟩:=h
 refine ⟨_,(pss_cons (ps_if (pt_cmpR op_lt (pv 1) (pe_callB call_len_seq (by rfl) B.len_ (by decide +kernel) (pa_cons (pv 0) pa_nil)) (nomark _)) (pss_one (ps_ret (pe_ix ix_list (pv 0) (pv 1) (fun _ _=>rfl)))) pss_nil) (pss_one (ps_ret pe_int))),?_⟩
 refine ⟨_,rfl,_,rfl,a,_,rfl,.inl hS,_,_,rfl,rfl,_,rfl,?_⟩
 refine iteD (fun c=>?_) (fun c=>?_)
 ·rw [List.length_map] at c
  have hk:k.toNat < ns.length:=by lia
  have ek:k=((k.toNat:Nat):Int):=by lia
  have z:atI (ns.map V.int) ((k.toNat:Nat):Int)=some (.int ns[k.toNat]):=atI_nat (by rw [List.getElem?_map,List.getElem?_eq_getElem hk] <;> rfl)
  rw [← ek] at z
  exact ⟨_,rfl,_,rfl,a,_,_,_,rfl,rfl,hS,z,q _⟩
 ·exact q _
theorem sc_law_bag:FnScope ["_law_cell_here"] ["_law_cell_here"] (defScope s_law_bag):=⟨rfl,rfl,rfl,by decide +kernel,rfl,by decide +kernel,by decide +kernel⟩
theorem ok_bagA (B:Blts mg) (F:Fnd K mg "_law_bag" s_law_bag ["_law_cell_here"]) :
  Cal P w K mg base "_law_bag" ["_law_cell_here"] 1 (Con K 1 F_bag):=by
 refine Cal.imp (sp:=spBag) ?_ (fun vs H Q E h=>bag_con h)
 refine F.ok (k:=0) sc_law_bag (fun vs H Q E h=>?_) (fun f cdv A outer s H vs Q E hr h=>?_)
 ·obtain ⟨c,rfl,q⟩:=h
  rfl
 obtain ⟨c,rfl,q⟩:=h
 refine ⟨_,(pss_cons (ps_if (pt_cmpR op_ge (pv 0) (pe_op op_pow pe_int pe_int) (nomark _)) (pss_one (ps_ret (pe_lst (pa_cons (pv 0) (pa_cons (pe_op op_mod (pv 0) pe_int) pa_nil))))) pss_nil) (pss_one (ps_ret (pe_lst (pa_cons pe_int (pa_cons (pe_op op_mod (pe_op op_add (pe_op op_mulB (pe_op op_mod (pv 0) pe_int) pe_int) pe_int) pe_int) pa_nil)))))),?_⟩
 walk_at "rd"
 have e18:(10:Int) ^ ((18:Int).toNat)=1000000000000000000:=rfl
 refine iteD (fun g=>?_) (fun g=>?_)
 ·rw [e18] at g
  walk_at "rd"
  refine (fun p hp=>q p _ _ hp (by lia) ?_ ?_)
  ·exact Int.emod_nonneg _ (by decide)
  ·exact Int.emod_lt_of_pos _ (by decide)
 ·have m0:=Int.emod_nonneg c (show (2147483647:Int)≠0 by decide)
  have m1:=Int.emod_lt_of_pos c (show (0:Int) < 2147483647 by decide)
  walk_at "rd"
  refine (fun p hp=>q p _ _ hp (by decide) ?_ ?_)
  ·exact Int.emod_nonneg _ (by decide)
  ·exact Int.emod_lt_of_pos _ (by decide)
theorem sc_law_draw:FnScope ["_law_bag_here", "_law_many", "_law_found"] ["_law_bag_here", "_law_many"] (defScope s_law_draw):=⟨rfl,rfl,rfl,by decide +kernel,rfl,by decide +kernel,by decide +kernel⟩
theorem ok_drawA (B:Blts mg) (F:Fnd K mg "_law_draw" s_law_draw ["_law_bag_here", "_law_many"]) :
  Cal P w K mg base "_law_draw" ["_law_bag_here", "_law_many"] 1 (Con K 2 (F_draw 400)):=by
 refine Cal.imp (sp:=spDraw 400) ?_ (fun vs H Q E h=>draw_con h)
 refine F.ok (k:=0) sc_law_draw (fun vs H Q E h=>?_) (fun f cdv A outer s H vs Q E hr h=>?_)
 ·obtain ⟨b,m,rfl,⟨x,y,hb,x0,y0,y1⟩,m0,m1,q⟩:=h
  rfl
 obtain ⟨b,m,rfl,⟨x,y,hb,x0,y0,y1⟩,m0,m1,q⟩:=h
 refine ⟨_,(pss_cons (ps_if (pt_cmpR op_gt (pe_ix ix_any (pv 0) pe_int (fun _ _=>rfl)) pe_int (nomark _)) (pss_cons (ps_set (i:=2) sc_law_draw.nd rfl (Or.inl rfl) (pe_op op_mod (pe_ix ix_any (pv 0) pe_int (fun _ _=>rfl)) (pv 1))) (pss_cons (ps_asg (pe_op op_fdivB (pe_ix ix_any (pv 0) pe_int (fun _ _=>rfl)) (pv 1)) (pg_sub (pv 0) pe_int set_list)) (pss_one (ps_ret (pv 2))))) pss_nil) (pss_cons (ps_asg (pe_op op_mod (pe_op op_add (pe_op op_mulB (pe_ix ix_any (pv 0) pe_int (fun _ _=>rfl)) pe_int) pe_int) pe_int) (pg_sub (pv 0) pe_int set_list)) (pss_one (ps_ret (pe_op op_mod (pe_op op_fdivB (pe_op op_mod (pe_op op_mulB (pe_ix ix_any (pv 0) pe_int (fun _ _=>rfl)) (pe_op op_add (pe_op op_fdivB (pe_ix ix_any (pv 0) pe_int (fun _ _=>rfl)) pe_int) pe_int)) pe_int) pe_int) (pv 1)))))),?_⟩
 walk_at "rd"
 refine iteD (fun g=>?_) (fun g=>?_)
 ·walk_at "rd"
  refine ⟨b,_,_,_,rfl,rfl,hb,rfl,?_⟩
  refine ⟨_,rfl,?_⟩
  refine q _ _ (Ext.upd b H _) ⟨_,_,upd_same,?_,y0,y1⟩ (Int.emod_nonneg _ (by lia)) (Int.emod_lt_of_pos _ m0)
  exact Int.fdiv_nonneg x0 (Int.le_of_lt m0)
 ·have m2:=Int.emod_nonneg (y * 48271 + 4099) (show (2147483647:Int)≠0 by decide)
  have m3:=Int.emod_lt_of_pos (y * 48271 + 4099) (show (0:Int) < 2147483647 by decide)
  walk_at "rd"
  refine ⟨b,_,_,_,rfl,rfl,hb,rfl,?_⟩
  generalize (y * 48271 + 4099) % 2147483647=z at m2 m3 ⊢
  have hb2:(upd H b (.lst ([V.int x,V.int y].set 1 (V.int z)))) b=some (.lst [.int x,.int z]):=upd_same
  have k0:=Int.ediv_nonneg m2 (show (0:Int)≤65536 by decide)
  have k1:z / 65536≤z:=Int.ediv_le_self _ m2
  have ek:Int.fdiv z 65536=z / 65536:=Int.fdiv_eq_ediv_of_nonneg z (by decide)
  have kb:intBits (Int.fdiv z 65536 + 7)≤64:=by rw [ek]; exact bits_om (by lia) (by lia)
  walk_at "rd"
  refine q _ _ (Ext.upd b H _) ⟨_,_,hb2,x0,m2,m3⟩ (Int.emod_nonneg _ (by lia)) (Int.emod_lt_of_pos _ m0)
theorem sc_law_gcd:FnScope ["_law_one", "_law_two", "_law_rest"] ["_law_one", "_law_two"] (defScope s_law_gcd):=⟨rfl,rfl,rfl,by decide +kernel,rfl,by decide +kernel,by decide +kernel⟩
def F_law_gcd  : FS:=fun as k=>∃ (a b:Int),as=[.val (.int a),.val (.int b)]∧k (.val (.int (Int.gcd a b:Nat)))
theorem ok_law_gcd (B:Blts mg)   (F:Fnd K mg "_law_gcd" s_law_gcd ["_law_one", "_law_two"])  :
  Cal P w K mg base "_law_gcd" ["_law_one", "_law_two"] 2 (Con K 2 F_law_gcd):=by
 refine def3 (lv:=1) F sc_law_gcd rfl (fun f cdv A outer s H E hr=>⟨_,(s_cons (s_set (i:=0) sc_law_gcd.nd rfl (Or.inl rfl) (e_abs (v3 0) (by rfl) B.abs_)) (s_cons (s_set (i:=1) sc_law_gcd.nd rfl (Or.inl rfl) (e_abs (v3 1) (by rfl) B.abs_)) (s_cons (s_while PassesOwn.never (t_cmp (f:=fun i j=>decide (j < i)) op_gt (v3 1) e_int (nomark _)) (s_cons (s_set (i:=2) sc_law_gcd.nd rfl (Or.inl rfl) (e_mod (v3 0) (v3 1))) (s_cons (s_set (i:=0) sc_law_gcd.nd rfl (Or.inl rfl) (v3 1)) (s_one (s_set (i:=1) sc_law_gcd.nd rfl (Or.inl rfl) (v3 2)))))) (s_one (s_ret (v3 0)))))),?_⟩)
 rintro as k hl ⟨a,b,rfl,hk⟩
 refine at3 (r:=[.val (.int a),.val (.int b),.no]) rfl ?_
 walk_at "wd"
 refine ⟨fun m ρ=>∃ (x y:Int) (v:Sl),ρ=[.val (.int x),.val (.int y),v]∧0≤x∧0≤y∧Int.gcd x y=Int.gcd a b∧m=y.toNat,⟨_,_,_,_,rfl,?_,?_,gcd_abs a b,rfl⟩,?_⟩
 ·split <;> lia
 ·split <;> lia
 rintro m ρ ⟨x,y,v,rfl,x0,y0,hg,rfl⟩
 walk_at "wd"
 refine iteD (fun g=>?_) (fun g=>?_)
 ·walk_at "wd"
  have m0:=Int.emod_nonneg x (show y≠0 by lia)
  have m1:=Int.emod_lt_of_pos x g
  exact ⟨_,by lia,_,_,_,rfl,y0,m0,by rw [gcd_step x0 g]; exact hg,rfl⟩
 ·have e:y=0:=by lia
  subst e
  refine ⟨_,rfl,?_⟩
  rw [← gcd_zero_left x0,hg]
  exact hk
theorem sc_law_point:FnScope ["_law_a", "_law_b", "_law_n", "_law_both"] ["_law_a", "_law_b", "_law_n"] (defScope s_law_point):=⟨rfl,rfl,rfl,by decide +kernel,rfl,by decide +kernel,by decide +kernel⟩
def F_law_point  : FS:=fun as k=>∃ (a b n:Int),as=[.val (.int a),.val (.int b),.val (.int n)]∧(n≠0)∧(intBits n≤9000)∧k (.val (dP (npt a b n)))
theorem ok_law_point (B:Blts mg)   (F:Fnd K mg "_law_point" s_law_point ["_law_a", "_law_b", "_law_n"]) (c_law_gcd:Cal P w K mg base "_law_gcd" ["_law_one", "_law_two"] 2 (Con K 2 F_law_gcd)) :
  Cal P w K mg base "_law_point" ["_law_a", "_law_b", "_law_n"] 3 (Con K 3 F_law_point):=by
 refine def3 (lv:=2) F sc_law_point rfl (fun f cdv A outer s H E hr=>⟨_,(s_cons (s_set (i:=3) sc_law_point.nd rfl (Or.inl rfl) (e_call c_law_gcd hr (by rfl) (a_val (e_call c_law_gcd hr (by rfl) (a_val (v3 0) (a_val (v3 2) a_nil))) (a_val (v3 1) a_nil)))) (s_cons (s_if (t_cmp (f:=fun i j=>decide (i < j)) op_lt (v3 2) e_int (nomark _)) (s_one (s_set (i:=3) sc_law_point.nd rfl (Or.inl rfl) (e_neg (v3 3)))) s_nil) (s_one (s_ret (e_tup (l_cons (e_fdiv (v3 0) (v3 3)) (l_cons (e_fdiv (v3 1) (v3 3)) (l_cons (e_fdiv (v3 2) (v3 3)) l_nil)))))))),?_⟩)
 rintro as k hl ⟨a,b,n,rfl,hn,bn,hk⟩
 refine at3 (r:=[.val (.int a),.val (.int b),.val (.int n),.no]) rfl ?_
 walk_at "w"
 refine ⟨_,_,rfl,?_⟩
 walk_at "w"
 refine ⟨_,_,rfl,?_⟩
 dsimp only [fzR]
 have gp:=g3_pos (a:=a) (b:=b) hn
 have gb:=g3_bits (a:=a) (b:=b) hn bn
 rw [g3_an a b n]
 refine mid4 (fun ρ=>ρ=[.val (.int a),.val (.int b),.val (.int n),.val (.int (gsp a b n))]) ?_ (fun N kk=>?_)
 ·rintro ρ rfl
  have d0:gsp a b n≠0:=by unfold gsp; split <;> lia
  have db:intBits (gsp a b n)≤9000:=by
   unfold gsp
   split
   ·exact intBits_neg_le gb
   ·exact gb
  walk_at "w"
  exact hk
 ·walk_at "wd"
  refine iteD (fun g=>?_) (fun g=>?_)
  ·walk_at "w"
   refine kk _ ?_
   unfold gsp
   rw [if_pos g]
   rfl
  ·refine kk _ ?_
   unfold gsp
   rw [if_neg g]
   rfl
theorem sc_law_cross:FnScope ["_law_o", "_law_p", "_law_q"] ["_law_o", "_law_p", "_law_q"] (defScope s_law_cross):=⟨rfl,rfl,rfl,by decide +kernel,rfl,by decide +kernel,by decide +kernel⟩
def F_crossW  : FS:=fun as k=>∃ (o p q:Int×Int),as=[.val (dR o),.val (dR p),.val (dR q)]∧(SmW o)∧(SmW p)∧(SmW q)∧k (.val (.int ((p.1 - o.1) * (q.2 - o.2) - (p.2 - o.2) * (q.1 - o.1))))
theorem ok_crossW (B:Blts mg)   (F:Fnd K mg "_law_cross" s_law_cross ["_law_o", "_law_p", "_law_q"])  :
  Cal P w K mg base "_law_cross" ["_law_o", "_law_p", "_law_q"] 2 (Con K 3 F_crossW):=by
 refine def3 (lv:=1) F sc_law_cross rfl (fun f cdv A outer s H E hr=>⟨_,(s_one (s_ret (e_sub (e_mul (e_sub (e_ix (v3 1) e_int (fun _ _=>rfl)) (e_ix (v3 0) e_int (fun _ _=>rfl))) (e_sub (e_ix (v3 2) e_int (fun _ _=>rfl)) (e_ix (v3 0) e_int (fun _ _=>rfl)))) (e_mul (e_sub (e_ix (v3 1) e_int (fun _ _=>rfl)) (e_ix (v3 0) e_int (fun _ _=>rfl))) (e_sub (e_ix (v3 2) e_int (fun _ _=>rfl)) (e_ix (v3 0) e_int (fun _ _=>rfl))))))),?_⟩)
 rintro as k hl ⟨o,p,q,rfl,so,sp,sq,hk⟩
 refine at3 (r:=[.val (dR o),.val (dR p),.val (dR q)]) rfl ?_
 obtain ⟨o1,o2,o3,o4⟩:=so
 obtain ⟨p1,p2,p3,p4⟩:=sp
 obtain ⟨q1,q2,q3,q4⟩:=sq
 walk_at "w"
 exact hk
theorem sc_law_twice:FnScope ["_law_ring", "_law_found", "_law_k", "_law_p", "_law_q"] ["_law_ring"] (defScope s_law_twice):=⟨rfl,rfl,rfl,by decide +kernel,rfl,by decide +kernel,by decide +kernel⟩
def F_twiceC  : FS:=fun as k=>∃ (ps:List (Int×Int)),as=[.val (.lst (ps.map dR))]∧(ps.length≤75)∧(∀ p∈ps,Sm p)∧k (.val (.int (tw ps)))
theorem ok_twiceC (B:Blts mg)   (F:Fnd K mg "_law_twice" s_law_twice ["_law_ring"])  :
  Cal P w K mg base "_law_twice" ["_law_ring"] 2 (Con K 1 F_twiceC):=by
 refine def3 (lv:=1) F sc_law_twice rfl (fun f cdv A outer s H E hr=>⟨_,(s_cons (s_set (i:=1) sc_law_twice.nd rfl (Or.inl rfl) e_int) (s_cons (s_for PassesOwn.never rfl (i_rng (e_len (v3 0) (by rfl) B.len_) (by rfl) B.range_) (g_name (i:=2) sc_law_twice.nd rfl (Or.inl rfl)) (s_cons (s_set (i:=3) sc_law_twice.nd rfl (Or.inl rfl) (e_ix (v3 0) (e_sub (v3 2) e_int) (fun _ _=>rfl))) (s_cons (s_set (i:=4) sc_law_twice.nd rfl (Or.inl rfl) (e_ix (v3 0) (v3 2) (fun _ _=>rfl))) (s_one (s_set (i:=1) sc_law_twice.nd rfl (Or.inl rfl) (e_sub (e_add (v3 1) (e_mul (e_ix (v3 3) e_int (fun _ _=>rfl)) (e_ix (v3 4) e_int (fun _ _=>rfl)))) (e_mul (e_ix (v3 4) e_int (fun _ _=>rfl)) (e_ix (v3 3) e_int (fun _ _=>rfl))))))))) (s_one (s_ret (v3 1))))),?_⟩)
 rintro as k hl ⟨ps,rfl,hl,hs,hk⟩
 refine at3 (r:=[.val (.lst (ps.map dR)),.no,.no,.no,.no]) rfl ?_
 have len:(ps.map dR).length=ps.length:=List.length_map ..
 refine mid4 (fun ρ=>ρ=[.val (.lst (ps.map dR)),.val (.int 0),.no,.no,.no]) ?_ (fun N kk=>kk _ rfl)
 rintro ρ rfl
 refine mid4 (fun ρ=>∃ v2 v3 v4,ρ=[.val (.lst (ps.map dR)),.val (.int (tw ps)),v2,v3,v4]) (fun ρ ⟨v2,v3,v4,e⟩=>by subst e; exact ⟨_,rfl,hk⟩) (fun N kk=>?_)
 refine ⟨_,rfl,_,rfl,_,rfl,by lia,by rw [len]; lia,?_⟩
 rw [len,show ((ps.length:Nat):Int).toNat=ps.length by lia]
 refine forR_rng (fun i ρ=>∃ v2 v3 v4,ρ=[.val (.lst (ps.map dR)),.val (.int (((eds (ps.map up)).take i).map crI).sum),v2,v3,v4]) ⟨_,_,_,rfl⟩ ?_ (fun ρ ⟨v2,v3,v4,e⟩=>kk _ ⟨v2,v3,v4,?_⟩)
 rotate_left
 ·have al:=eds_all (ps.map up)
  rw [List.length_map] at al
  rw [e,al]
  rfl
 rintro i ρ hi ⟨v2,v3,v4,rfl⟩ N kk
 obtain ⟨p,q,mp,mq,gp,gq,et⟩:=back_up hi
 obtain ⟨p1,p2,p3,p4⟩:=hs p mp
 obtain ⟨q1,q2,q3,q4⟩:=hs q mq
 refine ⟨_,rfl,_,rfl,_,_,rfl,rfl,_,_,_,.inr rfl,rfl,gp,?_⟩
 refine ⟨_,rfl,_,rfl,_,_,_,.inr rfl,rfl,gq,?_⟩
 walk_at "w"
 refine kk _ ⟨.val (.int i),.val (dR p),.val (dR q),?_⟩
 have e2:(((eds (ps.map up)).take (i + 1)).map crI).sum=(((eds (ps.map up)).take i).map crI).sum + p.1 * q.2 - q.1 * p.2:=by
  rw [et,List.map_append,List.sum_append,Int.add_sub_assoc]
  show _ + (p.1 * q.2 - q.1 * p.2 + 0)=_
  rw [Int.add_zero]
 rw [e2]
 rfl
theorem sc_law_touch:FnScope ["_law_p", "_law_q", "_law_r", "_law_s", "_law_go", "_law_way", "_law_gap", "_law_whole", "_law_low", "_law_high", "_law_first", "_law_second"] ["_law_p", "_law_q", "_law_r", "_law_s"] (defScope s_law_touch):=⟨rfl,rfl,rfl,by decide +kernel,rfl,by decide +kernel,by decide +kernel⟩
def F_touchX  : FS:=fun as k=>∃ (p q r s:Int×Int),as=[.val (dR p),.val (dR q),.val (dR r),.val (dR s)]∧(Sm p)∧(Sm q)∧(Sm r)∧(Sm s)∧k (.val (.bl (ltB p q r s)))
theorem ok_touchX (B:Blts mg)   (F:Fnd K mg "_law_touch" s_law_touch ["_law_p", "_law_q", "_law_r", "_law_s"]) (c_law_cross:Cal P w K mg base "_law_cross" ["_law_o", "_law_p", "_law_q"] 2 (Con K 3 F_crossW)) :
  Cal P w K mg base "_law_touch" ["_law_p", "_law_q", "_law_r", "_law_s"] 3 (Con K 4 F_touchX):=by
 refine def3 (lv:=2) F sc_law_touch rfl (fun f cdv A outer s H E hr=>⟨_,(s_cons (s_set (i:=4) sc_law_touch.nd rfl (Or.inl rfl) (e_tup (l_cons (e_sub (e_ix (v3 1) e_int (fun _ _=>rfl)) (e_ix (v3 0) e_int (fun _ _=>rfl))) (l_cons (e_sub (e_ix (v3 1) e_int (fun _ _=>rfl)) (e_ix (v3 0) e_int (fun _ _=>rfl))) l_nil)))) (s_cons (s_set (i:=5) sc_law_touch.nd rfl (Or.inl rfl) (e_tup (l_cons (e_sub (e_ix (v3 3) e_int (fun _ _=>rfl)) (e_ix (v3 2) e_int (fun _ _=>rfl))) (l_cons (e_sub (e_ix (v3 3) e_int (fun _ _=>rfl)) (e_ix (v3 2) e_int (fun _ _=>rfl))) l_nil)))) (s_cons (s_set (i:=6) sc_law_touch.nd rfl (Or.inl rfl) (e_tup (l_cons (e_sub (e_ix (v3 2) e_int (fun _ _=>rfl)) (e_ix (v3 0) e_int (fun _ _=>rfl))) (l_cons (e_sub (e_ix (v3 2) e_int (fun _ _=>rfl)) (e_ix (v3 0) e_int (fun _ _=>rfl))) l_nil)))) (s_cons (s_set (i:=7) sc_law_touch.nd rfl (Or.inl rfl) (e_sub (e_mul (e_ix (v3 4) e_int (fun _ _=>rfl)) (e_ix (v3 5) e_int (fun _ _=>rfl))) (e_mul (e_ix (v3 4) e_int (fun _ _=>rfl)) (e_ix (v3 5) e_int (fun _ _=>rfl))))) (s_cons (s_if (t_cmp (f:=fun i j=>decide (i=j)) op_eqI (v3 7) e_int (nomark _)) (s_cons (s_set (i:=8) sc_law_touch.nd rfl (Or.inl rfl) (e_maxTX rfl (hr.units) (e_minTX rfl (hr.units) (v3 0) (v3 1) (by rfl) B.min_) (e_minTX rfl (hr.units) (v3 2) (v3 3) (by rfl) B.min_) (by rfl) B.max_)) (s_cons (s_set (i:=9) sc_law_touch.nd rfl (Or.inl rfl) (e_minTX rfl (hr.units) (e_maxTX rfl (hr.units) (v3 0) (v3 1) (by rfl) B.max_) (e_maxTX rfl (hr.units) (v3 2) (v3 3) (by rfl) B.max_) (by rfl) B.min_)) (s_one (s_ret (e_and (e_cmp (f:=fun i j=>decide (i=j)) op_eqI (e_call c_law_cross hr (by rfl) (a_val (v3 0) (a_val (v3 1) (a_val (v3 2) a_nil)))) e_int (nomark _)) (e_one (e_leTX (hr.units) (v3 8) (v3 9) (nomark _)))))))) s_nil) (s_cons (s_set (i:=10) sc_law_touch.nd rfl (Or.inl rfl) (e_sub (e_mul (e_ix (v3 6) e_int (fun _ _=>rfl)) (e_ix (v3 5) e_int (fun _ _=>rfl))) (e_mul (e_ix (v3 6) e_int (fun _ _=>rfl)) (e_ix (v3 5) e_int (fun _ _=>rfl))))) (s_cons (s_set (i:=11) sc_law_touch.nd rfl (Or.inl rfl) (e_sub (e_mul (e_ix (v3 6) e_int (fun _ _=>rfl)) (e_ix (v3 4) e_int (fun _ _=>rfl))) (e_mul (e_ix (v3 6) e_int (fun _ _=>rfl)) (e_ix (v3 4) e_int (fun _ _=>rfl))))) (s_cons (s_if (t_cmp (f:=fun i j=>decide (i < j)) op_lt (v3 7) e_int (nomark _)) (s_one (s_par3 (i:=7) (j:=10) (k:=11) rfl sc_law_touch.nd rfl rfl rfl rfl rfl rfl (l_cons (e_neg (v3 7)) (l_cons (e_neg (v3 10)) (l_cons (e_neg (v3 11)) l_nil))) rfl)) s_nil) (s_one (s_ret (e_and (e_chain (f:=fun i j=>decide (i≤j)) (g:=fun i j=>decide (i≤j)) op_le op_le e_int (v3 10) (v3 7)) (e_one (e_chain (f:=fun i j=>decide (i≤j)) (g:=fun i j=>decide (i≤j)) op_le op_le e_int (v3 11) (v3 7)))))))))))))),?_⟩)
 rintro as k hl ⟨p,q,r,s,rfl,sp,sq,sr,ss,hk⟩
 refine at3 (r:=[.val (dR p),.val (dR q),.val (dR r),.val (dR s),.no,.no,.no,.no,.no,.no,.no,.no]) rfl ?_
 obtain ⟨p1,p2,p3,p4⟩:=id sp
 obtain ⟨q1,q2,q3,q4⟩:=id sq
 obtain ⟨r1,r2,r3,r4⟩:=id sr
 obtain ⟨s1,s2,s3,s4⟩:=id ss
 unfold ltB at hk
 dsimp only at hk
 walk_at "wd"
 refine iteD (fun w0=>?_) (fun w0=>?_)
 ·rw [if_pos w0] at hk
  refine seq_best4X (a:=p) (b:=q) (c:=r) (d:=s) rfl rfl rfl rfl ?_
  refine seq_best4X (a:=p) (b:=q) (c:=r) (d:=s) rfl rfl rfl rfl ?_
  refine ⟨_,rfl,_,rfl,_,rfl,rfl,p,q,r,rfl,sp.wd,sq.wd,sr.wd,?_⟩
  refine ⟨_,_,rfl,rfl,_,rfl,iteD (fun z=>?_) (fun z=>?_)⟩
  ·have z:crF p q r=0:=z
   rw [decide_eq_true z,Bool.true_and] at hk
   exact ⟨_,rfl,_,rfl,l2F (bq gtQ (bq ltQ p q) (bq ltQ r s)),l2F (bq ltQ (bq gtQ p q) (bq gtQ r s)),rfl,rfl,rfl,hk⟩
  ·have z:¬ crF p q r=0:=z
   rw [decide_eq_false z,Bool.false_and] at hk
   exact hk
 rw [if_neg w0] at hk
 refine pass4 (fun N kk=>?_) ?_
 ·exact kk
 walk_at "wd"
 refine iteD (fun w1=>?_) (fun w1=>?_)
 ·rw [if_pos w1] at hk
  refine ⟨_,rfl,_,rfl,_,rfl,_,rfl,_,rfl,_,rfl,_,_,_,rfl,?_⟩
  exact chE2_is rfl rfl rfl hk
 ·rw [if_neg w1] at hk
  exact chE2_is rfl rfl rfl hk
theorem sc_law_back:FnScope ["_law_p", "_law_q", "_law_r", "_law_across", "_law_upward"] ["_law_p", "_law_q", "_law_r"] (defScope s_law_back):=⟨rfl,rfl,rfl,by decide +kernel,rfl,by decide +kernel,by decide +kernel⟩
def F_backX  : FS:=fun as k=>∃ (p q r:Int×Int),as=[.val (dR p),.val (dR q),.val (dR r)]∧(Sm p)∧(Sm q)∧(Sm r)∧k (.val (.bl (lbB p q r)))
theorem ok_backX (B:Blts mg)   (F:Fnd K mg "_law_back" s_law_back ["_law_p", "_law_q", "_law_r"]) (c_law_cross:Cal P w K mg base "_law_cross" ["_law_o", "_law_p", "_law_q"] 2 (Con K 3 F_crossW)) :
  Cal P w K mg base "_law_back" ["_law_p", "_law_q", "_law_r"] 3 (Con K 3 F_backX):=by
 refine def3 (lv:=2) F sc_law_back rfl (fun f cdv A outer s H E hr=>⟨_,(s_cons (s_set (i:=3) sc_law_back.nd rfl (Or.inl rfl) (e_mul (e_sub (e_ix (v3 0) e_int (fun _ _=>rfl)) (e_ix (v3 1) e_int (fun _ _=>rfl))) (e_sub (e_ix (v3 2) e_int (fun _ _=>rfl)) (e_ix (v3 1) e_int (fun _ _=>rfl))))) (s_cons (s_set (i:=4) sc_law_back.nd rfl (Or.inl rfl) (e_mul (e_sub (e_ix (v3 0) e_int (fun _ _=>rfl)) (e_ix (v3 1) e_int (fun _ _=>rfl))) (e_sub (e_ix (v3 2) e_int (fun _ _=>rfl)) (e_ix (v3 1) e_int (fun _ _=>rfl))))) (s_one (s_ret (e_and (e_cmp (f:=fun i j=>decide (i=j)) op_eqI (e_call c_law_cross hr (by rfl) (a_val (v3 0) (a_val (v3 1) (a_val (v3 2) a_nil)))) e_int (nomark _)) (e_one (e_cmp (f:=fun i j=>decide (j < i)) op_gt (e_add (v3 3) (v3 4)) e_int (nomark _)))))))),?_⟩)
 rintro as k hl ⟨p,q,r,rfl,sp,sq,sr,hk⟩
 refine at3 (r:=[.val (dR p),.val (dR q),.val (dR r),.no,.no]) rfl ?_
 obtain ⟨p1,p2,p3,p4⟩:=id sp
 obtain ⟨q1,q2,q3,q4⟩:=id sq
 obtain ⟨r1,r2,r3,r4⟩:=id sr
 walk_at "wd"
 refine ⟨p,q,r,rfl,sp.wd,sq.wd,sr.wd,?_⟩
 refine ⟨_,_,rfl,rfl,_,rfl,iteD (fun z=>?_) (fun z=>?_)⟩
 ·have z:crF p q r=0:=z
  unfold lbB at hk
  rw [decide_eq_true z,Bool.true_and] at hk
  walk_at "w"
  exact hk
 ·have z:¬ crF p q r=0:=z
  unfold lbB at hk
  rw [decide_eq_false z,Bool.false_and] at hk
  exact hk
theorem sc_law_simple:FnScope ["_law_ring", "_law_many", "_law_k", "_law_j", "_law_near", "_law_one", "_law_two"] ["_law_ring"] (defScope s_law_simple):=⟨rfl,rfl,rfl,by decide +kernel,rfl,by decide +kernel,by decide +kernel⟩
def F_simpX  : FS:=fun as k=>∃ (ps:List (Int×Int)),as=[.val (.lst (ps.map dR))]∧(ps.length≤75)∧(∀ p∈ps,Sm p)∧k (.val (.bl (smB ps)))
theorem ok_simpX (B:Blts mg)   (F:Fnd K mg "_law_simple" s_law_simple ["_law_ring"]) (c_law_back:Cal P w K mg base "_law_back" ["_law_p", "_law_q", "_law_r"] 3 (Con K 3 F_backX)) (c_law_touch:Cal P w K mg base "_law_touch" ["_law_p", "_law_q", "_law_r", "_law_s"] 3 (Con K 4 F_touchX)) :
  Cal P w K mg base "_law_simple" ["_law_ring"] 4 (Con K 1 F_simpX):=by
 refine def3 (lv:=3) F sc_law_simple rfl (fun f cdv A outer s H E hr=>⟨_,(s_cons (s_set (i:=1) sc_law_simple.nd rfl (Or.inl rfl) (e_len (v3 0) (by rfl) B.len_)) (s_cons (s_if (w_t (w_or (t_cmp (f:=fun i j=>decide (i < j)) op_lt (v3 1) e_int (nomark _)) (w_or1 (t_cmp (f:=fun i j=>decide (i < j)) op_lt (e_lenSetX rfl (hr.units) (v3 0) (by rfl) B.len_ (by rfl) B.set_) (v3 1) (nomark _))))) (s_one (s_ret e_bl)) s_nil) (s_cons (s_for PassesOwn.never rfl (i_rng (v3 1) (by rfl) B.range_) (g_name (i:=2) sc_law_simple.nd rfl (Or.inl rfl)) (s_cons (s_if (t_val (e_call c_law_back hr (by rfl) (a_val (e_ix (v3 0) (e_sub (v3 2) e_int) (fun _ _=>rfl)) (a_val (e_ix (v3 0) (e_sub (v3 2) e_int) (fun _ _=>rfl)) (a_val (e_ix (v3 0) (v3 2) (fun _ _=>rfl)) a_nil))))) (s_one (s_ret e_bl)) s_nil) (s_one (s_for PassesOwn.never rfl (i_rng (v3 2) (by rfl) B.range_) (g_name (i:=3) sc_law_simple.nd rfl (Or.inl rfl)) (s_cons (s_set (i:=4) sc_law_simple.nd rfl (Or.inl rfl) (e_in (hr.units) (e_mod (e_sub (v3 2) (v3 3)) (v3 1)) (o_e (o_lst (l_cons e_int (l_cons (e_sub (v3 1) e_int) l_nil)))) (by rfl))) (s_cons (s_set (i:=5) sc_law_simple.nd rfl (Or.inl rfl) (e_tup (l_cons (e_ix (v3 0) (e_sub (v3 2) e_int) (fun _ _=>rfl)) (l_cons (e_ix (v3 0) (v3 2) (fun _ _=>rfl)) l_nil)))) (s_cons (s_set (i:=6) sc_law_simple.nd rfl (Or.inl rfl) (e_tup (l_cons (e_ix (v3 0) (e_sub (v3 3) e_int) (fun _ _=>rfl)) (l_cons (e_ix (v3 0) (v3 3) (fun _ _=>rfl)) l_nil)))) (s_one (s_if (w_t (w_and (t_not (t_val (v3 4))) (w_and1 (t_val (e_call c_law_touch hr (by rfl) (a_val (e_ix (v3 5) e_int (fun _ _=>rfl)) (a_val (e_ix (v3 5) e_int (fun _ _=>rfl)) (a_val (e_ix (v3 6) e_int (fun _ _=>rfl)) (a_val (e_ix (v3 6) e_int (fun _ _=>rfl)) a_nil))))))))) (s_one (s_ret e_bl)) s_nil))))))))) (s_one (s_ret e_bl))))),?_⟩)
 rintro as k hl ⟨ps,rfl,hl,hs,hk⟩
 refine at3 (r:=[.val (.lst (ps.map dR)),.no,.no,.no,.no,.no,.no]) rfl ?_
 have big:75≤sizeLine:=by decide
 have len:(ps.map dR).length=ps.length:=List.length_map ..
 let ok:Nat→Bool:=fun k => !lbB (rng ps ((k:Int) - 2)) (rng ps ((k:Int) - 1)) (rng ps k) && (List.range k).all fun j=>nearB ps.length k j || !ltK ps k j
 have es:smB ps=(decide (3≤ps.length) && (decide ps.Nodup && (List.range ps.length).all ok)):=rfl
 have no:smB ps=false→k (.val (.bl false)):=fun h=>by rw [h] at hk; exact hk
 refine mid4 (fun ρ=>ρ=[.val (.lst (ps.map dR)),.val (.int ps.length),.no,.no,.no,.no,.no]) ?_ (fun N kk=>⟨_,rfl,_,rfl,kk _ (by rw [List.length_map]; rfl)⟩)
 rintro ρ rfl
 refine mid4 (fun ρ=>ρ=[.val (.lst (ps.map dR)),.val (.int ps.length),.no,.no,.no,.no,.no]∧3≤ps.length∧ps.Nodup) ?_ (fun N kk=>?_)
 rotate_left
 ·refine ⟨_,rfl,_,_,rfl,rfl,_,rfl,iteD (fun g=>no (by rw [es,decide_eq_false (show ¬ 3≤ps.length by lia),Bool.false_and])) (fun g=>?_)⟩
  refine ⟨_,rfl,ps.map l2F,by rw [List.map_map]; rfl,by rw [List.length_map]; exact hl,fun ms nd hm=>?_⟩
  obtain ⟨le,ln⟩:=Tab.len_nodup nd hm
  have kinj:∀ p q:F2,l2F p=l2F q→p=q:=fun p q e=>by
   injection e with e1 e
   injection e with e2 e
   exact Prod.ext e1 e2
  have knd:(ps.map l2F).Nodup↔ps.Nodup:=by
   unfold List.Nodup
   rw [List.pairwise_map]
   exact ⟨fun h=>h.imp fun a e=>a (by rw [e]),fun h=>h.imp fun a e=>a (kinj _ _ e)⟩
  rw [knd,List.length_map] at ln
  rw [List.length_map] at le
  refine ⟨_,rfl,_,_,rfl,rfl,_,rfl,iteD (fun g2=>no ?_) (fun g2=>kk _ ⟨rfl,by lia,ln.mp (by lia)⟩)⟩
  rw [es,decide_eq_false (show ¬ ps.Nodup from fun z=>by have:=ln.mpr z; lia),Bool.false_and,Bool.and_false]
 rintro ρ ⟨rfl,l3,nd⟩
 rw [decide_eq_true l3,decide_eq_true nd,Bool.true_and,Bool.true_and] at es
 have noK:∀ k,k < ps.length→ok k=false→smB ps=false:=fun k hk h=>by
  rw [es]
  exact List.all_eq_false.mpr ⟨k,List.mem_range.mpr hk,by rw [h]; exact Bool.false_ne_true⟩
 refine mid4 (fun ρ=>(∃ v2 v3 v4 v5 v6,ρ=[.val (.lst (ps.map dR)),.val (.int ps.length),v2,v3,v4,v5,v6])∧∀ k,k < ps.length→ok k=true) (fun ρ ⟨⟨v2,v3,v4,v5,v6,e⟩,h⟩=>?_) (fun N kk=>?_)
 ·subst e
  rw [es,List.all_eq_true.mpr fun k hk=>h k (List.mem_range.mp hk)] at hk
  exact hk
 refine ⟨_,rfl,_,rfl,by lia,by lia,?_⟩
 rw [show ((ps.length:Nat):Int).toNat=ps.length by lia]
 refine forR_rng (fun i ρ=>(∃ v2 v3 v4 v5 v6,ρ=[.val (.lst (ps.map dR)),.val (.int ps.length),v2,v3,v4,v5,v6])∧∀ k,k < i→ok k=true) ⟨⟨_,_,_,_,_,rfl⟩,fun k h=>absurd h (Nat.not_lt_zero k)⟩ ?_ (fun ρ h=>kk _ h)
 clear kk
 rintro i ρ hi ⟨⟨v2,v3,v4,v5,v6,rfl⟩,hok⟩ N kk
 have ga:=rng_at (ps:=ps) (i:=(i:Int) - 2) (by lia) (by lia)
 have gb:=rng_at (ps:=ps) (i:=(i:Int) - 1) (by lia) (by lia)
 have gc:=rng_at (ps:=ps) (i:=(i:Int)) (by lia) (by lia)
 refine mid4 (fun ρ=>(∃ v3 v4 v5 v6,ρ=[.val (.lst (ps.map dR)),.val (.int ps.length),.val (.int i),v3,v4,v5,v6])∧lbB (rng ps ((i:Int) - 2)) (rng ps ((i:Int) - 1)) (rng ps i)=false) ?_ (fun N kk=>?_)
 rotate_left
 ·refine ⟨_,rfl,_,rfl,_,_,rfl,rfl,_,_,_,.inr rfl,rfl,ga.1,?_⟩
  refine ⟨_,rfl,_,rfl,_,_,rfl,rfl,_,_,_,.inr rfl,rfl,gb.1,?_⟩
  refine ⟨_,rfl,_,rfl,_,_,_,.inr rfl,rfl,gc.1,?_⟩
  refine ⟨rfl,rng ps ((i:Int) - 2),rng ps ((i:Int) - 1),rng ps i,rfl,hs _ ga.2,hs _ gb.2,hs _ gc.2,_,rfl,?_⟩
  cases c:lbB (rng ps ((i:Int) - 2)) (rng ps ((i:Int) - 1)) (rng ps i) with
  | false=>exact kk _ ⟨⟨v3,v4,v5,v6,rfl⟩,c⟩
  | true=>exact no (noK i hi (by show (!lbB _ _ _ && _)=false; rw [c]; rfl))
 rintro ρ ⟨⟨v3,v4,v5,v6,rfl⟩,bk⟩
 refine ⟨_,rfl,_,rfl,by lia,by lia,?_⟩
 rw [show ((i:Nat):Int).toNat=i by lia]
 refine forR_rng (fun j ρ=>(∃ v3 v4 v5 v6,ρ=[.val (.lst (ps.map dR)),.val (.int ps.length),.val (.int i),v3,v4,v5,v6])∧∀ m,m < j→(nearB ps.length i m || !ltK ps i m)=true) ⟨⟨_,_,_,_,rfl⟩,fun k h=>absurd h (Nat.not_lt_zero k)⟩ ?_ (fun ρ h=>?_)
 rotate_left
 ·obtain ⟨⟨v3,v4,v5,v6,rfl⟩,h⟩:=h
  refine kk _ ⟨⟨_,_,_,_,_,rfl⟩,fun k hk=>?_⟩
  rcases Nat.lt_succ_iff_lt_or_eq.mp hk with h1 | rfl
  ·exact hok k h1
  ·show (!lbB _ _ _ && _)=true
   rw [bk,List.all_eq_true.mpr fun m hm=>h m (List.mem_range.mp hm)]
   rfl
 clear kk
 rintro j ρ hj ⟨⟨v3,v4,v5,v6,rfl⟩,hoj⟩ N kk
 have gd:=rng_at (ps:=ps) (i:=(j:Int) - 1) (by lia) (by lia)
 have ge:=rng_at (ps:=ps) (i:=(j:Int)) (by lia) (by lia)
 have kk:(nearB ps.length i j || !ltK ps i j)=true→∀ r,(∃ v3 v4 v5 v6,r=[.val (.lst (ps.map dR)),.val (.int ps.length),.val (.int i),v3,v4,v5,v6])→N r:=fun h r hr=>kk r ⟨hr,fun m hm=>by
  rcases Nat.lt_succ_iff_lt_or_eq.mp hm with h1 | rfl
  ·exact hoj m h1
  ·exact h⟩
 have bad:(nearB ps.length i j || !ltK ps i j)=false→k (.val (.bl false)):=fun h=>no (noK i hi (by
  show (!lbB _ _ _ && _)=false
  rw [List.all_eq_false.mpr ⟨j,List.mem_range.mpr hj,by rw [h]; exact Bool.false_ne_true⟩,Bool.and_false]))
 walk_at "w"
 refine ⟨.I,_,.inl rfl,rfl,fun x hx=>?_,by decide,fun t ht=>?_⟩
 ·rcases List.mem_cons.mp hx with rfl | hx
  ·rfl
  ·rw [List.mem_singleton.mp hx]; rfl
 have ht:t=nearB ps.length i j:=by
  rw [Bool.eq_iff_iff,ht]
  unfold nearB
  rw [Bool.or_eq_true,decide_eq_true_iff,decide_eq_true_iff,List.mem_cons,List.mem_singleton]
  exact ⟨fun h=>h.imp D.int.inj D.int.inj,fun h=>h.imp (fun e=>congrArg D.int e) (fun e=>congrArg D.int e)⟩
 subst ht
 refine ⟨_,rfl,_,rfl,_,_,rfl,rfl,_,_,_,.inr rfl,rfl,gb.1,_,rfl,_,rfl,_,_,_,.inr rfl,rfl,gc.1,by show 2≤sizeLine; decide,?_⟩
 refine ⟨_,rfl,_,rfl,_,_,rfl,rfl,_,_,_,.inr rfl,rfl,gd.1,_,rfl,_,rfl,_,_,_,.inr rfl,rfl,ge.1,by show 2≤sizeLine; decide,?_⟩
 refine ⟨_,rfl,_,rfl,?_⟩
 cases c:nearB ps.length i j with
 | true=>exact kk (by rw [c]; rfl) _ ⟨_,_,_,_,rfl⟩
 | false =>
  rw [c,Bool.false_or] at kk bad
  refine ⟨_,rfl,_,_,_,.inl rfl,rfl,rfl,_,rfl,_,_,_,.inl rfl,rfl,rfl,_,rfl,_,_,_,.inl rfl,rfl,rfl,_,rfl,_,_,_,.inl rfl,rfl,rfl,?_⟩
  refine ⟨rfl,rng ps ((i:Int) - 1),rng ps i,rng ps ((j:Int) - 1),rng ps j,rfl,hs _ gb.2,hs _ gc.2,hs _ gd.2,hs _ ge.2,_,rfl,?_⟩
  cases c2:ltB (rng ps ((i:Int) - 1)) (rng ps i) (rng ps ((j:Int) - 1)) (rng ps j) with
  | false=>exact kk (by show (!ltB _ _ _ _)=true; rw [c2]; rfl) _ ⟨_,_,_,_,rfl⟩
  | true=>exact bad (by show (!ltB _ _ _ _)=false; rw [c2]; rfl)
theorem sc_law_within:FnScope ["_law_ring", "_law_p", "_law_odd", "_law_k", "_law_q", "_law_r", "_law_hand"] ["_law_ring", "_law_p"] (defScope s_law_within):=⟨rfl,rfl,rfl,by decide +kernel,rfl,by decide +kernel,by decide +kernel⟩
def F_lwC  : FS:=fun as k=>∃ (ps:List F2) (p:F2),as=[.val (.lst (ps.map dR)),.val (dR p)]∧(ps.length≤75)∧(∀ q∈ps,SmW q)∧(SmW p)∧k (.val (.bl (xorL ((eds (ps.map up)).map (eAb p)))))
theorem ok_lwC (B:Blts mg)   (F:Fnd K mg "_law_within" s_law_within ["_law_ring", "_law_p"]) (c_law_cross:Cal P w K mg base "_law_cross" ["_law_o", "_law_p", "_law_q"] 2 (Con K 3 F_crossW)) :
  Cal P w K mg base "_law_within" ["_law_ring", "_law_p"] 3 (Con K 2 F_lwC):=by
 refine def3 (lv:=2) F sc_law_within rfl (fun f cdv A outer s H E hr=>⟨_,(s_cons (s_set (i:=2) sc_law_within.nd rfl (Or.inl rfl) e_bl) (s_cons (s_for PassesOwn.never rfl (i_rng (e_len (v3 0) (by rfl) B.len_) (by rfl) B.range_) (g_name (i:=3) sc_law_within.nd rfl (Or.inl rfl)) (s_cons (s_set (i:=4) sc_law_within.nd rfl (Or.inl rfl) (e_ix (v3 0) (e_sub (v3 3) e_int) (fun _ _=>rfl))) (s_cons (s_set (i:=5) sc_law_within.nd rfl (Or.inl rfl) (e_ix (v3 0) (v3 3) (fun _ _=>rfl))) (s_one (s_if (t_ne (hr.units) (e_cmp (f:=fun i j=>decide (i≤j)) op_le (e_ix (v3 4) e_int (fun _ _=>rfl)) (e_ix (v3 1) e_int (fun _ _=>rfl)) (nomark _)) (e_cmp (f:=fun i j=>decide (i≤j)) op_le (e_ix (v3 5) e_int (fun _ _=>rfl)) (e_ix (v3 1) e_int (fun _ _=>rfl)) (nomark _)) (nomark _)) (s_cons (s_set (i:=6) sc_law_within.nd rfl (Or.inl rfl) (e_call c_law_cross hr (by rfl) (a_val (v3 4) (a_val (v3 5) (a_val (v3 1) a_nil))))) (s_one (s_if (w_t (w_or (w_t (w_and (t_cmp (f:=fun i j=>decide (i < j)) op_lt (v3 6) e_int (nomark _)) (w_and1 (t_cmp (f:=fun i j=>decide (j < i)) op_gt (e_ix (v3 5) e_int (fun _ _=>rfl)) (e_ix (v3 4) e_int (fun _ _=>rfl)) (nomark _))))) (w_or1 (w_t (w_and (t_cmp (f:=fun i j=>decide (j < i)) op_gt (v3 6) e_int (nomark _)) (w_and1 (t_cmp (f:=fun i j=>decide (i < j)) op_lt (e_ix (v3 5) e_int (fun _ _=>rfl)) (e_ix (v3 4) e_int (fun _ _=>rfl)) (nomark _)))))))) (s_one (s_set (i:=2) sc_law_within.nd rfl (Or.inl rfl) (e_not (v3 2)))) s_nil))) s_nil))))) (s_one (s_ret (v3 2))))),?_⟩)
 rintro as k hl ⟨ps,p,rfl,hl,hs,sp,hk⟩
 refine at3 (r:=[.val (.lst (ps.map dR)),.val (dR p),.no,.no,.no,.no,.no]) rfl ?_
 have len:(ps.map dR).length=ps.length:=List.length_map ..
 refine mid4 (fun ρ=>ρ=[.val (.lst (ps.map dR)),.val (dR p),.val (.bl false),.no,.no,.no,.no]) ?_ (fun N kk=>kk _ rfl)
 rintro ρ rfl
 refine mid4 (fun ρ=>∃ v3 v4 v5 v6,ρ=[.val (.lst (ps.map dR)),.val (dR p),.val (.bl (xorL ((eds (ps.map up)).map (eAb p)))),v3,v4,v5,v6]) (fun ρ ⟨v3,v4,v5,v6,e⟩=>by subst e; exact ⟨_,rfl,hk⟩) (fun N kk=>?_)
 refine ⟨_,rfl,_,rfl,_,rfl,by lia,by rw [len]; lia,?_⟩
 rw [len,show ((ps.length:Nat):Int).toNat=ps.length by lia]
 refine forR_rng (fun i ρ=>∃ v3 v4 v5 v6,ρ=[.val (.lst (ps.map dR)),.val (dR p),.val (.bl (xorL (((eds (ps.map up)).take i).map (eAb p)))),v3,v4,v5,v6]) ⟨_,_,_,_,rfl⟩ ?_ (fun ρ ⟨v3,v4,v5,v6,e⟩=>kk _ ⟨v3,v4,v5,v6,?_⟩)
 rotate_left
 ·have al:=eds_all (ps.map up)
  rw [List.length_map] at al
  rw [e,al]
 rintro i ρ hi ⟨v3,v4,v5,v6,rfl⟩ N kk
 obtain ⟨q,r,mq,mr,gq,gr,et⟩:=back_up hi
 refine ⟨_,rfl,_,rfl,_,_,rfl,rfl,_,_,_,.inr rfl,rfl,gq,?_⟩
 refine ⟨_,rfl,_,rfl,_,_,_,.inr rfl,rfl,gr,?_⟩
 walk_at "w"
 have kk:∀ (b:Bool) (v6:Sl),b=(xorL (((eds (ps.map up)).take i).map (eAb p)) ^^ eAb p (up q,up r))→N [.val (.lst (ps.map dR)),.val (dR p),.val (.bl b),.val (.int i),.val (dR q),.val (dR r),v6]:=fun b v6 hb=>kk _ ⟨.val (.int i),.val (dR q),.val (dR r),v6,by subst hb; rw [et,List.map_append,show [(up q,up r)].map (eAb p)=[eAb p (up q,up r)] from rfl,xorL_snoc]⟩
 rw [eAb_eq] at kk
 refine ⟨.B,rfl,rfl,by decide,_,rfl,neIf (fun ne=>?_) (fun eq=>?_)⟩
 rotate_left
 ·have eq:=D.bl.inj eq
  exact kk _ _ (by rw [eq,bne_self_eq_false,Bool.false_and,Bool.xor_false])
 have ne:decide (q.1≤p.1)≠decide (r.1≤p.1):=fun z=>ne (congrArg D.bl z)
 rw [show (decide (q.1≤p.1) != decide (r.1≤p.1))=true from bne_iff_ne.mpr ne,Bool.true_and] at kk
 refine ⟨_,rfl,_,rfl,_,rfl,rfl,q,r,p,rfl,hs q mq,hs r mr,sp,?_⟩
 show fzR (.val (.int (crF q r p))) _
 generalize crF q r p=h at kk
 dsimp only [fzR]
 refine ⟨_,rfl,_,_,rfl,rfl,_,rfl,iteD (fun h1=>?_) (fun h1=>?_)⟩
 ·refine ⟨_,rfl,_,_,_,.inl rfl,rfl,rfl,_,rfl,_,_,_,.inl rfl,rfl,rfl,_,_,rfl,rfl,_,rfl,iteD (fun h2=>?_) (fun h2=>?_)⟩
  ·exact ⟨_,rfl,_,rfl,kk _ _ (by rw [decide_eq_true h1,decide_eq_true h2,Bool.and_self,Bool.true_or,Bool.xor_true])⟩
  ·refine ⟨_,rfl,_,_,rfl,rfl,_,rfl,iteD (fun h3=>by lia) (fun h3=>kk _ _ (by rw [decide_eq_false h2,decide_eq_false h3,Bool.and_false,Bool.false_and,Bool.or_self,Bool.xor_false]))⟩
 ·refine ⟨_,rfl,_,_,rfl,rfl,_,rfl,iteD (fun h3=>?_) (fun h3=>kk _ _ (by rw [decide_eq_false h1,decide_eq_false h3,Bool.false_and,Bool.false_and,Bool.or_self,Bool.xor_false]))⟩
  refine ⟨_,rfl,_,_,_,.inl rfl,rfl,rfl,_,rfl,_,_,_,.inl rfl,rfl,rfl,_,_,rfl,rfl,_,rfl,iteD (fun h4=>?_) (fun h4=>?_)⟩
  ·exact ⟨_,rfl,_,rfl,kk _ _ (by rw [decide_eq_false h1,decide_eq_true h3,decide_eq_true h4,Bool.false_and,Bool.and_self,Bool.false_or,Bool.xor_true])⟩
  ·exact kk _ _ (by rw [decide_eq_false h1,decide_eq_false h4,Bool.false_and,Bool.and_false,Bool.or_self,Bool.xor_false])
theorem sc_law_apart:FnScope ["_law_one", "_law_two", "_law_k", "_law_j"] ["_law_one", "_law_two"] (defScope s_law_apart):=⟨rfl,rfl,rfl,by decide +kernel,rfl,by decide +kernel,by decide +kernel⟩
def F_aptX  : FS:=fun as k=>∃ (ps qs:List F2),as=[.val (.lst (ps.map dR)),.val (.lst (qs.map dR))]∧(ps.length≤75)∧(∀ p∈ps,Sm p)∧(qs.length≤75)∧(∀ p∈qs,Sm p)∧k (.val (.bl (aptB ps qs)))
theorem ok_aptX (B:Blts mg)   (F:Fnd K mg "_law_apart" s_law_apart ["_law_one", "_law_two"]) (c_law_touch:Cal P w K mg base "_law_touch" ["_law_p", "_law_q", "_law_r", "_law_s"] 3 (Con K 4 F_touchX)) :
  Cal P w K mg base "_law_apart" ["_law_one", "_law_two"] 4 (Con K 2 F_aptX):=by
 refine def3 (lv:=3) F sc_law_apart rfl (fun f cdv A outer s H E hr=>⟨_,(s_cons (s_for PassesOwn.never rfl (i_rng (e_len (v3 0) (by rfl) B.len_) (by rfl) B.range_) (g_name (i:=2) sc_law_apart.nd rfl (Or.inl rfl)) (s_one (s_for PassesOwn.never rfl (i_rng (e_len (v3 1) (by rfl) B.len_) (by rfl) B.range_) (g_name (i:=3) sc_law_apart.nd rfl (Or.inl rfl)) (s_one (s_if (t_val (e_call c_law_touch hr (by rfl) (a_val (e_ix (v3 0) (e_sub (v3 2) e_int) (fun _ _=>rfl)) (a_val (e_ix (v3 0) (v3 2) (fun _ _=>rfl)) (a_val (e_ix (v3 1) (e_sub (v3 3) e_int) (fun _ _=>rfl)) (a_val (e_ix (v3 1) (v3 3) (fun _ _=>rfl)) a_nil)))))) (s_one (s_ret e_bl)) s_nil))))) (s_one (s_ret e_bl))),?_⟩)
 rintro as k hl ⟨ps,qs,rfl,hl,hs,gl,gs,hk⟩
 refine at3 (r:=[.val (.lst (ps.map dR)),.val (.lst (qs.map dR)),.no,.no]) rfl ?_
 have len1:(ps.map dR).length=ps.length:=List.length_map ..
 have len2:(qs.map dR).length=qs.length:=List.length_map ..
 let in1:Nat→Nat→Bool:=fun k j => !ltB (rng ps ((k:Int) - 1)) (rng ps k) (rng qs ((j:Int) - 1)) (rng qs j)
 let ok:Nat→Bool:=fun k=>(List.range qs.length).all (in1 k)
 have es:aptB ps qs=(List.range ps.length).all ok:=rfl
 have no:aptB ps qs=false→k (.val (.bl false)):=fun h=>by rw [h] at hk; exact hk
 refine mid4 (fun ρ=>(∃ v2 v3,ρ=[.val (.lst (ps.map dR)),.val (.lst (qs.map dR)),v2,v3])∧∀ k,k < ps.length→ok k=true) (fun ρ ⟨⟨v2,v3,e⟩,h⟩=>?_) (fun N kk=>?_)
 ·subst e
  rw [es,List.all_eq_true.mpr fun k hk=>h k (List.mem_range.mp hk)] at hk
  exact hk
 refine ⟨_,rfl,_,rfl,_,rfl,by lia,by rw [len1]; lia,?_⟩
 rw [len1,show ((ps.length:Nat):Int).toNat=ps.length by lia]
 refine forR_rng (fun i ρ=>(∃ v2 v3,ρ=[.val (.lst (ps.map dR)),.val (.lst (qs.map dR)),v2,v3])∧∀ k,k < i→ok k=true) ⟨⟨_,_,rfl⟩,fun k h=>absurd h (Nat.not_lt_zero k)⟩ ?_ (fun ρ h=>kk _ h)
 clear kk
 rintro i ρ hi ⟨⟨v2,v3,rfl⟩,hok⟩ N kk
 have ga:=rng_at (ps:=ps) (i:=(i:Int) - 1) (by lia) (by lia)
 have gb:=rng_at (ps:=ps) (i:=(i:Int)) (by lia) (by lia)
 refine ⟨_,rfl,_,rfl,_,rfl,by lia,by rw [len2]; lia,?_⟩
 rw [len2,show ((qs.length:Nat):Int).toNat=qs.length by lia]
 refine forR_rng (fun j ρ=>(∃ v3,ρ=[.val (.lst (ps.map dR)),.val (.lst (qs.map dR)),.val (.int i),v3])∧∀ m,m < j→in1 i m=true) ⟨⟨_,rfl⟩,fun k h=>absurd h (Nat.not_lt_zero k)⟩ ?_ (fun ρ h=>?_)
 rotate_left
 ·obtain ⟨⟨v3,rfl⟩,h⟩:=h
  refine kk _ ⟨⟨_,_,rfl⟩,fun k hk=>?_⟩
  rcases Nat.lt_succ_iff_lt_or_eq.mp hk with h1 | rfl
  ·exact hok k h1
  ·exact List.all_eq_true.mpr fun m hm=>h m (List.mem_range.mp hm)
 clear kk
 rintro j ρ hj ⟨⟨v3,rfl⟩,hoj⟩ N kk
 have gc:=rng_at (ps:=qs) (i:=(j:Int) - 1) (by lia) (by lia)
 have gd:=rng_at (ps:=qs) (i:=(j:Int)) (by lia) (by lia)
 refine ⟨_,rfl,_,rfl,_,_,rfl,rfl,_,_,_,.inr rfl,rfl,ga.1,?_⟩
 refine ⟨_,rfl,_,rfl,_,_,_,.inr rfl,rfl,gb.1,?_⟩
 refine ⟨_,rfl,_,rfl,_,_,rfl,rfl,_,_,_,.inr rfl,rfl,gc.1,?_⟩
 refine ⟨_,rfl,_,rfl,_,_,_,.inr rfl,rfl,gd.1,?_⟩
 refine ⟨rfl,rng ps ((i:Int) - 1),rng ps i,rng qs ((j:Int) - 1),rng qs j,rfl,hs _ ga.2,hs _ gb.2,gs _ gc.2,gs _ gd.2,_,rfl,?_⟩
 cases c:ltB (rng ps ((i:Int) - 1)) (rng ps i) (rng qs ((j:Int) - 1)) (rng qs j) with
 | false =>
  refine kk _ ⟨⟨_,rfl⟩,fun m hm=>?_⟩
  rcases Nat.lt_succ_iff_lt_or_eq.mp hm with h1 | rfl
  ·exact hoj m h1
  ·show (!ltB _ _ _ _)=true
   rw [c]
   rfl
 | true =>
  refine no ?_
  rw [es]
  refine List.all_eq_false.mpr ⟨i,List.mem_range.mpr hi,?_⟩
  rw [show ok i=false from List.all_eq_false.mpr ⟨j,List.mem_range.mpr hj,by show ¬ (!ltB _ _ _ _)=true; rw [c]; exact Bool.false_ne_true⟩]
  exact Bool.false_ne_true
theorem sc_law_is_cloth:FnScope ["_law_rings", "_law_k", "_law_many"] ["_law_rings"] (defScope s_law_is_cloth):=⟨rfl,rfl,rfl,by decide +kernel,rfl,by decide +kernel,by decide +kernel⟩
def F_isclL  : FS:=fun as k=>∃ (rs:RS),as=[.val (.lst (rs.map dG))]∧(rs.length≤9)∧(∀ ps∈rs,ps.length≤75∧∀ p∈ps,Sm p)∧k (.val (.bl (lcB rs)))
theorem ok_isclL (B:Blts mg)   (F:Fnd K mg "_law_is_cloth" s_law_is_cloth ["_law_rings"]) (c_law_simple:Cal P w K mg base "_law_simple" ["_law_ring"] 4 (Con K 1 F_simpX)) (c_law_apart:Cal P w K mg base "_law_apart" ["_law_one", "_law_two"] 4 (Con K 2 F_aptX)) (c_law_within:Cal P w K mg base "_law_within" ["_law_ring", "_law_p"] 3 (Con K 2 F_lwC)) (c_law_twice:Cal P w K mg base "_law_twice" ["_law_ring"] 2 (Con K 1 F_twiceC)) :
  Cal P w K mg base "_law_is_cloth" ["_law_rings"] 5 (Con K 1 F_isclL):=by
 refine def3 (lv:=4) F sc_law_is_cloth rfl (fun f cdv A outer s H E hr=>⟨_,(s_cons (s_if (w_t (w_or (t_cmp (f:=fun i j=>decide (j < i)) op_gt (e_len (v3 0) (by rfl) B.len_) e_int (nomark _)) (w_or1 (t_cmp (f:=fun i j=>decide (j < i)) op_gt (e_sum (o_e (o_compG (ts:=["_law_ring"]) (fr:=[]) (js:=[]) (i_list (v3 0)) (fun _ _ _ _=>(g_name (i:=0) (show List.Nodup (["_law_ring"]:List Str) by decide +kernel) rfl (Or.inl rfl))) (fun _ _ _ _=>ifs_nil) (fun _ _ _ _=>(e_len (v3 0) (by rfl) B.len_)) ⟨rfl,by decide +kernel,rfl,by decide +kernel,fsub_of (List.forall_mem_nil _),fhas_b rfl,by walk_at "ffr", rfl⟩)) rfl (by rfl) B.sum_) e_int (nomark _))))) (s_one (s_ret e_bl)) s_nil) (s_cons (s_for PassesOwn.never rfl (i_rng (e_len (v3 0) (by rfl) B.len_) (by rfl) B.range_) (g_name (i:=1) sc_law_is_cloth.nd rfl (Or.inr rfl)) (s_one (s_if (w_t (w_or (t_not (t_val (e_call c_law_simple hr (by rfl) (a_val (e_ix (v3 0) (v3 1) (fun _ _=>rfl)) a_nil)))) (w_or1 (t_not (t_val (e_allB (o_e (o_compG (ts:=["_law_j"]) (fr:=["_law_rings", "_law_k"]) (js:=[0,1]) (i_rng (v3 1) (by rfl) B.range_) (fun _ _ _ _=>(g_name (i:=0) (show List.Nodup (["_law_j", "_law_rings", "_law_k"]:List Str) by decide +kernel) rfl (Or.inl rfl))) (fun _ _ _ _=>ifs_nil) (fun _ _ _ _=>(e_call c_law_apart hr (by rfl) (a_val (e_ix (v3 1) (v3 0) (fun _ _=>rfl)) (a_val (e_ix (v3 1) (v3 2) (fun _ _=>rfl)) a_nil)))) ⟨rfl,by decide +kernel,rfl,by decide +kernel,fsub_of (List.forall_mem_cons.mpr ⟨rfl,(List.forall_mem_cons.mpr ⟨rfl,(List.forall_mem_nil _)⟩)⟩),fhas_b rfl,by walk_at "ffr", rfl⟩)) rfl (by rfl) B.all_)))))) (s_one (s_ret e_bl)) s_nil))) (s_cons (s_for PassesOwn.never rfl (i_rng (e_len (v3 0) (by rfl) B.len_) (by rfl) B.range_) (g_name (i:=1) sc_law_is_cloth.nd rfl (Or.inr rfl)) (s_cons (s_set (i:=2) sc_law_is_cloth.nd rfl (Or.inl rfl) (e_len (o_e (o_compG (ts:=["_law_ring"]) (fr:=["_law_rings", "_law_k"]) (js:=[0,1]) (i_list (o_e (o_cat (o_e (o_slice (v3 0) p_none (p_some (v3 1)))) (o_e (o_slice (v3 0) (p_some (e_add (v3 1) e_int)) p_none))))) (fun _ _ _ _=>(g_name (i:=0) (show List.Nodup (["_law_ring", "_law_rings", "_law_k"]:List Str) by decide +kernel) rfl (Or.inl rfl))) (fun _ _ _ _=>(ifs_one (t_val (e_call c_law_within hr (by rfl) (a_val (v3 0) (a_val (e_ix (e_ix (v3 1) (v3 2) (fun _ _=>rfl)) e_int (fun _ _=>rfl)) a_nil)))))) (fun _ _ _ _=>(v3 0)) ⟨rfl,by decide +kernel,rfl,by decide +kernel,fsub_of (List.forall_mem_cons.mpr ⟨rfl,(List.forall_mem_cons.mpr ⟨rfl,(List.forall_mem_nil _)⟩)⟩),fhas_b rfl,by walk_at "ffr", rfl⟩)) (by rfl) B.len_)) (s_one (s_if (t_ne (hr.units) (e_cmp (f:=fun i j=>decide (j < i)) op_gt (e_call c_law_twice hr (by rfl) (a_val (e_ix (v3 0) (v3 1) (fun _ _=>rfl)) a_nil)) e_int (nomark _)) (e_cmp (f:=fun i j=>decide (i=j)) op_eqI (e_mod (v3 2) e_int) e_int (nomark _)) (nomark _)) (s_one (s_ret e_bl)) s_nil)))) (s_one (s_ret e_bl))))),?_⟩)
 rintro as k hl ⟨rs,rfl,hl,hs,hk⟩
 refine at3 (r:=[.val (.lst (rs.map dG)),.no,.no]) rfl ?_
 have big:75≤sizeLine:=by decide
 have no:lcB rs=false→k (.val (.bl false)):=fun h=>by rw [h] at hk; exact hk
 refine mid4 (fun ρ=>ρ=[.val (.lst (rs.map dG)),.no,.no]∧rs.length≤8∧(rs.map List.length).sum≤24) ?_ (fun N kk=>?_)
 rotate_left
 ·refine ⟨_,rfl,_,rfl,_,_,rfl,rfl,_,rfl,iteD (fun g=>?_) (fun g=>?_)⟩
  ·refine no ?_
   rw [List.length_map] at g
   unfold lcB
   rw [decide_eq_false (show ¬ rs.length≤8 by lia),Bool.false_and]
  rw [List.length_map] at g
  refine ⟨_,rfl,_,rfl,by rw [List.length_map]; lia,?_⟩
  refine compG_map (f:=dG) (h:=fun ps=>D.int (ps.length:Nat)) (rs:=rs) ?_ ?_
  ·intro ps hp k hk
   refine ⟨_,rfl,_,rfl,?_⟩
   rw [List.length_map]
   exact hk
  refine ⟨rs.map fun ps=>((ps.length:Nat):Int),by rw [List.map_map]; rfl,_,_,rfl,rfl,_,rfl,iteD (fun g2=>?_) (fun g2=>?_)⟩
  ·refine no ?_
   rw [sumN] at g2
   unfold lcB
   rw [decide_eq_false (show ¬ (rs.map List.length).sum≤24 by lia),Bool.false_and,Bool.and_false]
  rw [sumN] at g2
  exact kk _ ⟨rfl,by lia,by lia⟩
 rintro ρ ⟨rfl,b1,b2⟩
 have es:lcB rs=((List.range rs.length).all (lcOk rs) && (List.range rs.length).all (lcIn rs)):=by
  unfold lcB
  rw [decide_eq_true b1,decide_eq_true b2,Bool.true_and,Bool.true_and]
 have len:(rs.map dG).length=rs.length:=List.length_map ..
 refine mid4 (fun ρ=>(∃ v1 v2,ρ=[.val (.lst (rs.map dG)),v1,v2])∧∀ k,k < rs.length→lcOk rs k=true) ?_ (fun N kk=>?_)
 rotate_left
 ·refine ⟨_,rfl,_,rfl,_,rfl,by lia,by rw [len]; lia,?_⟩
  rw [len,show ((rs.length:Nat):Int).toNat=rs.length by lia]
  refine forR_rng (fun i ρ=>(∃ v1 v2,ρ=[.val (.lst (rs.map dG)),v1,v2])∧∀ k,k < i→lcOk rs k=true) ⟨⟨_,_,rfl⟩,fun k h=>absurd h (Nat.not_lt_zero k)⟩ ?_ (fun ρ h=>kk _ h)
  clear kk
  rintro i ρ hi ⟨⟨v1,v2,rfl⟩,hok⟩ N kk
  have bad:lcOk rs i=false→k (.val (.bl false)):=fun h=>no (by
   rw [es,show (List.range rs.length).all (lcOk rs)=false from List.all_eq_false.mpr ⟨i,List.mem_range.mpr hi,by rw [h]; exact Bool.false_ne_true⟩,Bool.false_and])
  have kk:lcOk rs i=true→∀ r,(∃ v1 v2,r=[.val (.lst (rs.map dG)),v1,v2])→N r:=fun h r hr=>kk r ⟨hr,fun m hm=>by
   rcases Nat.lt_succ_iff_lt_or_eq.mp hm with h1 | rfl
   ·exact hok m h1
   ·exact h⟩
  unfold lcOk at bad kk
  have mi:=hs _ (rgN_mem hi)
  refine ⟨_,rfl,_,rfl,_,_,_,.inr rfl,rfl,rgN_at hi,?_⟩
  refine ⟨rfl,rgN rs i,rfl,mi.1,mi.2,_,rfl,?_⟩
  cases c:smB (rgN rs i) with
  | false=>rw [c,Bool.false_and] at bad; exact bad rfl
  | true =>
   rw [c,Bool.true_and] at bad kk
   refine ⟨_,rfl,_,rfl,by lia,by lia,by rw [List.length_map,List.length_range]; lia,?_⟩
   rw [show ((i:Nat):Int).toNat=i by lia]
   refine compG_map (f:=fun j:Nat=>D.int j) (h:=fun j:Nat=>D.bl (aptB (rgN rs j) (rgN rs i))) (rs:=List.range i) ?_ ?_
   ·intro j hj k hk
    have hj:=List.mem_range.mp hj
    have mj:=hs _ (rgN_mem (rs:=rs) (k:=j) (by lia))
    refine ⟨_,rfl,_,rfl,_,_,_,.inr rfl,rfl,rgN_at (by lia),?_⟩
    refine ⟨_,rfl,_,rfl,_,_,_,.inr rfl,rfl,rgN_at hi,?_⟩
    exact ⟨rfl,rgN rs j,rgN rs i,rfl,mj.1,mj.2,mi.1,mi.2,hk⟩
   refine ⟨(List.range i).map fun j=>aptB (rgN rs j) (rgN rs i),by rw [List.map_map]; rfl,_,rfl,?_⟩
   rw [List.all_map]
   show if (!((List.range i).all fun j=>aptB (rgN rs j) (rgN rs i)))=true then _ else _
   cases c2:((List.range i).all fun j=>aptB (rgN rs j) (rgN rs i)) with
   | false=>rw [c2] at bad; exact bad rfl
   | true=>rw [c2] at kk; exact kk rfl _ ⟨_,_,rfl⟩
 rintro ρ ⟨⟨v1,v2,rfl⟩,hok⟩
 have n3:∀ k,k < rs.length→3≤(rgN rs k).length:=fun k hk=>by
  have:=hok k hk
  unfold lcOk at this
  rw [Bool.and_eq_true] at this
  exact ((sm_simp _).mp this.1).1
 rw [List.all_eq_true.mpr fun k hk=>hok k (List.mem_range.mp hk),Bool.true_and] at es
 refine mid4 (fun ρ=>(∃ v1 v2,ρ=[.val (.lst (rs.map dG)),v1,v2])∧∀ k,k < rs.length→lcIn rs k=true) ?_ (fun N kk=>?_)
 ·rintro ρ ⟨⟨v1,v2,rfl⟩,h⟩
  rw [es,List.all_eq_true.mpr fun k hk=>h k (List.mem_range.mp hk)] at hk
  exact hk
 refine ⟨_,rfl,_,rfl,_,rfl,by lia,by rw [len]; lia,?_⟩
 rw [len,show ((rs.length:Nat):Int).toNat=rs.length by lia]
 refine forR_rng (fun i ρ=>(∃ v1 v2,ρ=[.val (.lst (rs.map dG)),v1,v2])∧∀ k,k < i→lcIn rs k=true) ⟨⟨_,_,rfl⟩,fun k h=>absurd h (Nat.not_lt_zero k)⟩ ?_ (fun ρ h=>kk _ h)
 clear kk
 rintro i ρ hi ⟨⟨v1,v2,rfl⟩,hoi⟩ N kk
 have bad:lcIn rs i=false→k (.val (.bl false)):=fun h=>no (by
  rw [es]
  exact List.all_eq_false.mpr ⟨i,List.mem_range.mpr hi,by rw [h]; exact Bool.false_ne_true⟩)
 have kk:lcIn rs i=true→∀ r,(∃ v1 v2,r=[.val (.lst (rs.map dG)),v1,v2])→N r:=fun h r hr=>kk r ⟨hr,fun m hm=>by
  rcases Nat.lt_succ_iff_lt_or_eq.mp hm with h1 | rfl
  ·exact hoi m h1
  ·exact h⟩
 have mi:=hs _ (rgN_mem hi)
 obtain ⟨p,qs,ep⟩:∃ p qs,rgN rs i=p :: qs:=by
  have:=n3 i hi
  cases c:rgN rs i with
  | nil=>rw [c] at this; exact absurd this (by decide)
  | cons p qs=>exact ⟨p,qs,rfl⟩
 have gi:=rgN_at hi
 have sp:Sm p:=mi.2 p (by rw [ep]; exact List.mem_cons_self)
 unfold lcIn at bad kk
 rw [ep] at gi
 rw [ep,show (p :: qs).headD (0,0)=p from rfl,← ep] at bad kk
 walk_at "w"
 rw [cutL_take (by lia) (by rw [List.length_map]; lia),cutL_drop (by lia) (by rw [List.length_map]; lia),show ((i:Nat):Int).toNat=i by lia,show (((i:Nat):Int) + 1).toNat=i + 1 by lia,← List.map_take,← List.map_drop]
 refine ⟨by rw [List.length_map,List.length_map,List.length_take,List.length_drop]; lia,?_⟩
 rw [← List.map_append]
 have others:∀ qs∈rs.take i ++ rs.drop (i + 1),qs∈rs:=fun qs h=>by
  rcases List.mem_append.mp h with h | h
  ·exact List.mem_of_mem_take h
  ·exact List.mem_of_mem_drop h
 have ol:(rs.take i ++ rs.drop (i + 1)).length≤75:=by rw [List.length_append,List.length_take,List.length_drop]; lia
 generalize rs.take i ++ rs.drop (i + 1)=os at *
 refine ⟨_,rfl,by rw [List.length_map]; lia,?_⟩
 refine compG_flt (f:=dG) (h:=dG) (P:=wiB p) (rs:=os) (fun ps hp k hk=>?_) (fun ps hp k hk=>⟨_,rfl,hk⟩) ?_
 ·have mp:=hs ps (others ps hp)
  refine ⟨_,rfl,_,rfl,_,rfl,_,_,_,.inr rfl,rfl,gi,_,_,_,.inr rfl,rfl,atI_zero,?_⟩
  exact ⟨rfl,ps,p,rfl,mp.1,fun q hq=>(mp.2 q hq).wd,sp.wd,_,rfl,hk⟩
 refine ⟨_,rfl,?_⟩
 rw [List.length_map]
 generalize ((os.filter (wiB p)).length:Int)=c at *
 refine ⟨_,rfl,_,rfl,_,_,_,.inr rfl,rfl,rgN_at hi,?_⟩
 refine ⟨rfl,rgN rs i,rfl,mi.1,mi.2,_,_,rfl,rfl,?_⟩
 refine ⟨_,rfl,_,_,rfl,rfl,(show (0:Int) < 2 by decide),_,_,rfl,rfl,.B,rfl,rfl,by decide,_,rfl,neIf (fun ne=>?_) (fun eq=>?_)⟩
 ·exact bad (beq_eq_false_iff_ne.mpr fun z=>ne (congrArg D.bl z))
 ·exact kk (beq_iff_eq.mpr (D.bl.inj eq)) _ ⟨_,_,rfl⟩
theorem sc_law_bottom:FnScope ["_law_bag_here"] ["_law_bag_here"] (defScope s_law_bottom):=⟨rfl,rfl,rfl,by decide +kernel,rfl,by decide +kernel,by decide +kernel⟩
def F_bottomC  : FS:=fun as k =>  as=[.bag]∧∀ n:Int,0 < n→n≤1000000000039→k (.val (.int n))
theorem ok_bottomC (B:Blts mg)   (F:Fnd K mg "_law_bottom" s_law_bottom ["_law_bag_here"]) (c_law_draw:Cal P w K mg base "_law_draw" ["_law_bag_here", "_law_many"] 1 (Con K 2 (F_draw 400))) :
  Cal P w K mg base "_law_bottom" ["_law_bag_here"] 2 (Con K 1 F_bottomC):=by
 refine def3 (lv:=1) F sc_law_bottom rfl (fun f cdv A outer s H E hr=>⟨_,(s_one (s_ret (e_ix (o_e (o_lst (l_cons e_int (l_cons e_int (l_cons e_int (l_cons e_int (l_cons e_int (l_cons e_int (l_cons (e_add (e_pow e_int e_int) e_int) (l_cons e_int l_nil)))))))))) (e_call c_law_draw hr (by rfl) (a_bag 0 (a_val e_int a_nil))) (fun _ _=>rfl)))),?_⟩)
 rintro as k hl ⟨rfl,hk⟩
 refine at3 (r:=[.bag]) rfl ?_
 walk_at "w"
 refine ⟨by show 8≤sizeLine; decide,?_⟩
 walk_at "w"
 intro r r0 r1
 have e12:(10:Int) ^ Int.toNat 12 + 39=1000000000039:=by decide
 obtain rfl | rfl | rfl | rfl | rfl | rfl | rfl | rfl:r=0∨r=1∨r=2∨r=3∨r=4∨r=5∨r=6∨r=7:=by lia
 ·exact ⟨_,_,_,.inr rfl,rfl,rfl,hk _ (by decide) (by decide)⟩
 ·exact ⟨_,_,_,.inr rfl,rfl,rfl,hk _ (by decide) (by decide)⟩
 ·exact ⟨_,_,_,.inr rfl,rfl,rfl,hk _ (by decide) (by decide)⟩
 ·exact ⟨_,_,_,.inr rfl,rfl,rfl,hk _ (by decide) (by decide)⟩
 ·exact ⟨_,_,_,.inr rfl,rfl,rfl,hk _ (by decide) (by decide)⟩
 ·exact ⟨_,_,_,.inr rfl,rfl,rfl,hk _ (by decide) (by decide)⟩
 ·exact ⟨_,_,_,.inr rfl,rfl,rfl,hk _ (by decide) (by decide)⟩
 ·exact ⟨_,_,_,.inr rfl,rfl,rfl,hk _ (by decide) (by decide)⟩
theorem sc_law_chain:FnScope ["_law_bag_here", "_law_wide", "_law_most", "_law_inner"] ["_law_bag_here", "_law_wide", "_law_most"] (defScope s_law_chain):=⟨rfl,rfl,rfl,by decide +kernel,rfl,by decide +kernel,by decide +kernel⟩
def F_chainC  : FS:=fun as k=>∃ (wd mo:Int),as=[.bag,.val (.int wd),.val (.int mo)]∧(1≤wd)∧(wd≤11)∧(2≤mo)∧(mo≤12)∧∀ xs:List Int,2≤xs.length→(xs.length:Int)≤mo→(∀ x∈xs,0≤x∧x≤11)→k (.own (xs.map D.int))
theorem ok_chainC (B:Blts mg)   (F:Fnd K mg "_law_chain" s_law_chain ["_law_bag_here", "_law_wide", "_law_most"]) (c_law_draw:Cal P w K mg base "_law_draw" ["_law_bag_here", "_law_many"] 1 (Con K 2 (F_draw 400))) :
  Cal P w K mg base "_law_chain" ["_law_bag_here", "_law_wide", "_law_most"] 2 (Con K 3 F_chainC):=by
 refine def3 (lv:=1) F sc_law_chain rfl (fun f cdv A outer s H E hr=>⟨_,(s_cons (s_set (i:=3) sc_law_chain.nd rfl (Or.inl rfl) (o_e (o_slice (o_e (o_compG (ts:=["_law_x"]) (fr:=["_law_bag_here"]) (js:=[0]) (i_rng2 e_int (v3 1) (by rfl) B.range_) (fun _ _ _ _=>(g_name (i:=0) (show List.Nodup (["_law_x", "_law_bag_here"]:List Str) by decide +kernel) rfl (Or.inl rfl))) (fun _ _ _ _=>(ifs_one (t_cmp (f:=fun i j=>decide (i=j)) op_eqI (e_call c_law_draw hr (by rfl) (a_bag 1 (a_val e_int a_nil))) e_int (nomark _)))) (fun _ _ _ _=>(v3 0)) ⟨rfl,by decide +kernel,rfl,by decide +kernel,fsub_of (List.forall_mem_cons.mpr ⟨rfl,(List.forall_mem_nil _)⟩),fhas_b rfl,by walk_at "ffr", rfl⟩)) p_none (p_some (e_sub (v3 2) e_int))))) (s_one (s_retO (o_cat (o_e (o_cat (o_e (o_lst (l_cons e_int l_nil))) (v3 3))) (o_e (o_lst (l_cons (v3 1) l_nil))))))),?_⟩)
 rintro as k hl ⟨wd,mo,rfl,w1,w2,m1,m2,hk⟩
 refine at3 (r:=[.bag,.val (.int wd),.val (.int mo),.no]) rfl ?_
 have big:75≤sizeLine:=by decide
 walk_at "w"
 refine ⟨⟨by decide,by decide,by lia,by lia⟩,by rw [List.length_map,List.length_range]; lia,?_⟩
 refine compG_pick (f:=fun t:Nat=>D.int (1 + t)) (xs:=List.range (wd - 1).toNat) (fun x hx k hk=>?_) (fun x hx k hk=>⟨_,rfl,hk⟩) fun ys hl hy=>?_
 ·walk_at "w"
  intro r r0 r1
  exact ⟨_,_,rfl,rfl,_,rfl,hk _⟩
 rw [List.length_range] at hl
 have hy:∀ y∈ys,0≤(1 + (y:Int))∧(1 + (y:Int))≤11:=fun y h=>by
  have:=List.mem_range.mp (hy y h)
  lia
 refine ⟨_,rfl,_,_,rfl,rfl,_,rfl,_,rfl,?_⟩
 rw [cutL_pre (by lia),← List.map_take]
 generalize hn:min (mo - 2).toNat (ys.map fun t:Nat=>D.int (1 + t)).length=n
 have hn2:n≤(mo - 2).toNat:=by rw [← hn]; exact Nat.min_le_left ..
 have e:(ys.take n).map (fun t:Nat=>D.int (1 + t))=((ys.take n).map fun t:Nat=>1 + (t:Int)).map D.int:=by rw [List.map_map]; rfl
 have zb:∀ z∈(ys.take n).map (fun t:Nat=>1 + (t:Int)),0≤z∧z≤11:=fun z hz=>by
  obtain ⟨y,h,rfl⟩:=List.mem_map.mp hz
  exact hy y (List.mem_of_mem_take h)
 have zl:((ys.take n).map fun t:Nat=>1 + (t:Int)).length≤n:=by rw [List.length_map,List.length_take]; exact Nat.min_le_left ..
 rw [e]
 generalize (ys.take n).map (fun t:Nat=>1 + (t:Int))=zs at zb zl
 have hk:=hk (0 :: zs ++ [wd]) (by simp) (by simp; lia) (fun x hx=>by
  rcases List.mem_append.mp hx with h | h
  ·rcases List.mem_cons.mp h with rfl | h
   ·exact ⟨by decide,by decide⟩
   ·exact zb x h
  ·rw [List.mem_singleton.mp h]; exact ⟨by lia,by lia⟩)
 rw [List.map_append,List.map_cons] at hk
 walk_at "w"
 refine ⟨by rw [List.length_map]; show 1 + _≤_; lia,?_⟩
 walk_at "w"
 exact ⟨by rw [List.length_append,List.length_map]; show 1 + _ + 1≤_; lia,hk⟩
theorem sc_law_strip:FnScope ["_law_bag_here", "_law_wide", "_law_most", "_law_low", "_law_high"] ["_law_bag_here", "_law_wide", "_law_most"] (defScope s_law_strip):=⟨rfl,rfl,rfl,by decide +kernel,rfl,by decide +kernel,by decide +kernel⟩
def F_stripC  : FS:=fun as k=>∃ (wd mo:Int),as=[.bag,.val (.int wd),.val (.int mo)]∧(1≤wd)∧(wd≤11)∧(2≤mo)∧(mo≤12)∧∀ ps:List (Int×Int),3≤ps.length→(ps.length:Int)≤2 * mo→(∀ p∈ps,Sm6 p)→k (.own (ps.map dR))
theorem ok_stripC (B:Blts mg)   (F:Fnd K mg "_law_strip" s_law_strip ["_law_bag_here", "_law_wide", "_law_most"]) (c_law_chain:Cal P w K mg base "_law_chain" ["_law_bag_here", "_law_wide", "_law_most"] 2 (Con K 3 F_chainC)) (c_law_draw:Cal P w K mg base "_law_draw" ["_law_bag_here", "_law_many"] 1 (Con K 2 (F_draw 400))) :
  Cal P w K mg base "_law_strip" ["_law_bag_here", "_law_wide", "_law_most"] 3 (Con K 3 F_stripC):=by
 refine def3 (lv:=2) F sc_law_strip rfl (fun f cdv A outer s H E hr=>⟨_,(s_cons (s_thenFz 3 (s_compA (i:=3) sc_law_strip.nd rfl rfl (ts:=["_law_x"]) (fr:=["_law_bag_here"]) (js:=[0]) (i_list (e_call c_law_chain hr (by rfl) (a_bag 0 (a_val (v3 1) (a_val (v3 2) a_nil))))) (fun _ _ _ _=>(g_name (i:=0) (show List.Nodup (["_law_x", "_law_bag_here"]:List Str) by decide +kernel) rfl (Or.inl rfl))) (fun _ _ _ _=>ifs_nil) (fun _ _ _ _=>(e_tup (l_cons (v3 0) (l_cons (e_call c_law_draw hr (by rfl) (a_bag 1 (a_val e_int a_nil))) l_nil)))) ⟨rfl,by decide +kernel,rfl,by decide +kernel,fsub_of (List.forall_mem_cons.mpr ⟨rfl,(List.forall_mem_nil _)⟩),fhas_b rfl,by walk_at "ffr", rfl⟩)) (s_cons (s_thenFz 4 (s_compA (i:=4) sc_law_strip.nd rfl rfl (ts:=["_law_x"]) (fr:=["_law_bag_here"]) (js:=[0]) (i_list (e_call c_law_chain hr (by rfl) (a_bag 0 (a_val (v3 1) (a_val (v3 2) a_nil))))) (fun _ _ _ _=>(g_name (i:=0) (show List.Nodup (["_law_x", "_law_bag_here"]:List Str) by decide +kernel) rfl (Or.inl rfl))) (fun _ _ _ _=>ifs_nil) (fun _ _ _ _=>(e_tup (l_cons (v3 0) (l_cons (e_add e_int (e_call c_law_draw hr (by rfl) (a_bag 1 (a_val e_int a_nil)))) l_nil)))) ⟨rfl,by decide +kernel,rfl,by decide +kernel,fsub_of (List.forall_mem_cons.mpr ⟨rfl,(List.forall_mem_nil _)⟩),fhas_b rfl,by walk_at "ffr", rfl⟩)) (s_one (s_retO (o_cat (v3 3) (o_e (o_rev (v3 4) (e_neg e_int)))))))),?_⟩)
 rintro as k hl ⟨wd,mo,rfl,w1,w2,m1,m2,hk⟩
 refine at3 (r:=[.bag,.val (.int wd),.val (.int mo),.no,.no]) rfl ?_
 have big:75≤sizeLine:=by decide
 walk_at "w"
 refine ⟨wd,mo,rfl,w1,w2,m1,m2,fun xs x2 xm xb=>?_⟩
 refine ⟨_,rfl,by rw [List.length_map]; lia,?_⟩
 refine compG_any (f:=dR) (Pp:=Sm6) (fun d hd k hk=>?_) fun ps pl pp=>?_
 ·obtain ⟨x,hx,rfl⟩:=List.mem_map.mp hd
  obtain ⟨b1,b2⟩:=xb x hx
  walk_at "w"
  intro r r0 r1
  exact ⟨by show 2≤sizeLine; decide,hk (x,r) ⟨b1,b2,r0,by show r≤11; lia⟩⟩
 refine ⟨_,rfl,?_⟩
 walk_at "w"
 refine ⟨wd,mo,rfl,w1,w2,m1,m2,fun ys y2 ym yb=>?_⟩
 refine ⟨_,rfl,by rw [List.length_map]; lia,?_⟩
 refine compG_any (f:=dR) (Pp:=Sm6) (fun d hd k hk=>?_) fun qs ql qp=>?_
 ·obtain ⟨x,hx,rfl⟩:=List.mem_map.mp hd
  obtain ⟨b1,b2⟩:=yb x hx
  walk_at "w"
  intro r r0 r1
  walk_at "w"
  exact hk (x,4 + r) ⟨b1,b2,by show 0≤4 + r; lia,by show 4 + r≤11; lia⟩
 refine ⟨_,rfl,?_⟩
 rw [List.length_map] at pl ql
 have hk:=hk (ps ++ qs.reverse) (by simp; lia) (by simp; lia) (fun p hp=>by
  rcases List.mem_append.mp hp with h | h
  ·exact pp p h
  ·exact qp p (List.mem_reverse.mp h))
 rw [List.map_append,List.map_reverse] at hk
 walk_at "w"
 exact ⟨by simp; lia,hk⟩
theorem sc_law_shape:FnScope ["_law_bag_here", "_law_most", "_law_way", "_law_made"] ["_law_bag_here", "_law_most"] (defScope s_law_shape):=⟨rfl,rfl,rfl,by decide +kernel,rfl,by decide +kernel,by decide +kernel⟩
def F_shape14  : FS:=fun as k =>  as=[.bag,.val (.int 10)]∧∀ ps:List (Int×Int),3≤ps.length→ps.length≤10→(∀ p∈ps,Sm6 p)→k (.own (ps.map dR))
theorem ok_shape14 (B:Blts mg)   (F:Fnd K mg "_law_shape" s_law_shape ["_law_bag_here", "_law_most"]) (c_law_draw:Cal P w K mg base "_law_draw" ["_law_bag_here", "_law_many"] 1 (Con K 2 (F_draw 400))) (c_law_strip:Cal P w K mg base "_law_strip" ["_law_bag_here", "_law_wide", "_law_most"] 3 (Con K 3 F_stripC)) (c_law_simple:Cal P w K mg base "_law_simple" ["_law_ring"] 4 (Con K 1 F_simpX)) (c_law_twice:Cal P w K mg base "_law_twice" ["_law_ring"] 2 (Con K 1 F_twiceC)) :
  Cal P w K mg base "_law_shape" ["_law_bag_here", "_law_most"] 5 (Con K 2 F_shape14):=by
 refine def3 (lv:=4) F sc_law_shape rfl (fun f cdv A outer s H E hr=>⟨_,(s_cons (s_set (i:=2) sc_law_shape.nd rfl (Or.inl rfl) (e_call c_law_draw hr (by rfl) (a_bag 0 (a_val e_int a_nil)))) (s_cons (s_if (t_cmp (f:=fun i j=>decide (i=j)) op_eqI (v3 2) e_int (nomark _)) (s_one (s_retO (o_call c_law_strip hr (by rfl) (a_bag 0 (a_val e_int (a_val (e_fdiv (v3 1) e_int) a_nil)))))) s_nil) (s_cons (s_compA (i:=3) sc_law_shape.nd rfl rfl (ts:=["_law_k"]) (fr:=["_law_bag_here"]) (js:=[0]) (i_rng (e_add e_int (v3 2)) (by rfl) B.range_) (fun _ _ _ _=>(g_name (i:=0) (show List.Nodup (["_law_k", "_law_bag_here"]:List Str) by decide +kernel) rfl (Or.inl rfl))) (fun _ _ _ _=>ifs_nil) (fun _ _ _ _=>(e_tup (l_cons (e_call c_law_draw hr (by rfl) (a_bag 1 (a_val e_int a_nil))) (l_cons (e_call c_law_draw hr (by rfl) (a_bag 1 (a_val e_int a_nil))) l_nil)))) ⟨rfl,by decide +kernel,rfl,by decide +kernel,fsub_of (List.forall_mem_cons.mpr ⟨rfl,(List.forall_mem_nil _)⟩),fhas_b rfl,by walk_at "ffr", rfl⟩) (s_cons (s_if (t_tmp (w_t (w_or (t_not (t_val (e_call c_law_simple hr (by rfl) (a_val (v3 3) a_nil)))) (w_or1 (t_cmp (f:=fun i j=>decide (i=j)) op_eqI (e_call c_law_twice hr (by rfl) (a_val (v3 3) a_nil)) e_int (nomark _)))))) (s_one (s_setO (i:=3) sc_law_shape.nd rfl (Or.inl rfl) (o_lst (l_cons (e_tup (l_cons e_int (l_cons e_int l_nil))) (l_cons (e_tup (l_cons e_int (l_cons (e_call c_law_draw hr (by rfl) (a_bag 0 (a_val e_int a_nil))) l_nil))) (l_cons (e_tup (l_cons (e_call c_law_draw hr (by rfl) (a_bag 0 (a_val e_int a_nil))) (l_cons (e_add e_int (e_call c_law_draw hr (by rfl) (a_bag 0 (a_val e_int a_nil)))) l_nil))) l_nil)))))) s_nil) (s_cons (s_if (t_tmp (t_cmp (f:=fun i j=>decide (i < j)) op_lt (e_call c_law_twice hr (by rfl) (a_val (v3 3) a_nil)) e_int (nomark _))) (s_one (s_rvs 3)) s_nil) (s_one (s_retV 3))))))),?_⟩)
 rintro as k hl ⟨rfl,hk⟩
 refine at3 (r:=[.bag,.val (.int 10),.no,.no]) rfl ?_
 have big:75≤sizeLine:=by decide
 walk_at "w"
 intro r r0 r1
 walk_at "wd"
 refine iteD (fun g=>?_) (fun g=>?_)
 ·walk_at "w"
  exact ⟨6,5,rfl,by decide,by decide,by decide,by decide,fun ps h1 h2 h3=>⟨_,rfl,hk ps h1 (by lia) h3⟩⟩
 refine pass4 (fun N kk=>kk) ?_
 refine mid4 (fun ρ=>∃ ps:List F2,ρ=[.bag,.val (.int 10),.val (.int r),.own (ps.map dR)]∧3≤ps.length∧ps.length≤10∧∀ p∈ps,Sm6 p) ?_ (fun N kk=>?_)
 rotate_left
 ·refine ⟨_,rfl,_,_,rfl,rfl,_,rfl,by lia,by lia,by rw [List.length_map,List.length_range]; lia,?_⟩
  refine compG_any (f:=dR) (Pp:=Sm6) (fun d hd k hk=>?_) fun ps pl pp=>?_
  ·walk_at "w"
   intro x x0 x1
   walk_at "w"
   intro y y0 y1
   exact ⟨by show 2≤sizeLine; decide,hk (x,y) ⟨x0,by show x≤11; lia,y0,by show y≤11; lia⟩⟩
  rw [List.length_map,List.length_range] at pl
  exact kk _ ⟨ps,rfl,by lia,by lia,pp⟩
 rintro ρ ⟨ps,rfl,l3,l10,pp⟩
 refine mid4 (fun ρ=>∃ ps:List F2,ρ=[.bag,.val (.int 10),.val (.int r),.own (ps.map dR)]∧3≤ps.length∧ps.length≤10∧∀ p∈ps,Sm6 p) ?_ (fun N kk=>?_)
 rotate_left
 ·have anew:∀ N:List Sl→Prop,(∀ ρ:List Sl,(∃ ps:List F2,ρ=[.bag,.val (.int 10),.val (.int r),.own (ps.map dR)]∧3≤ps.length∧ps.length≤10∧∀ p∈ps,Sm6 p)→N ρ)→∀ x y z:Int,0≤x→x < 4→0≤y→y < 6→0≤z→z < 3→N [.bag,.val (.int 10),.val (.int r),.own [dR (0,0),dR (6,x),dR (y,4 + z)]]:=fun N kk x y z x0 x1 y0 y1 z0 z1=>kk _ ⟨[(0,0),(6,x),(y,4 + z)],rfl,(show 3≤3 by decide),(show 3≤10 by decide),fun p hp=>by
   simp only [List.mem_cons,List.not_mem_nil,or_false] at hp
   rcases hp with rfl | rfl | rfl
   ·exact ⟨by decide,by decide,by decide,by decide⟩
   ·exact ⟨(show (0:Int)≤6 by decide),(show (6:Int)≤11 by decide),x0,by show x≤11; lia⟩
   ·exact ⟨y0,by show y≤11; lia,by show 0≤4 + z; lia,by show 4 + z≤11; lia⟩⟩
  have anew:=anew N kk
  refine ⟨_,rfl,rfl,ps,rfl,by lia,fun p hp=>(pp p hp).sm,_,rfl,?_⟩
  cases smB ps
  ·walk_at "w"
   intro x x0 x1
   walk_at "w"
   intro y y0 y1
   walk_at "w"
   intro z z0 z1
   walk_at "w"
   exact anew x y z x0 x1 y0 y1 z0 z1
  ·refine ⟨_,rfl,rfl,ps,rfl,by lia,fun p hp=>(pp p hp).sm,_,_,rfl,rfl,_,rfl,iteD (fun _=>?_) (fun _=>kk _ ⟨ps,rfl,l3,l10,pp⟩)⟩
   walk_at "w"
   intro x x0 x1
   walk_at "w"
   intro y y0 y1
   walk_at "w"
   intro z z0 z1
   walk_at "w"
   exact anew x y z x0 x1 y0 y1 z0 z1
 clear pp l3 l10 ps
 rintro ρ ⟨ps,rfl,l3,l10,pp⟩
 refine mid4 (fun ρ=>∃ ps:List F2,ρ=[.bag,.val (.int 10),.val (.int r),.own (ps.map dR)]∧3≤ps.length∧ps.length≤10∧∀ p∈ps,Sm6 p) (fun ρ ⟨ps,e,l3,l10,pp⟩=>by subst e; exact ⟨_,rfl,hk ps l3 l10 pp⟩) (fun N kk=>?_)
 refine ⟨_,rfl,rfl,ps,rfl,by lia,fun p hp=>(pp p hp).sm,_,_,rfl,rfl,_,rfl,iteD (fun _=>?_) (fun _=>kk _ ⟨ps,rfl,l3,l10,pp⟩)⟩
 refine ⟨_,rfl,kk _ ⟨ps.reverse,?_,by simp; lia,by simp; lia,fun p hp=>pp p (List.mem_reverse.mp hp)⟩⟩
 rw [List.map_reverse]
 rfl
theorem sc_law_slid:FnScope ["_law_ring", "_law_right", "_law_up"] ["_law_ring", "_law_right", "_law_up"] (defScope s_law_slid):=⟨rfl,rfl,rfl,by decide +kernel,rfl,by decide +kernel,by decide +kernel⟩
def F_slidL  : FS:=fun as k=>∃ (ps:List F2) (a b:Int),as=[.val (.lst (ps.map dR)),.val (.int a),.val (.int b)]∧(ps.length≤75)∧k (.own ((ps.map fun p=>(p.1 + a,p.2 + b)).map dR))
theorem ok_slidL (B:Blts mg)   (F:Fnd K mg "_law_slid" s_law_slid ["_law_ring", "_law_right", "_law_up"])  :
  Cal P w K mg base "_law_slid" ["_law_ring", "_law_right", "_law_up"] 2 (Con K 3 F_slidL):=by
 refine def3 (lv:=1) F sc_law_slid rfl (fun f cdv A outer s H E hr=>⟨_,(s_one (s_retO (o_compG (ts:=["_law_p"]) (fr:=["_law_right", "_law_up"]) (js:=[1,2]) (i_list (v3 0)) (fun _ _ _ _=>(g_name (i:=0) (show List.Nodup (["_law_p", "_law_right", "_law_up"]:List Str) by decide +kernel) rfl (Or.inl rfl))) (fun _ _ _ _=>ifs_nil) (fun _ _ _ _=>(e_tup (l_cons (e_add (e_ix (v3 0) e_int (fun _ _=>rfl)) (v3 1)) (l_cons (e_add (e_ix (v3 0) e_int (fun _ _=>rfl)) (v3 2)) l_nil)))) ⟨rfl,by decide +kernel,rfl,by decide +kernel,fsub_of (List.forall_mem_cons.mpr ⟨rfl,(List.forall_mem_cons.mpr ⟨rfl,(List.forall_mem_nil _)⟩)⟩),fhas_b rfl,by walk_at "ffr", rfl⟩))),?_⟩)
 rintro as k hl ⟨ps,a,b,rfl,hl,hk⟩
 refine at3 (r:=[.val (.lst (ps.map dR)),.val (.int a),.val (.int b)]) rfl ?_
 have big:75≤sizeLine:=by decide
 walk_at "w"
 refine ⟨by rw [List.length_map]; lia,?_⟩
 refine compG_map (f:=dR) (h:=fun p=>dR (p.1 + a,p.2 + b)) (fun p hp k hk=>by walk_at "w"; exact hk) ?_
 rw [List.map_map] at hk
 exact hk
theorem sc_law_cloth:FnScope ["_law_bag_here", "_law_way", "_law_one", "_law_made", "_law_k", "_law_three"] ["_law_bag_here"] (defScope s_law_cloth):=⟨rfl,rfl,rfl,by decide +kernel,rfl,by decide +kernel,by decide +kernel⟩
def F_cloth14  : FS:=fun as k =>  as=[.bag]∧∀ rs:List (List F2),rs.length≤8→(rs.map List.length).sum≤24→(∀ ps∈rs,3≤ps.length∧∀ p∈ps,Sm1 p)→k (.val (.lst (rs.map dG)))
theorem ok_cloth14 (B:Blts mg)   (F:Fnd K mg "_law_cloth" s_law_cloth ["_law_bag_here"]) (c_law_draw:Cal P w K mg base "_law_draw" ["_law_bag_here", "_law_many"] 1 (Con K 2 (F_draw 400))) (c_law_shape:Cal P w K mg base "_law_shape" ["_law_bag_here", "_law_most"] 5 (Con K 2 F_shape14)) (c_law_slid:Cal P w K mg base "_law_slid" ["_law_ring", "_law_right", "_law_up"] 2 (Con K 3 F_slidL)) (c_law_strip:Cal P w K mg base "_law_strip" ["_law_bag_here", "_law_wide", "_law_most"] 3 (Con K 3 F_stripC)) :
  Cal P w K mg base "_law_cloth" ["_law_bag_here"] 6 (Con K 1 F_cloth14):=by
 refine def3 (lv:=5) F sc_law_cloth rfl (fun f cdv A outer s H E hr=>⟨_,(s_cons (s_set (i:=1) sc_law_cloth.nd rfl (Or.inl rfl) (e_call c_law_draw hr (by rfl) (a_bag 0 (a_val e_int a_nil)))) (s_cons (s_set (i:=2) sc_law_cloth.nd rfl (Or.inl rfl) (e_call c_law_shape hr (by rfl) (a_bag 0 (a_val e_int a_nil)))) (s_cons (s_if (t_cmp (f:=fun i j=>decide (i < j)) op_lt (v3 1) e_int (nomark _)) (s_one (s_ret (o_e (o_lst (l_cons (v3 2) l_nil))))) s_nil) (s_cons (s_if (t_cmp (f:=fun i j=>decide (i=j)) op_eqI (v3 1) e_int (nomark _)) (s_one (s_ret (o_e (o_lst (l_cons (v3 2) (l_cons (e_call c_law_slid hr (by rfl) (a_val (e_call c_law_shape hr (by rfl) (a_bag 0 (a_val e_int a_nil))) (a_val (e_add e_int (e_call c_law_draw hr (by rfl) (a_bag 0 (a_val e_int a_nil)))) (a_val (e_sub (e_call c_law_draw hr (by rfl) (a_bag 0 (a_val e_int a_nil))) e_int) a_nil)))) l_nil)))))) s_nil) (s_cons (s_if (t_cmp (f:=fun i j=>decide (i=j)) op_eqI (v3 1) e_int (nomark _)) (s_one (s_ret (o_e (o_lst (l_cons (o_e (o_rev (v3 2) (e_neg e_int))) (l_cons (o_e (o_lst (l_cons (e_tup (l_cons (e_neg e_int) (l_cons (e_neg e_int) l_nil))) (l_cons (e_tup (l_cons e_int (l_cons (e_neg e_int) l_nil))) (l_cons (e_tup (l_cons e_int (l_cons e_int l_nil))) (l_cons (e_tup (l_cons (e_neg e_int) (l_cons e_int l_nil))) l_nil)))))) l_nil)))))) s_nil) (s_cons (s_if (t_cmp (f:=fun i j=>decide (i=j)) op_eqI (v3 1) e_int (nomark _)) (s_one (s_ret (o_e (o_lst (l_cons (o_e (o_lst (l_cons (e_tup (l_cons (e_neg e_int) (l_cons (e_neg e_int) l_nil))) (l_cons (e_tup (l_cons e_int (l_cons (e_neg e_int) l_nil))) (l_cons (e_tup (l_cons e_int (l_cons e_int l_nil))) (l_cons (e_tup (l_cons (e_neg e_int) (l_cons e_int l_nil))) l_nil)))))) (l_cons (v3 2) (l_cons (o_e (o_lst (l_cons (e_tup (l_cons (e_neg e_int) (l_cons e_int l_nil))) (l_cons (e_tup (l_cons e_int (l_cons e_int l_nil))) (l_cons (e_tup (l_cons e_int (l_cons (e_neg e_int) l_nil))) (l_cons (e_tup (l_cons (e_neg e_int) (l_cons (e_neg e_int) l_nil))) l_nil)))))) l_nil))))))) s_nil) (s_cons (s_if (t_cmp (f:=fun i j=>decide (i=j)) op_eqI (v3 1) e_int (nomark _)) (s_cons (s_setO (i:=3) sc_law_cloth.nd rfl (Or.inl rfl) (o_lst l_nil)) (s_cons (s_for PassesOwn.never rfl (i_rng (e_call c_law_draw hr (by rfl) (a_bag 0 (a_val e_int a_nil))) (by rfl) B.range_) (g_name (i:=4) sc_law_cloth.nd rfl (Or.inl rfl)) (s_cons (s_set (i:=5) sc_law_cloth.nd rfl (Or.inl rfl) (o_e (o_lst (l_cons (e_tup (l_cons e_int (l_cons e_int l_nil))) (l_cons (e_tup (l_cons e_int (l_cons (e_call c_law_draw hr (by rfl) (a_bag 0 (a_val e_int a_nil))) l_nil))) (l_cons (e_tup (l_cons (e_call c_law_draw hr (by rfl) (a_bag 0 (a_val e_int a_nil))) (l_cons e_int l_nil))) l_nil)))))) (s_one (s_app 3 (e_call c_law_slid hr (by rfl) (a_val (v3 5) (a_val (e_mul e_int (v3 4)) (a_val (e_call c_law_draw hr (by rfl) (a_bag 0 (a_val e_int a_nil))) a_nil)))))))) (s_fz 3 (s_one (s_ret (v3 3)))))) s_nil) (s_one (s_ret (o_e (o_lst (l_cons (e_call c_law_strip hr (by rfl) (a_bag 0 (a_val e_int (a_val e_int a_nil)))) l_nil)))))))))))),?_⟩)
 rintro as k hl ⟨rfl,hk⟩
 refine at3 (r:=[.bag,.no,.no,.no,.no,.no]) rfl ?_
 have big:75≤sizeLine:=by decide
 walk_at "w"
 intro r r0 r1
 walk_at "w"
 intro ps l3 l10 pp
 dsimp only [fzR]
 have sp:∀ p∈ps,Sm1 p:=fun p hp=>(pp p hp).s1
 have pn:∀ {qs:List F2} {a b:Int},(∀ q∈qs,Sm6 q) → -60≤a→a≤60 → -60≤b→b≤60→∀ q∈qs.map (fun p=>(p.1 + a,p.2 + b)),Sm1 q:=fun {qs a b} h a0 a1 b0 b1 q hq=>by
  obtain ⟨p,hp,rfl⟩:=List.mem_map.mp hq
  obtain ⟨x0,x1,y0,y1⟩:=h p hp
  exact ⟨by show _≤p.1 + a; lia,by show p.1 + a≤_; lia,by show _≤p.2 + b; lia,by show p.2 + b≤_; lia⟩
 refine mid4 (fun ρ=>ρ=[.bag,.val (.int r),.val (dG ps),.no,.no,.no]∧¬ r < 3) ?_ (fun N kk=>⟨_,rfl,_,_,rfl,rfl,_,rfl,iteD (fun _=>?_) (fun g=>kk _ ⟨rfl,g⟩)⟩)
 rotate_left
 ·refine ⟨_,rfl,by show 1≤sizeLine; decide,hk [ps] (show 1≤8 by decide) (by simp; lia) (fun qs hq=>?_)⟩
  rw [List.mem_singleton.mp hq]
  exact ⟨l3,sp⟩
 rintro ρ ⟨rfl,g1⟩
 refine mid4 (fun ρ=>ρ=[.bag,.val (.int r),.val (dG ps),.no,.no,.no]∧¬ r=3) ?_ (fun N kk=>⟨_,rfl,_,_,rfl,rfl,_,rfl,iteD (fun _=>?_) (fun g=>kk _ ⟨rfl,g⟩)⟩)
 rotate_left
 ·walk_at "w"
  intro qs m3 m10 qq
  walk_at "w"
  intro a a0 a1
  walk_at "w"
  intro b b0 b1
  walk_at "w"
  refine ⟨qs,8 + a,b - 4,rfl,by lia,by show 2≤sizeLine; decide,?_⟩
  refine hk [ps,qs.map fun p=>(p.1 + (8 + a),p.2 + (b - 4))] (by simp) (by simp; lia) (fun q hq=>?_)
  rcases List.mem_cons.mp hq with rfl | hq
  ·exact ⟨l3,sp⟩
  ·rw [List.mem_singleton.mp hq]
   exact ⟨by rw [List.length_map]; exact m3,pn qq (by lia) (by lia) (by lia) (by lia)⟩
 rintro ρ ⟨rfl,g2⟩
 refine mid4 (fun ρ=>ρ=[.bag,.val (.int r),.val (dG ps),.no,.no,.no]∧¬ r=4) ?_ (fun N kk=>⟨_,rfl,_,_,rfl,rfl,_,rfl,iteD (fun _=>?_) (fun g=>kk _ ⟨rfl,g⟩)⟩)
 rotate_left
 ·have e:=hk [ps.reverse,[(-2,-2),(9,-1),(10,9),(-1,8)]] (by simp) (by simp; lia) (fun q hq=>by
   rcases List.mem_cons.mp hq with rfl | hq
   ·exact ⟨by simp; lia,fun p hp=>sp p (List.mem_reverse.mp hp)⟩
   ·rw [List.mem_singleton.mp hq]
    exact ⟨by decide,by decide⟩)
  rw [List.map_cons,show dG ps.reverse=.lst ((ps.map dR).reverse) by rw [← List.map_reverse]] at e
  walk_at "w"
  exact e
 rintro ρ ⟨rfl,g3⟩
 refine mid4 (fun ρ=>ρ=[.bag,.val (.int r),.val (dG ps),.no,.no,.no]∧¬ r=5) ?_ (fun N kk=>⟨_,rfl,_,_,rfl,rfl,_,rfl,iteD (fun _=>?_) (fun g=>kk _ ⟨rfl,g⟩)⟩)
 rotate_left
 ·have e:=hk [[(-4,-3),(11,-4),(12,11),(-3,10)],ps,[(-1,8),(8,9),(9,-1),(-2,-2)]] (by simp) (by simp; lia) (fun q hq=>by
   rcases List.mem_cons.mp hq with rfl | hq
   ·exact ⟨by decide,by decide⟩
   rcases List.mem_cons.mp hq with rfl | hq
   ·exact ⟨l3,sp⟩
   ·rw [List.mem_singleton.mp hq]
    exact ⟨by decide,by decide⟩)
  walk_at "w"
  exact e
 rintro ρ ⟨rfl,g4⟩
 refine mid4 (fun ρ=>ρ=[.bag,.val (.int r),.val (dG ps),.no,.no,.no]∧¬ r=6) ?_ (fun N kk=>⟨_,rfl,_,_,rfl,rfl,_,rfl,iteD (fun _=>?_) (fun g=>kk _ ⟨rfl,g⟩)⟩)
 rotate_left
 ·walk_at "w"
  intro m m0 m1
  walk_at "w"
  refine forR_rng (fun i ρ=>∃ (rs:RS) (v4 v5:Sl),ρ=[.bag,.val (.int r),.val (dG ps),.own (rs.map dG),v4,v5]∧rs.length=i∧∀ qs∈rs,qs.length=3∧∀ p∈qs,Sm1 p) ⟨[],_,_,rfl,rfl,by simp⟩ ?_ ?_
  rotate_left
  ·rintro ρ ⟨rs,v4,v5,rfl,hl,hq⟩
   exact ⟨_,rfl,_,rfl,hk rs (by lia) (by rw [sum3 fun qs h=>(hq qs h).1]; lia) fun qs h=>⟨by rw [(hq qs h).1]; exact Nat.le_refl _,(hq qs h).2⟩⟩
  rintro i ρ hi ⟨rs,v4,v5,rfl,hl,hq⟩ N kk
  walk_at "w"
  intro x x0 x1
  walk_at "w"
  intro y y0 y1
  walk_at "w"
  intro z z0 z1
  walk_at "w"
  refine ⟨[(0,0),(5,x),(y,6)],7 * i,z,rfl,(show 3≤75 by decide),?_⟩
  refine ⟨by rw [List.length_map]; lia,kk _ ⟨rs ++ [[(0,0),(5,x),(y,6)].map fun p=>(p.1 + 7 * (i:Int),p.2 + z)],.val (.int i),.val (.lst [dR (0,0),dR (5,x),dR (y,6)]),by rw [List.map_append]; rfl,by rw [List.length_append,hl]; rfl,fun qs h=>?_⟩⟩
  rcases List.mem_append.mp h with h | h
  ·exact hq qs h
  ·rw [List.mem_singleton.mp h]
   refine ⟨rfl,pn (qs:=[(0,0),(5,x),(y,6)]) (fun p hp=>?_) (by lia) (by lia) (by lia) (by lia)⟩
   simp only [List.mem_cons,List.not_mem_nil,or_false] at hp
   rcases hp with rfl | rfl | rfl
   ·exact ⟨by decide,by decide,by decide,by decide⟩
   ·exact ⟨(show (0:Int)≤5 by decide),(show (5:Int)≤11 by decide),x0,by show x≤11; lia⟩
   ·exact ⟨y0,by show y≤11; lia,(show (0:Int)≤6 by decide),(show (6:Int)≤11 by decide)⟩
 rintro ρ ⟨rfl,g5⟩
 walk_at "w"
 refine ⟨11,12,rfl,by decide,by decide,by decide,by decide,fun qs m3 m24 qq=>?_⟩
 refine ⟨by show 1≤sizeLine; decide,hk [qs] (show 1≤8 by decide) (by simp; lia) (fun q hq=>?_)⟩
 rw [List.mem_singleton.mp hq]
 exact ⟨m3,fun p hp=>(qq p hp).s1⟩
theorem sc_law_handed:FnScope ["_law_rings", "_law_n"] ["_law_rings", "_law_n"] (defScope s_law_handed):=⟨rfl,rfl,rfl,by decide +kernel,rfl,by decide +kernel,by decide +kernel⟩
def F_handedC  : FS:=fun as k=>∃ (rs:RS) (n:Int),as=[.val (.lst (rs.map dG)),.val (.int n)]∧(0 < n)∧(n≤1000000000039)∧(rs.length≤75)∧(∀ ps∈rs,ps.length≤75)∧k (.val (.lst ((rs.map fun ps=>ps.map fun p=>npt p.1 p.2 n).map dH)))
theorem ok_handedC (B:Blts mg)   (F:Fnd K mg "_law_handed" s_law_handed ["_law_rings", "_law_n"]) (c_law_point:Cal P w K mg base "_law_point" ["_law_a", "_law_b", "_law_n"] 3 (Con K 3 F_law_point)) :
  Cal P w K mg base "_law_handed" ["_law_rings", "_law_n"] 4 (Con K 2 F_handedC):=by
 refine def3 (lv:=3) F sc_law_handed rfl (fun f cdv A outer s H E hr=>⟨_,(s_one (s_ret (o_e (o_compG (ts:=["_law_ring"]) (fr:=["_law_n"]) (js:=[1]) (i_list (v3 0)) (fun _ _ _ _=>(g_name (i:=0) (show List.Nodup (["_law_ring", "_law_n"]:List Str) by decide +kernel) rfl (Or.inl rfl))) (fun _ _ _ _=>ifs_nil) (fun _ _ _ _=>(o_e (o_compG (ts:=["_law_p"]) (fr:=["_law_n"]) (js:=[1]) (i_list (v3 0)) (fun _ _ _ _=>(g_name (i:=0) (show List.Nodup (["_law_p", "_law_n"]:List Str) by decide +kernel) rfl (Or.inl rfl))) (fun _ _ _ _=>ifs_nil) (fun _ _ _ _=>(e_call c_law_point hr (by rfl) (a_val (e_ix (v3 0) e_int (fun _ _=>rfl)) (a_val (e_ix (v3 0) e_int (fun _ _=>rfl)) (a_val (v3 1) a_nil))))) ⟨rfl,by decide +kernel,rfl,by decide +kernel,fsub_of (List.forall_mem_cons.mpr ⟨rfl,(List.forall_mem_nil _)⟩),fhas_b rfl,by walk_at "ffr", rfl⟩))) ⟨rfl,by decide +kernel,rfl,by decide +kernel,fsub_of (List.forall_mem_cons.mpr ⟨rfl,(List.forall_mem_nil _)⟩),fhas_b rfl,by walk_at "ffr", rfl⟩)))),?_⟩)
 rintro as k hl ⟨rs,n,rfl,hn,hn2,hl,hr,hk⟩
 refine at3 (r:=[.val (.lst (rs.map dG)),.val (.int n)]) rfl ?_
 have big:75≤sizeLine:=by decide
 have bn:intBits n≤64:=bits_om (by lia) (by lia)
 walk_at "w"
 refine ⟨by rw [List.length_map]; lia,?_⟩
 refine compG_map (f:=dG) (h:=fun ps=>dH (ps.map fun p=>npt p.1 p.2 n)) (fun ps hp k hk=>?_) ?_
 ·refine ⟨_,rfl,_,rfl,by rw [List.length_map]; have:=hr ps hp; lia,?_⟩
  refine compG_map (f:=dR) (h:=fun p=>dP (npt p.1 p.2 n)) (fun p hp k hk=>?_) ?_
  ·walk_at "w"
   exact ⟨p.1,p.2,n,rfl,by lia,by lia,hk⟩
  ·have e:dH (ps.map fun p=>npt p.1 p.2 n)=D.lst (ps.map fun p=>dP (npt p.1 p.2 n)):=by
    show D.lst _=_
    rw [List.map_map]
    rfl
   show k (D.lst (ps.map fun p=>dP (npt p.1 p.2 n)))
   rw [← e]
   exact hk
 rw [List.map_map] at hk
 exact hk
theorem sc_law_spoiled:FnScope ["_law_bag_here", "_law_rings", "_law_way", "_law_spot", "_law_rest"] ["_law_bag_here", "_law_rings"] (defScope s_law_spoiled):=⟨rfl,rfl,rfl,by decide +kernel,rfl,by decide +kernel,by decide +kernel⟩
def F_spoil14  : FS:=fun as k=>∃ (rs:RS),as=[.bag,.val (.lst (rs.map dG))]∧(rs.length≤8)∧(∀ ps∈rs,(3≤ps.length∧ps.length≤24)∧∀ p∈ps,Sm1 p)∧∀ qs:RS,qs.length≤9→(∀ ps∈qs,ps.length≤24∧∀ p∈ps,Sm p)→k (.val (.lst (qs.map dG)))
theorem ok_spoil14 (B:Blts mg)   (F:Fnd K mg "_law_spoiled" s_law_spoiled ["_law_bag_here", "_law_rings"]) (c_law_draw:Cal P w K mg base "_law_draw" ["_law_bag_here", "_law_many"] 1 (Con K 2 (F_draw 400))) (c_law_slid:Cal P w K mg base "_law_slid" ["_law_ring", "_law_right", "_law_up"] 2 (Con K 3 F_slidL)) (c_law_shape:Cal P w K mg base "_law_shape" ["_law_bag_here", "_law_most"] 5 (Con K 2 F_shape14)) :
  Cal P w K mg base "_law_spoiled" ["_law_bag_here", "_law_rings"] 6 (Con K 2 F_spoil14):=by
 refine def3 (lv:=5) F sc_law_spoiled rfl (fun f cdv A outer s H E hr=>⟨_,(s_cons (s_set (i:=2) sc_law_spoiled.nd rfl (Or.inl rfl) (e_call c_law_draw hr (by rfl) (a_bag 0 (a_val e_int a_nil)))) (s_cons (s_if (t_cmp (f:=fun i j=>decide (i=j)) op_eqI (v3 2) e_int (nomark _)) (s_one (s_ret (o_e (o_cat (v3 1) (o_e (o_lst (l_cons (e_call c_law_slid hr (by rfl) (a_val (o_e (o_lst (l_cons (e_tup (l_cons e_int (l_cons e_int l_nil))) (l_cons (e_tup (l_cons e_int (l_cons e_int l_nil))) (l_cons (e_tup (l_cons e_int (l_cons e_int l_nil))) l_nil))))) (a_val e_int (a_val e_int a_nil)))) l_nil))))))) s_nil) (s_cons (s_if (t_cmp (f:=fun i j=>decide (i=j)) op_eqI (v3 2) e_int (nomark _)) (s_one (s_ret (o_e (o_cat (v3 1) (o_e (o_lst (l_cons (e_call c_law_slid hr (by rfl) (a_val (e_call c_law_shape hr (by rfl) (a_bag 0 (a_val e_int a_nil))) (a_val (e_sub (e_call c_law_draw hr (by rfl) (a_bag 0 (a_val e_int a_nil))) e_int) (a_val (e_sub (e_call c_law_draw hr (by rfl) (a_bag 0 (a_val e_int a_nil))) e_int) a_nil)))) l_nil))))))) s_nil) (s_cons (s_if (t_cmp (f:=fun i j=>decide (i=j)) op_eqI (v3 2) e_int (nomark _)) (s_one (s_ret (o_e (o_cat (v3 1) (o_e (o_lst (l_cons (o_e (o_lst (l_cons (e_tup (l_cons e_int (l_cons e_int l_nil))) (l_cons (e_tup (l_cons e_int (l_cons e_int l_nil))) l_nil)))) l_nil))))))) s_nil) (s_cons (s_if (w_t (w_or (t_cmp (f:=fun i j=>decide (j < i)) op_gt (v3 2) e_int (nomark _)) (w_or1 (t_cmp (f:=fun i j=>decide (i=j)) op_eqI (e_len (v3 1) (by rfl) B.len_) e_int (nomark _))))) (s_one (s_ret (v3 1))) s_nil) (s_cons (s_set (i:=3) sc_law_spoiled.nd rfl (Or.inl rfl) (e_call c_law_draw hr (by rfl) (a_bag 0 (a_val (e_len (v3 1) (by rfl) B.len_) a_nil)))) (s_cons (s_set (i:=4) sc_law_spoiled.nd rfl (Or.inl rfl) (o_e (o_cat (o_e (o_slice (v3 1) p_none (p_some (v3 3)))) (o_e (o_slice (v3 1) (p_some (e_add (v3 3) e_int)) p_none))))) (s_cons (s_if (t_cmp (f:=fun i j=>decide (i=j)) op_eqI (v3 2) e_int (nomark _)) (s_one (s_ret (o_e (o_cat (v3 1) (o_e (o_lst (l_cons (e_ix (v3 1) (v3 3) (fun _ _=>rfl)) l_nil))))))) s_nil) (s_cons (s_if (t_cmp (f:=fun i j=>decide (i < j)) op_lt (v3 2) e_int (nomark _)) (s_one (s_ret (o_e (o_cat (v3 4) (o_e (o_lst (l_cons (o_e (o_rev (e_ix (v3 1) (v3 3) (fun _ _=>rfl)) (e_neg e_int))) l_nil))))))) s_nil) (s_one (s_ret (o_e (o_cat (v3 4) (o_e (o_lst (l_cons (e_call c_law_slid hr (by rfl) (a_val (e_ix (v3 1) (v3 3) (fun _ _=>rfl)) (a_val (e_sub (e_call c_law_draw hr (by rfl) (a_bag 0 (a_val e_int a_nil))) e_int) (a_val (e_sub (e_call c_law_draw hr (by rfl) (a_bag 0 (a_val e_int a_nil))) e_int) a_nil)))) l_nil)))))))))))))))),?_⟩)
 rintro as k hl ⟨rs,rfl,hl,hs,hk⟩
 refine at3 (r:=[.bag,.val (.lst (rs.map dG)),.no,.no,.no]) rfl ?_
 have big:75≤sizeLine:=by decide
 have s1m:∀ {p:F2},Sm1 p→Sm p:=fun {p} h=>⟨by have:=h.1; lia,by have:=h.2.1; lia,by have:=h.2.2.1; lia,by have:=h.2.2.2; lia⟩
 have bs:∀ ps∈rs,ps.length≤24∧∀ p∈ps,Sm p:=fun ps hp=>⟨(hs ps hp).1.2,fun p hq=>s1m ((hs ps hp).2 p hq)⟩
 have one:∀ qs:List F2,qs.length≤24→(∀ p∈qs,Sm p)→k (.val (.lst (rs.map dG ++ [dG qs]))):=fun qs h1 h2=>by
  have:=hk (rs ++ [qs]) (by simp; lia) fun ps hp=>by
   rcases List.mem_append.mp hp with h | h
   ·exact bs ps h
   ·rw [List.mem_singleton.mp h]; exact ⟨h1,h2⟩
  rw [List.map_append] at this
  exact this
 have pn:∀ {qs:List F2} {a b:Int},(∀ q∈qs,Sm1 q) → -100≤a→a≤100 → -100≤b→b≤100→∀ q∈qs.map (fun p=>(p.1 + a,p.2 + b)),Sm q:=fun {qs a b} h a0 a1 b0 b1 q hq=>by
  obtain ⟨p,hp,rfl⟩:=List.mem_map.mp hq
  obtain ⟨x0,x1,y0,y1⟩:=h p hp
  exact ⟨by show _≤p.1 + a; lia,by show p.1 + a≤_; lia,by show _≤p.2 + b; lia,by show p.2 + b≤_; lia⟩
 walk_at "w"
 intro r r0 r1
 walk_at "wd"
 refine iteD (fun g=>?_) (fun g=>?_)
 ·walk_at "w"
  refine ⟨[(0,0),(5,0),(0,5)],100,100,rfl,(show 3≤75 by decide),?_⟩
  refine ⟨by show 1≤sizeLine; decide,_,_,rfl,rfl,by rw [List.length_map]; show rs.length + 1≤_; lia,?_⟩
  exact one ([(0,0),(5,0),(0,5)].map fun p=>(p.1 + 100,p.2 + 100)) (by decide) (pn (by decide) (by lia) (by lia) (by lia) (by lia))
 refine pass4 (fun N kk=>kk) ?_
 walk_at "wd"
 refine iteD (fun g=>?_) (fun g=>?_)
 ·walk_at "w"
  intro qs m3 m10 qq
  walk_at "w"
  intro a a0 a1
  walk_at "w"
  intro b b0 b1
  walk_at "w"
  refine ⟨qs,a - 12,b - 12,rfl,by lia,?_⟩
  refine ⟨by show 1≤sizeLine; decide,_,_,rfl,rfl,by rw [List.length_map]; show rs.length + 1≤_; lia,?_⟩
  exact one (qs.map fun p=>(p.1 + (a - 12),p.2 + (b - 12))) (by rw [List.length_map]; lia) (pn (fun q hq=>(qq q hq).s1) (by lia) (by lia) (by lia) (by lia))
 refine pass4 (fun N kk=>kk) ?_
 walk_at "wd"
 refine iteD (fun g=>?_) (fun g=>?_)
 ·walk_at "w"
  refine ⟨by rw [List.length_map]; show rs.length + 1≤_; lia,?_⟩
  exact one [(50,50),(51,51)] (by decide) (by decide)
 refine pass4 (fun N kk=>kk) ?_
 have same:=hk rs (by lia) bs
 refine mid4 (fun ρ=>ρ=[.bag,.val (.lst (rs.map dG)),.val (.int r),.no,.no]∧1≤rs.length) ?_ (fun N kk=>?_)
 rotate_left
 ·refine ⟨_,rfl,_,_,rfl,rfl,_,rfl,iteD (fun _=>⟨_,rfl,same⟩) (fun g3=>?_)⟩
  refine ⟨_,rfl,_,rfl,_,_,rfl,rfl,_,rfl,iteD (fun _=>⟨_,rfl,same⟩) (fun g4=>kk _ ⟨rfl,?_⟩)⟩
  rw [List.length_map] at g4
  lia
 rintro ρ ⟨rfl,n1⟩
 walk_at "w"
 rw [List.length_map]
 refine ⟨by lia,Nat.le_trans (bits_om (by lia) (by lia)) (by decide),fun i i0 i1=>?_⟩
 obtain ⟨i,rfl⟩:=Int.eq_ofNat_of_zero_le i0
 have hi:i < rs.length:=by lia
 have mi:=hs _ (rgN_mem hi)
 have gi:=rgN_at hi
 walk_at "w"
 rw [cutL_take (by lia) (by rw [List.length_map]; lia),cutL_drop (by lia) (by rw [List.length_map]; lia),show ((i:Nat):Int).toNat=i by lia,show (((i:Nat):Int) + 1).toNat=i + 1 by lia,← List.map_take,← List.map_drop]
 refine ⟨by rw [List.length_map,List.length_map,List.length_take,List.length_drop]; lia,?_⟩
 rw [← List.map_append]
 have others:∀ qs∈rs.take i ++ rs.drop (i + 1),qs∈rs:=fun qs h=>by
  rcases List.mem_append.mp h with h | h
  ·exact List.mem_of_mem_take h
  ·exact List.mem_of_mem_drop h
 have ol:(rs.take i ++ rs.drop (i + 1)).length≤8:=by rw [List.length_append,List.length_take,List.length_drop]; lia
 generalize rs.take i ++ rs.drop (i + 1)=os at *
 have two:∀ qs:List F2,qs.length≤24→(∀ p∈qs,Sm p)→k (.val (.lst (os.map dG ++ [dG qs]))):=fun qs h1 h2=>by
  have:=hk (os ++ [qs]) (by simp; lia) fun ps hp=>by
   rcases List.mem_append.mp hp with h | h
   ·exact bs ps (others ps h)
   ·rw [List.mem_singleton.mp h]; exact ⟨h1,h2⟩
  rw [List.map_append] at this
  exact this
 refine mid4 (fun ρ=>ρ=[.bag,.val (.lst (rs.map dG)),.val (.int r),.val (.int i),.val (.lst (os.map dG))]) ?_ (fun N kk=>kk _ rfl)
 rintro ρ rfl
 refine mid4 (fun ρ=>ρ=[.bag,.val (.lst (rs.map dG)),.val (.int r),.val (.int i),.val (.lst (os.map dG))]) ?_ (fun N kk=>?_)
 rotate_left
 ·refine ⟨_,rfl,_,_,rfl,rfl,_,rfl,iteD (fun _=>?_) (fun g3=>kk _ rfl)⟩
  refine ⟨_,rfl,_,rfl,_,rfl,_,_,_,.inr rfl,rfl,gi,by show 1≤sizeLine; decide,_,_,rfl,rfl,by rw [List.length_map]; show rs.length + 1≤_; lia,?_⟩
  exact one _ mi.1.2 (fun p hp=>s1m (mi.2 p hp))
 rintro ρ rfl
 refine mid4 (fun ρ=>ρ=[.bag,.val (.lst (rs.map dG)),.val (.int r),.val (.int i),.val (.lst (os.map dG))]) ?_ (fun N kk=>?_)
 rotate_left
 ·refine ⟨_,rfl,_,_,rfl,rfl,_,rfl,iteD (fun _=>?_) (fun g3=>kk _ rfl)⟩
  refine ⟨_,rfl,_,rfl,_,rfl,_,_,_,.inr rfl,rfl,gi,?_⟩
  walk_at "w"
  rw [← List.map_reverse]
  refine ⟨by rw [List.length_map]; show os.length + 1≤_; lia,?_⟩
  exact two (rgN rs i).reverse (by rw [List.length_reverse]; exact mi.1.2) (fun p hp=>s1m (mi.2 p (List.mem_reverse.mp hp)))
 rintro ρ rfl
 refine ⟨_,rfl,_,rfl,_,rfl,_,_,_,.inr rfl,rfl,gi,?_⟩
 walk_at "w"
 intro a a0 a1
 walk_at "w"
 intro b b0 b1
 walk_at "w"
 refine ⟨rgN rs i,a - 4,b - 4,rfl,by have:=mi.1.2; lia,?_⟩
 refine ⟨by show 1≤sizeLine; decide,_,_,rfl,rfl,by rw [List.length_map]; show os.length + 1≤_; lia,?_⟩
 exact two ((rgN rs i).map fun p=>(p.1 + (a - 4),p.2 + (b - 4))) (by rw [List.length_map]; exact mi.1.2) (pn mi.2 (by lia) (by lia) (by lia) (by lia))
theorem sc_greatest_divisor:FnScope ["one", "other"] ["one", "other"] (defScope s_greatest_divisor):=⟨rfl,rfl,rfl,by decide +kernel,rfl,by decide +kernel,by decide +kernel⟩
def F_greatest_divisor  : FS:=fun as k=>∃ (a b:Int),as=[.val (.int a),.val (.int b)]∧k (.val (.int (Int.gcd a b:Nat)))
theorem ok_greatest_divisor (B:Blts mg)   (F:Fnd K mg "greatest_divisor" s_greatest_divisor ["one", "other"])  :
  Cal P w K mg base "greatest_divisor" ["one", "other"] 2 (Con K 2 F_greatest_divisor):=by
 refine def3 (lv:=1) F sc_greatest_divisor rfl (fun f cdv A outer s H E hr=>⟨_,(s_cons (s_set (i:=0) sc_greatest_divisor.nd rfl (Or.inl rfl) (e_abs (v3 0) (by rfl) B.abs_)) (s_cons (s_set (i:=1) sc_greatest_divisor.nd rfl (Or.inl rfl) (e_abs (v3 1) (by rfl) B.abs_)) (s_cons (s_while PassesOwn.never (t_cmp (f:=fun i j => !decide (i=j)) op_neI (v3 1) e_int (nomark _)) (s_one (s_par (i:=0) (j:=1) rfl sc_greatest_divisor.nd rfl rfl (by decide) rfl rfl (l_cons (v3 1) (l_cons (e_mod (v3 0) (v3 1)) l_nil)) rfl))) (s_one (s_ret (v3 0)))))),?_⟩)
 rintro as k hl ⟨a,b,rfl,hk⟩
 refine at3 (r:=[.val (.int a),.val (.int b)]) rfl ?_
 walk_at "wd"
 refine ⟨fun m ρ=>∃ (x y:Int),ρ=[.val (.int x),.val (.int y)]∧0≤x∧0≤y∧Int.gcd x y=Int.gcd a b∧m=y.toNat,⟨_,_,_,rfl,?_,?_,gcd_abs a b,rfl⟩,?_⟩
 ·split <;> lia
 ·split <;> lia
 rintro m ρ ⟨x,y,rfl,x0,y0,hg,rfl⟩
 walk_at "wd"
 refine iteDn (fun g=>?_) (fun g=>?_)
 ·have g:0 < y:=by lia
  walk_at "wd"
  have m0:=Int.emod_nonneg x (show y≠0 by lia)
  have m1:=Int.emod_lt_of_pos x g
  exact ⟨_,_,rfl,_,by lia,_,_,rfl,y0,m0,by rw [gcd_step x0 g]; exact hg,rfl⟩
 ·subst g
  refine ⟨_,rfl,?_⟩
  rw [← gcd_zero_left x0,hg]
  exact hk
theorem sc_ratio:FnScope ["top", "bottom", "divisor"] ["top", "bottom"] (defScope s_ratio):=⟨rfl,rfl,rfl,by decide +kernel,rfl,by decide +kernel,by decide +kernel⟩
def F_ratio  : FS:=fun as k=>∃ (t b:Int),as=[.val (.int t),.val (.int b)]∧(b≠0)∧(intBits b≤9000)∧k (.val (dR (nrat t b)))
theorem ok_ratio (B:Blts mg)   (F:Fnd K mg "ratio" s_ratio ["top", "bottom"]) (c_greatest_divisor:Cal P w K mg base "greatest_divisor" ["one", "other"] 2 (Con K 2 F_greatest_divisor)) :
  Cal P w K mg base "ratio" ["top", "bottom"] 3 (Con K 2 F_ratio):=by
 refine def3 (lv:=2) F sc_ratio rfl (fun f cdv A outer s H E hr=>⟨_,(s_cons (s_if (t_cmp (f:=fun i j=>decide (i=j)) op_eqI (v3 1) e_int (nomark _)) (s_one s_never) s_nil) (s_cons (s_set (i:=2) sc_ratio.nd rfl (Or.inl rfl) (e_call c_greatest_divisor hr (by rfl) (a_val (v3 0) (a_val (v3 1) a_nil)))) (s_cons (s_if (t_cmp (f:=fun i j=>decide (i < j)) op_lt (v3 1) e_int (nomark _)) (s_one (s_set (i:=2) sc_ratio.nd rfl (Or.inl rfl) (e_neg (v3 2)))) s_nil) (s_one (s_ret (e_tup (l_cons (e_fdiv (v3 0) (v3 2)) (l_cons (e_fdiv (v3 1) (v3 2)) l_nil)))))))),?_⟩)
 rintro as k hl ⟨t,b,rfl,hb,bb,hk⟩
 refine at3 (r:=[.val (.int t),.val (.int b),.no]) rfl ?_
 walk_at "wd"
 refine iteD (fun g=>absurd g hb) (fun _=>?_)
 walk_at "w"
 refine ⟨_,_,rfl,?_⟩
 dsimp only [fzR]
 have gp:=gcd_pos (t:=t) hb
 have gb:=gcd_bits (a:=t) hb bb
 refine mid4 (fun ρ=>ρ=[.val (.int t),.val (.int b),.val (.int (gsg t b))]) ?_ (fun N kk=>?_)
 ·rintro ρ rfl
  have d0:gsg t b≠0:=by unfold gsg; split <;> lia
  have db:intBits (gsg t b)≤9000:=by
   unfold gsg
   split
   ·exact intBits_neg_le gb
   ·exact gb
  walk_at "w"
  exact hk
 ·walk_at "wd"
  refine iteD (fun g=>?_) (fun g=>?_)
  ·walk_at "w"
   refine kk _ ?_
   unfold gsg
   rw [if_pos g]
   rfl
  ·refine kk _ ?_
   unfold gsg
   rw [if_neg g]
   rfl
theorem sc_plus:FnScope ["one", "other", "shared", "top", "divisor"] ["one", "other"] (defScope s_plus):=⟨rfl,rfl,rfl,by decide +kernel,rfl,by decide +kernel,by decide +kernel⟩
def F_plus  : FS:=fun as k=>∃ (x y u v:Int),as=[.val (dR (x,y)),.val (dR (u,v))]∧(Low x y)∧(Low u v)∧(intBits x≤4000)∧(intBits y≤4000)∧(intBits u≤4000)∧(intBits v≤4000)∧k (.val (dR (nrat (x * v + u * y) (y * v))))
theorem ok_plus (B:Blts mg)   (F:Fnd K mg "plus" s_plus ["one", "other"]) (c_greatest_divisor:Cal P w K mg base "greatest_divisor" ["one", "other"] 2 (Con K 2 F_greatest_divisor)) :
  Cal P w K mg base "plus" ["one", "other"] 3 (Con K 2 F_plus):=by
 refine def3 (lv:=2) F sc_plus rfl (fun f cdv A outer s H E hr=>⟨_,(s_cons (s_set (i:=2) sc_plus.nd rfl (Or.inl rfl) (e_call c_greatest_divisor hr (by rfl) (a_val (e_ix (v3 0) e_int (fun _ _=>rfl)) (a_val (e_ix (v3 1) e_int (fun _ _=>rfl)) a_nil)))) (s_cons (s_set (i:=3) sc_plus.nd rfl (Or.inl rfl) (e_add (e_mul (e_ix (v3 0) e_int (fun _ _=>rfl)) (e_fdiv (e_ix (v3 1) e_int (fun _ _=>rfl)) (v3 2))) (e_mul (e_ix (v3 1) e_int (fun _ _=>rfl)) (e_fdiv (e_ix (v3 0) e_int (fun _ _=>rfl)) (v3 2))))) (s_cons (s_set (i:=4) sc_plus.nd rfl (Or.inl rfl) (e_call c_greatest_divisor hr (by rfl) (a_val (v3 2) (a_val (v3 3) a_nil)))) (s_one (s_ret (e_tup (l_cons (e_fdiv (v3 3) (v3 4)) (l_cons (e_mul (e_fdiv (e_ix (v3 0) e_int (fun _ _=>rfl)) (v3 2)) (e_fdiv (e_ix (v3 1) e_int (fun _ _=>rfl)) (v3 4))) l_nil)))))))),?_⟩)
 rintro as k hl ⟨x,y,u,v,rfl,l1,l2,bx,bY,bu,bv,hk⟩
 refine at3 (r:=[.val (dR (x,y)),.val (dR (u,v)),.no,.no,.no]) rfl ?_
 have v0:v≠0:=Int.ne_of_gt l2.1
 have sp:=gcd_pos (t:=y) (b:=v) v0
 have sb:=gcd_bits (a:=y) (b:=v) v0 bv
 have pl:=fun top d=>plus_low l1 l2 (s:=((Int.gcd y v:Nat):Int)) (top:=top) (d:=d) rfl
 walk_at "w"
 refine ⟨_,_,rfl,?_⟩
 dsimp only [fzR]
 generalize ((Int.gcd y v:Nat):Int)=s at *
 have b1:intBits (v.fdiv s)≤4000:=bits_of_abs (natAbs_fdiv_le _ _) bv
 have b2:intBits (y.fdiv s)≤4000:=bits_of_abs (natAbs_fdiv_le _ _) bY
 have tb:intBits (x * v.fdiv s + u * y.fdiv s)≤8001:=intBits_add_le (intBits_mul_le bx b1) (intBits_mul_le bu b2)
 have pl:=fun d=>pl _ d rfl
 walk_at "w"
 refine ⟨_,_,rfl,?_⟩
 dsimp only [fzR]
 generalize x * v.fdiv s + u * y.fdiv s=top at *
 have pl:=pl _ rfl
 have dp:=gcd_pos2 (a:=s) (b:=top) (.inl (Int.ne_of_gt sp))
 have db:intBits ((Int.gcd s top:Nat):Int)≤4000:=by
  rw [Int.gcd_comm]
  exact gcd_bits (Int.ne_of_gt sp) sb
 generalize ((Int.gcd s top:Nat):Int)=d at *
 have b3:intBits (v.fdiv d)≤4000:=bits_of_abs (natAbs_fdiv_le _ _) bv
 rw [← pl] at hk
 walk_at "w"
 exact hk
theorem sc_times:FnScope ["one", "other", "first", "second"] ["one", "other"] (defScope s_times):=⟨rfl,rfl,rfl,by decide +kernel,rfl,by decide +kernel,by decide +kernel⟩
def F_times  : FS:=fun as k=>∃ (x y u v:Int),as=[.val (dR (x,y)),.val (dR (u,v))]∧(Low x y)∧(Low u v)∧(intBits x≤4000)∧(intBits y≤4000)∧(intBits u≤4000)∧(intBits v≤4000)∧k (.val (dR (nrat (x * u) (y * v))))
theorem ok_times (B:Blts mg)   (F:Fnd K mg "times" s_times ["one", "other"]) (c_greatest_divisor:Cal P w K mg base "greatest_divisor" ["one", "other"] 2 (Con K 2 F_greatest_divisor)) :
  Cal P w K mg base "times" ["one", "other"] 3 (Con K 2 F_times):=by
 refine def3 (lv:=2) F sc_times rfl (fun f cdv A outer s H E hr=>⟨_,(s_cons (s_set (i:=2) sc_times.nd rfl (Or.inl rfl) (e_call c_greatest_divisor hr (by rfl) (a_val (e_ix (v3 0) e_int (fun _ _=>rfl)) (a_val (e_ix (v3 1) e_int (fun _ _=>rfl)) a_nil)))) (s_cons (s_set (i:=3) sc_times.nd rfl (Or.inl rfl) (e_call c_greatest_divisor hr (by rfl) (a_val (e_ix (v3 1) e_int (fun _ _=>rfl)) (a_val (e_ix (v3 0) e_int (fun _ _=>rfl)) a_nil)))) (s_one (s_ret (e_tup (l_cons (e_mul (e_fdiv (e_ix (v3 0) e_int (fun _ _=>rfl)) (v3 2)) (e_fdiv (e_ix (v3 1) e_int (fun _ _=>rfl)) (v3 3))) (l_cons (e_mul (e_fdiv (e_ix (v3 0) e_int (fun _ _=>rfl)) (v3 3)) (e_fdiv (e_ix (v3 1) e_int (fun _ _=>rfl)) (v3 2))) l_nil))))))),?_⟩)
 rintro as k hl ⟨x,y,u,v,rfl,l1,l2,bx,bY,bu,bv,hk⟩
 refine at3 (r:=[.val (dR (x,y)),.val (dR (u,v)),.no,.no]) rfl ?_
 have v0:v≠0:=Int.ne_of_gt l2.1
 have y0:y≠0:=Int.ne_of_gt l1.1
 have fp:=gcd_pos (t:=x) (b:=v) v0
 have fb:=gcd_bits (a:=x) (b:=v) v0 bv
 have hp:=gcd_pos (t:=u) (b:=y) y0
 have hb:=gcd_bits (a:=u) (b:=y) y0 bY
 rw [← times_low l1 l2] at hk
 walk_at "w"
 refine ⟨_,_,rfl,?_⟩
 walk_at "w"
 refine ⟨_,_,rfl,?_⟩
 dsimp only [fzR]
 generalize ((Int.gcd x v:Nat):Int)=f at *
 generalize ((Int.gcd u y:Nat):Int)=g at *
 have b1:intBits (x.fdiv f)≤4000:=bits_of_abs (natAbs_fdiv_le _ _) bx
 have b2:intBits (u.fdiv g)≤4000:=bits_of_abs (natAbs_fdiv_le _ _) bu
 have b3:intBits (y.fdiv g)≤4000:=bits_of_abs (natAbs_fdiv_le _ _) bY
 have b4:intBits (v.fdiv f)≤4000:=bits_of_abs (natAbs_fdiv_le _ _) bv
 walk_at "w"
 exact hk
theorem sc_crossed:FnScope ["one", "other", "a", "b", "n", "c", "d", "m"] ["one", "other"] (defScope s_crossed):=⟨rfl,rfl,rfl,by decide +kernel,rfl,by decide +kernel,by decide +kernel⟩
def F_crossed  : FS:=fun as k=>∃ (p q:P3),as=[.val (dP p),.val (dP q)]∧(BP 2000 p)∧(BP 2000 q)∧k (.val (dP (crs p q)))
theorem ok_crossed (B:Blts mg)   (F:Fnd K mg "crossed" s_crossed ["one", "other"])  :
  Cal P w K mg base "crossed" ["one", "other"] 2 (Con K 2 F_crossed):=by
 refine def3 (lv:=1) F sc_crossed rfl (fun f cdv A outer s H E hr=>⟨_,(s_cons (s_asg (v3 0) (g_tup (n:=3) rfl (gs_cons (g_name (i:=2) sc_crossed.nd rfl (Or.inl rfl)) (gs_cons (g_name (i:=3) sc_crossed.nd rfl (Or.inl rfl)) (gs_cons (g_name (i:=4) sc_crossed.nd rfl (Or.inl rfl)) gs_nil))))) (s_cons (s_asg (v3 1) (g_tup (n:=3) rfl (gs_cons (g_name (i:=5) sc_crossed.nd rfl (Or.inl rfl)) (gs_cons (g_name (i:=6) sc_crossed.nd rfl (Or.inl rfl)) (gs_cons (g_name (i:=7) sc_crossed.nd rfl (Or.inl rfl)) gs_nil))))) (s_one (s_ret (e_tup (l_cons (e_sub (e_mul (v3 3) (v3 7)) (e_mul (v3 4) (v3 6))) (l_cons (e_sub (e_mul (v3 4) (v3 5)) (e_mul (v3 2) (v3 7))) (l_cons (e_sub (e_mul (v3 2) (v3 6)) (e_mul (v3 3) (v3 5))) l_nil)))))))),?_⟩)
 rintro as k hl ⟨p,q,rfl,bp,bq,hk⟩
 refine at3 (r:=[.val (dP p),.val (dP q),.no,.no,.no,.no,.no,.no]) rfl ?_
 have h1:=bp.a
 have h2:=bp.b
 have h3:=bp.c
 have h4:=bq.a
 have h5:=bq.b
 have h6:=bq.c
 walk_at "w"
 refine ⟨_,_,rfl,_,_,rfl,_,_,rfl,rfl,?_⟩
 walk_at "w"
 refine ⟨_,_,rfl,_,_,rfl,_,_,rfl,rfl,?_⟩
 walk_at "w"
 exact hk
theorem sc_hand_of:FnScope ["line", "p", "turn"] ["line", "p"] (defScope s_hand_of):=⟨rfl,rfl,rfl,by decide +kernel,rfl,by decide +kernel,by decide +kernel⟩
def F_hand_of  : FS:=fun as k=>∃ (c r:P3),as=[.val (dP c),.val (dP r)]∧(BP 2000 c)∧(BP 2000 r)∧k (.val (.int (sg (c.1 * r.1 + c.2.1 * r.2.1 + c.2.2 * r.2.2))))
theorem ok_hand_of (B:Blts mg)   (F:Fnd K mg "hand_of" s_hand_of ["line", "p"])  :
  Cal P w K mg base "hand_of" ["line", "p"] 2 (Con K 2 F_hand_of):=by
 refine def3 (lv:=1) F sc_hand_of rfl (fun f cdv A outer s H E hr=>⟨_,(s_cons (s_set (i:=2) sc_hand_of.nd rfl (Or.inl rfl) (e_add (e_add (e_mul (e_ix (v3 0) e_int (fun _ _=>rfl)) (e_ix (v3 1) e_int (fun _ _=>rfl))) (e_mul (e_ix (v3 0) e_int (fun _ _=>rfl)) (e_ix (v3 1) e_int (fun _ _=>rfl)))) (e_mul (e_ix (v3 0) e_int (fun _ _=>rfl)) (e_ix (v3 1) e_int (fun _ _=>rfl))))) (s_cons (s_if (t_cmp (f:=fun i j=>decide (j < i)) op_gt (v3 2) e_int (nomark _)) (s_one (s_ret e_int)) s_nil) (s_cons (s_if (t_cmp (f:=fun i j=>decide (i < j)) op_lt (v3 2) e_int (nomark _)) (s_one (s_ret (e_neg e_int))) s_nil) (s_one (s_ret e_int))))),?_⟩)
 rintro as k hl ⟨c,r,rfl,bc,br,hk⟩
 refine at3 (r:=[.val (dP c),.val (dP r),.no]) rfl ?_
 have h1:=bc.a
 have h2:=bc.b
 have h3:=bc.c
 have h4:=br.a
 have h5:=br.b
 have h6:=br.c
 walk_at "wd"
 unfold sg at hk
 refine iteD (fun g=>?_) (fun g=>?_)
 ·rw [if_pos g] at hk
  exact hk
 rw [if_neg g] at hk
 walk_at "wd"
 refine iteD (fun g2=>?_) (fun g2=>?_)
 ·rw [if_pos g2] at hk
  walk_at "w"
  exact hk
 rw [if_neg g2] at hk
 exact hk
theorem sc_side:FnScope ["p", "q", "r"] ["p", "q", "r"] (defScope s_side):=⟨rfl,rfl,rfl,by decide +kernel,rfl,by decide +kernel,by decide +kernel⟩
def F_side  : FS:=fun as k=>∃ (p q r:P3),as=[.val (dP p),.val (dP q),.val (dP r)]∧(BP 700 p)∧(BP 700 q)∧(BP 700 r)∧k (.val (.int (sg (det3 p q r))))
theorem ok_side (B:Blts mg)   (F:Fnd K mg "side" s_side ["p", "q", "r"]) (c_hand_of:Cal P w K mg base "hand_of" ["line", "p"] 2 (Con K 2 F_hand_of)) (c_crossed:Cal P w K mg base "crossed" ["one", "other"] 2 (Con K 2 F_crossed)) :
  Cal P w K mg base "side" ["p", "q", "r"] 3 (Con K 3 F_side):=by
 refine def3 (lv:=2) F sc_side rfl (fun f cdv A outer s H E hr=>⟨_,(s_one (s_ret (e_call c_hand_of hr (by rfl) (a_val (e_call c_crossed hr (by rfl) (a_val (v3 0) (a_val (v3 1) a_nil))) (a_val (v3 2) a_nil))))),?_⟩)
 rintro as k hl ⟨p,q,r,rfl,bp,bq,br,hk⟩
 refine at3 (r:=[.val (dP p),.val (dP q),.val (dP r)]) rfl ?_
 refine ⟨_,rfl,_,rfl,rfl,p,q,rfl,bp.mono (by decide),bq.mono (by decide),?_⟩
 exact ⟨_,rfl,rfl,_,_,rfl,(bp.crs bq).mono (by decide),br.mono (by decide),hk⟩
theorem sc_turned:FnScope ["p", "a", "b", "n"] ["p"] (defScope s_turned):=⟨rfl,rfl,rfl,by decide +kernel,rfl,by decide +kernel,by decide +kernel⟩
def F_turned  : FS:=fun as k=>∃ (p:P3),as=[.val (dP p)]∧k (.val (dP (trn p)))
theorem ok_turned (B:Blts mg)   (F:Fnd K mg "turned" s_turned ["p"])  :
  Cal P w K mg base "turned" ["p"] 2 (Con K 1 F_turned):=by
 refine def3 (lv:=1) F sc_turned rfl (fun f cdv A outer s H E hr=>⟨_,(s_cons (s_asg (v3 0) (g_tup (n:=3) rfl (gs_cons (g_name (i:=1) sc_turned.nd rfl (Or.inl rfl)) (gs_cons (g_name (i:=2) sc_turned.nd rfl (Or.inl rfl)) (gs_cons (g_name (i:=3) sc_turned.nd rfl (Or.inl rfl)) gs_nil))))) (s_one (s_ret (e_tup (l_cons (e_neg (v3 1)) (l_cons (e_neg (v3 2)) (l_cons (v3 3) l_nil))))))),?_⟩)
 rintro as k hl ⟨p,rfl,hk⟩
 refine at3 (r:=[.val (dP p),.no,.no,.no]) rfl ?_
 walk_at "w"
 refine ⟨_,_,rfl,_,_,rfl,_,_,rfl,rfl,?_⟩
 walk_at "w"
 exact hk
theorem sc_slid:FnScope ["p", "step", "a", "b", "n", "right", "up", "parts", "shared", "x", "y", "divisor"] ["p", "step"] (defScope s_slid):=⟨rfl,rfl,rfl,by decide +kernel,rfl,by decide +kernel,by decide +kernel⟩
def F_slid  : FS:=fun as k=>∃ (p g:P3),as=[.val (dP p),.val (dP g)]∧(PtP p)∧(BP 1000 p)∧(PtP g)∧(BP 1000 g)∧k (.val (dP (nP (sld g p))))
theorem ok_slid (B:Blts mg)   (F:Fnd K mg "slid" s_slid ["p", "step"]) (c_greatest_divisor:Cal P w K mg base "greatest_divisor" ["one", "other"] 2 (Con K 2 F_greatest_divisor)) :
  Cal P w K mg base "slid" ["p", "step"] 3 (Con K 2 F_slid):=by
 refine def3 (lv:=2) F sc_slid rfl (fun f cdv A outer s H E hr=>⟨_,(s_cons (s_asg (v3 0) (g_tup (n:=3) rfl (gs_cons (g_name (i:=2) sc_slid.nd rfl (Or.inl rfl)) (gs_cons (g_name (i:=3) sc_slid.nd rfl (Or.inl rfl)) (gs_cons (g_name (i:=4) sc_slid.nd rfl (Or.inl rfl)) gs_nil))))) (s_cons (s_asg (v3 1) (g_tup (n:=3) rfl (gs_cons (g_name (i:=5) sc_slid.nd rfl (Or.inl rfl)) (gs_cons (g_name (i:=6) sc_slid.nd rfl (Or.inl rfl)) (gs_cons (g_name (i:=7) sc_slid.nd rfl (Or.inl rfl)) gs_nil))))) (s_cons (s_set (i:=8) sc_slid.nd rfl (Or.inl rfl) (e_call c_greatest_divisor hr (by rfl) (a_val (v3 4) (a_val (v3 7) a_nil)))) (s_cons (s_set (i:=9) sc_slid.nd rfl (Or.inl rfl) (e_add (e_mul (v3 2) (e_fdiv (v3 7) (v3 8))) (e_mul (v3 5) (e_fdiv (v3 4) (v3 8))))) (s_cons (s_set (i:=10) sc_slid.nd rfl (Or.inl rfl) (e_add (e_mul (v3 3) (e_fdiv (v3 7) (v3 8))) (e_mul (v3 6) (e_fdiv (v3 4) (v3 8))))) (s_cons (s_set (i:=11) sc_slid.nd rfl (Or.inl rfl) (e_call c_greatest_divisor hr (by rfl) (a_val (e_call c_greatest_divisor hr (by rfl) (a_val (v3 8) (a_val (v3 9) a_nil))) (a_val (v3 10) a_nil)))) (s_one (s_ret (e_tup (l_cons (e_fdiv (v3 9) (v3 11)) (l_cons (e_fdiv (v3 10) (v3 11)) (l_cons (e_mul (e_fdiv (v3 4) (v3 8)) (e_fdiv (v3 7) (v3 11))) l_nil)))))))))))),?_⟩)
 rintro as k hl ⟨p,g,rfl,h0p,bp,h0g,bg,hk⟩
 refine at3 (r:=[.val (dP p),.val (dP g),.no,.no,.no,.no,.no,.no,.no,.no,.no,.no]) rfl ?_
 obtain ⟨a,b,n⟩:=p
 obtain ⟨r,w,m⟩:=g
 have h1:intBits a≤1000:=bp.a
 have h2:intBits b≤1000:=bp.b
 have h3:intBits n≤1000:=bp.c
 have h4:intBits r≤1000:=bg.a
 have h5:intBits w≤1000:=bg.b
 have h6:intBits m≤1000:=bg.c
 have n0:n≠0:=Int.ne_of_gt h0p.1
 have m0:m≠0:=Int.ne_of_gt h0g.1
 have sp:=gcd_pos (t:=n) (b:=m) m0
 have sb:=gcd_bits (a:=n) (b:=m) m0 h6
 have pl:=fun X Y d=>slid_low (a:=a) (b:=b) (n:=n) (r:=r) (w:=w) (m:=m) h0p h0g (s:=((Int.gcd n m:Nat):Int)) (X:=X) (Y:=Y) (d:=d) rfl
 have hk:k (.val (dP (npt (a * m + r * n) (b * m + w * n) (n * m)))):=hk
 refine ⟨_,rfl,_,rfl,rfl,_,_,rfl,_,_,rfl,_,_,rfl,rfl,?_⟩
 refine ⟨_,rfl,_,rfl,rfl,_,_,rfl,_,_,rfl,_,_,rfl,rfl,?_⟩
 walk_at "w"
 refine ⟨_,_,rfl,?_⟩
 dsimp only [fzR]
 generalize ((Int.gcd n m:Nat):Int)=s at *
 have b1:intBits (m.fdiv s)≤1000:=bits_of_abs (natAbs_fdiv_le _ _) h6
 have b2:intBits (n.fdiv s)≤1000:=bits_of_abs (natAbs_fdiv_le _ _) h3
 have tb:intBits (a * m.fdiv s + r * n.fdiv s)≤2001:=intBits_add_le (intBits_mul_le h1 b1) (intBits_mul_le h4 b2)
 have ub:intBits (b * m.fdiv s + w * n.fdiv s)≤2001:=intBits_add_le (intBits_mul_le h2 b1) (intBits_mul_le h5 b2)
 have pl:=fun d=>pl _ _ d rfl rfl
 walk_at "w"
 refine ⟨_,_,rfl,?_⟩
 dsimp only [fzR]
 walk_at "w"
 refine ⟨_,_,rfl,?_⟩
 dsimp only [fzR]
 generalize a * m.fdiv s + r * n.fdiv s=X at *
 generalize b * m.fdiv s + w * n.fdiv s=Y at *
 have pl:=pl _ rfl
 have ep:=gcd_pos2 (a:=s) (b:=X) (.inl (Int.ne_of_gt sp))
 have eb:intBits ((Int.gcd s X:Nat):Int)≤1000:=by
  rw [Int.gcd_comm]
  exact gcd_bits (Int.ne_of_gt sp) sb
 generalize ((Int.gcd s X:Nat):Int)=e at *
 have dp:=gcd_pos2 (a:=e) (b:=Y) (.inl (Int.ne_of_gt ep))
 have db:intBits ((Int.gcd e Y:Nat):Int)≤1000:=by
  rw [Int.gcd_comm]
  exact gcd_bits (Int.ne_of_gt ep) eb
 generalize ((Int.gcd e Y:Nat):Int)=d at *
 have b3:intBits (m.fdiv d)≤1000:=bits_of_abs (natAbs_fdiv_le _ _) h6
 rw [← pl] at hk
 walk_at "w"
 exact hk
theorem sc_step_to:FnScope ["p", "q"] ["p", "q"] (defScope s_step_to):=⟨rfl,rfl,rfl,by decide +kernel,rfl,by decide +kernel,by decide +kernel⟩
def F_step_to  : FS:=fun as k=>∃ (p q:P3),as=[.val (dP p),.val (dP q)]∧(PtP p)∧(BP 1000 p)∧(PtP q)∧(BP 1000 q)∧k (.val (dP (nP (sld (trn p) q))))
theorem ok_step_to (B:Blts mg)   (F:Fnd K mg "step_to" s_step_to ["p", "q"]) (c_slid:Cal P w K mg base "slid" ["p", "step"] 3 (Con K 2 F_slid)) (c_turned:Cal P w K mg base "turned" ["p"] 2 (Con K 1 F_turned)) :
  Cal P w K mg base "step_to" ["p", "q"] 4 (Con K 2 F_step_to):=by
 refine def3 (lv:=3) F sc_step_to rfl (fun f cdv A outer s H E hr=>⟨_,(s_one (s_ret (e_call c_slid hr (by rfl) (a_val (v3 1) (a_val (e_call c_turned hr (by rfl) (a_val (v3 0) a_nil)) a_nil))))),?_⟩)
 rintro as k hl ⟨p,q,rfl,h0p,bp,h0q,bq,hk⟩
 refine at3 (r:=[.val (dP p),.val (dP q)]) rfl ?_
 refine ⟨_,rfl,_,rfl,rfl,p,rfl,?_⟩
 exact ⟨rfl,q,trn p,rfl,h0q,bq,pt_neg h0p,⟨intBits_neg_le bp.a,intBits_neg_le bp.b,bp.c⟩,hk⟩
theorem sc_is_above:FnScope ["p", "q"] ["p", "q"] (defScope s_is_above):=⟨rfl,rfl,rfl,by decide +kernel,rfl,by decide +kernel,by decide +kernel⟩
def F_is_above  : FS:=fun as k=>∃ (p q:P3),as=[.val (dP p),.val (dP q)]∧(BP 1000 p)∧(BP 1000 q)∧k (.val (.bl (decide (q.2.1 * p.2.2 < p.2.1 * q.2.2))))
theorem ok_is_above (B:Blts mg)   (F:Fnd K mg "is_above" s_is_above ["p", "q"])  :
  Cal P w K mg base "is_above" ["p", "q"] 2 (Con K 2 F_is_above):=by
 refine def3 (lv:=1) F sc_is_above rfl (fun f cdv A outer s H E hr=>⟨_,(s_one (s_ret (e_cmp (f:=fun i j=>decide (j < i)) op_gt (e_mul (e_ix (v3 0) e_int (fun _ _=>rfl)) (e_ix (v3 1) e_int (fun _ _=>rfl))) (e_mul (e_ix (v3 1) e_int (fun _ _=>rfl)) (e_ix (v3 0) e_int (fun _ _=>rfl))) (nomark _)))),?_⟩)
 rintro as k hl ⟨p,q,rfl,bp,bq,hk⟩
 refine at3 (r:=[.val (dP p),.val (dP q)]) rfl ?_
 have h1:=bp.b
 have h2:=bp.c
 have h3:=bq.b
 have h4:=bq.c
 walk_at "w"
 exact hk
theorem sc_lies_on:FnScope ["p", "q", "r", "back", "onward"] ["p", "q", "r"] (defScope s_lies_on):=⟨rfl,rfl,rfl,by decide +kernel,rfl,by decide +kernel,by decide +kernel⟩
def F_lies_onC  : FS:=fun as k=>∃ (p q r:F2) (n:Int),as=[.val (dP (hP n p)),.val (dP (hP n q)),.val (dP (hP n r))]∧(SmW p)∧(SmW q)∧(SmW r)∧(0 < n)∧(n≤100000000000000)∧k (.val (.bl (onB p q r)))
theorem ok_lies_onC (B:Blts mg)   (F:Fnd K mg "lies_on" s_lies_on ["p", "q", "r"]) (c_side:Cal P w K mg base "side" ["p", "q", "r"] 3 (Con K 3 F_side)) (c_step_to:Cal P w K mg base "step_to" ["p", "q"] 4 (Con K 2 F_step_to)) :
  Cal P w K mg base "lies_on" ["p", "q", "r"] 5 (Con K 3 F_lies_onC):=by
 refine def3 (lv:=4) F sc_lies_on rfl (fun f cdv A outer s H E hr=>⟨_,(s_cons (s_if (t_cmp (f:=fun i j => !decide (i=j)) op_neI (e_call c_side hr (by rfl) (a_val (v3 0) (a_val (v3 1) (a_val (v3 2) a_nil)))) e_int (nomark _)) (s_one (s_ret e_bl)) s_nil) (s_cons (s_set (i:=3) sc_lies_on.nd rfl (Or.inl rfl) (e_call c_step_to hr (by rfl) (a_val (v3 2) (a_val (v3 0) a_nil)))) (s_cons (s_set (i:=4) sc_lies_on.nd rfl (Or.inl rfl) (e_call c_step_to hr (by rfl) (a_val (v3 2) (a_val (v3 1) a_nil)))) (s_one (s_ret (e_cmp (f:=fun i j=>decide (i≤j)) op_le (e_add (e_mul (e_ix (v3 3) e_int (fun _ _=>rfl)) (e_ix (v3 4) e_int (fun _ _=>rfl))) (e_mul (e_ix (v3 3) e_int (fun _ _=>rfl)) (e_ix (v3 4) e_int (fun _ _=>rfl)))) e_int (nomark _))))))),?_⟩)
 rintro as k hl ⟨p,q,r,n,rfl,sp,sq,sr,n0,n1,hk⟩
 refine at3 (r:=[.val (dP (hP n p)),.val (dP (hP n q)),.val (dP (hP n r)),.no,.no]) rfl ?_
 have gp:=gp_h n0 n1 sp
 have gq:=gp_h n0 n1 sq
 have gr:=gp_h n0 n1 sr
 refine mid4 (fun ρ=>ρ=[.val (dP (hP n p)),.val (dP (hP n q)),.val (dP (hP n r)),.no,.no]∧crF p q r=0) ?_ (fun N kk=>?_)
 rotate_left
 ·refine ⟨_,rfl,_,rfl,_,rfl,rfl,hP n p,hP n q,hP n r,rfl,gp.bp.mono (by decide),gq.bp.mono (by decide),gr.bp.mono (by decide),?_⟩
  rw [sg_h n0]
  refine ⟨_,_,rfl,rfl,_,rfl,iteDn (fun ne=>?_) (fun e=>kk _ ⟨rfl,(sg_eq0 _).mp e⟩)⟩
  have z:¬ crF p q r=0:=fun z=>ne ((sg_eq0 _).mpr z)
  unfold onB at hk
  rw [decide_eq_false z] at hk
  exact hk
 rintro ρ ⟨rfl,z⟩
 have g1:=((gp_trn gr).sl gp).bp
 have g2:=((gp_trn gr).sl gq).bp
 have le:=sg_leI (dot_h n0 p q r)
 refine ⟨_,rfl,_,rfl,rfl,hP n r,hP n p,rfl,gr.pt,gr.bp.mono (by decide),gp.pt,gp.bp.mono (by decide),?_⟩
 dsimp only [fzR]
 refine ⟨_,rfl,_,rfl,rfl,hP n r,hP n q,rfl,gr.pt,gr.bp.mono (by decide),gq.pt,gq.bp.mono (by decide),?_⟩
 dsimp only [fzR]
 unfold onB at hk
 rw [decide_eq_true z,Bool.true_and] at hk
 generalize hb:decide ((p.1 - r.1) * (q.1 - r.1) + (p.2 - r.2) * (q.2 - r.2)≤0)=b at hk
 have hb:b=decide ((nP (sld (trn (hP n r)) (hP n p))).1 * (nP (sld (trn (hP n r)) (hP n q))).1 + (nP (sld (trn (hP n r)) (hP n p))).2.1 * (nP (sld (trn (hP n r)) (hP n q))).2.1≤0):=by rw [← hb]; exact (decide_eq_decide.mpr le).symm
 clear le
 generalize nP (sld (trn (hP n r)) (hP n p))=u at *
 generalize nP (sld (trn (hP n r)) (hP n q))=v at *
 subst hb
 have a1:=g1.a
 have a2:=g1.b
 have a3:=g2.a
 have a4:=g2.b
 walk_at "w"
 exact hk
theorem sc_touch:FnScope ["p", "q", "r", "s"] ["p", "q", "r", "s"] (defScope s_touch):=⟨rfl,rfl,rfl,by decide +kernel,rfl,by decide +kernel,by decide +kernel⟩
def F_touchP  : FS:=fun as k=>∃ (p q r s:F2) (n:Int),as=[.val (dP (hP n p)),.val (dP (hP n q)),.val (dP (hP n r)),.val (dP (hP n s))]∧(SmW p)∧(SmW q)∧(SmW r)∧(SmW s)∧(0 < n)∧(n≤100000000000000)∧k (.val (.bl (tcB p q r s)))
theorem ok_touchP (B:Blts mg)   (F:Fnd K mg "touch" s_touch ["p", "q", "r", "s"]) (c_lies_on:Cal P w K mg base "lies_on" ["p", "q", "r"] 5 (Con K 3 F_lies_onC)) (c_side:Cal P w K mg base "side" ["p", "q", "r"] 3 (Con K 3 F_side)) :
  Cal P w K mg base "touch" ["p", "q", "r", "s"] 6 (Con K 4 F_touchP):=by
 refine def3 (lv:=5) F sc_touch rfl (fun f cdv A outer s H E hr=>⟨_,(s_cons (s_if (w_t (w_or (t_val (e_call c_lies_on hr (by rfl) (a_val (v3 0) (a_val (v3 1) (a_val (v3 2) a_nil))))) (w_or (t_val (e_call c_lies_on hr (by rfl) (a_val (v3 0) (a_val (v3 1) (a_val (v3 3) a_nil))))) (w_or (t_val (e_call c_lies_on hr (by rfl) (a_val (v3 2) (a_val (v3 3) (a_val (v3 0) a_nil))))) (w_or1 (t_val (e_call c_lies_on hr (by rfl) (a_val (v3 2) (a_val (v3 3) (a_val (v3 1) a_nil)))))))))) (s_one (s_ret e_bl)) s_nil) (s_one (s_ret (e_and (e_cmp (f:=fun i j=>decide (i < j)) op_lt (e_mul (e_call c_side hr (by rfl) (a_val (v3 0) (a_val (v3 1) (a_val (v3 2) a_nil)))) (e_call c_side hr (by rfl) (a_val (v3 0) (a_val (v3 1) (a_val (v3 3) a_nil))))) e_int (nomark _)) (e_one (e_cmp (f:=fun i j=>decide (i < j)) op_lt (e_mul (e_call c_side hr (by rfl) (a_val (v3 2) (a_val (v3 3) (a_val (v3 0) a_nil)))) (e_call c_side hr (by rfl) (a_val (v3 2) (a_val (v3 3) (a_val (v3 1) a_nil))))) e_int (nomark _))))))),?_⟩)
 rintro as k hl ⟨p,q,r,s,n,rfl,sp,sq,sr,ss,n0,n1,hk⟩
 refine at3 (r:=[.val (dP (hP n p)),.val (dP (hP n q)),.val (dP (hP n r)),.val (dP (hP n s))]) rfl ?_
 have gp:=gp_h n0 n1 sp
 have gq:=gp_h n0 n1 sq
 have gr:=gp_h n0 n1 sr
 have gs:=gp_h n0 n1 ss
 unfold tcB at hk
 refine ⟨_,rfl,_,rfl,_,rfl,rfl,p,q,r,n,rfl,sp,sq,sr,n0,n1,_,rfl,?_⟩
 cases a:onB p q r <;> rw [a] at hk
 rotate_left
 ·exact hk
 refine ⟨_,rfl,_,rfl,_,rfl,rfl,p,q,s,n,rfl,sp,sq,ss,n0,n1,_,rfl,?_⟩
 cases a:onB p q s <;> rw [a] at hk
 rotate_left
 ·exact hk
 refine ⟨_,rfl,_,rfl,_,rfl,rfl,r,s,p,n,rfl,sr,ss,sp,n0,n1,_,rfl,?_⟩
 cases a:onB r s p <;> rw [a] at hk
 rotate_left
 ·exact hk
 refine ⟨_,rfl,_,rfl,_,rfl,rfl,r,s,q,n,rfl,sr,ss,sq,n0,n1,_,rfl,?_⟩
 cases a:onB r s q <;> rw [a] at hk
 rotate_left
 ·exact hk
 refine ⟨_,rfl,_,rfl,_,rfl,rfl,hP n p,hP n q,hP n r,rfl,gp.bp.mono (by decide),gq.bp.mono (by decide),gr.bp.mono (by decide),?_⟩
 rw [sg_h n0]
 dsimp only [fzR]
 refine ⟨_,rfl,_,rfl,_,rfl,rfl,hP n p,hP n q,hP n s,rfl,gp.bp.mono (by decide),gq.bp.mono (by decide),gs.bp.mono (by decide),?_⟩
 rw [sg_h n0]
 dsimp only [fzR]
 refine ⟨_,_,rfl,rfl,sg_mulB _ _,?_⟩
 refine ⟨_,_,rfl,rfl,_,rfl,?_⟩
 cases a:decide (sg (crF p q r) * sg (crF p q s) < 0) <;> rw [a] at hk
 ·exact hk
 refine ⟨_,rfl,_,rfl,_,rfl,rfl,hP n r,hP n s,hP n p,rfl,gr.bp.mono (by decide),gs.bp.mono (by decide),gp.bp.mono (by decide),?_⟩
 rw [sg_h n0]
 dsimp only [fzR]
 refine ⟨_,rfl,_,rfl,_,rfl,rfl,hP n r,hP n s,hP n q,rfl,gr.bp.mono (by decide),gs.bp.mono (by decide),gq.bp.mono (by decide),?_⟩
 rw [sg_h n0]
 dsimp only [fzR]
 refine ⟨_,_,rfl,rfl,sg_mulB _ _,?_⟩
 exact ⟨_,_,rfl,rfl,hk⟩
theorem sc_runs_back:FnScope ["p", "q", "r"] ["p", "q", "r"] (defScope s_runs_back):=⟨rfl,rfl,rfl,by decide +kernel,rfl,by decide +kernel,by decide +kernel⟩
def F_runsP  : FS:=fun as k=>∃ (p q r:F2) (n:Int),as=[.val (dP (hP n p)),.val (dP (hP n q)),.val (dP (hP n r))]∧(SmW p)∧(SmW q)∧(SmW r)∧(0 < n)∧(n≤100000000000000)∧k (.val (.bl (rbB p q r)))
theorem ok_runsP (B:Blts mg)   (F:Fnd K mg "runs_back" s_runs_back ["p", "q", "r"]) (c_lies_on:Cal P w K mg base "lies_on" ["p", "q", "r"] 5 (Con K 3 F_lies_onC)) :
  Cal P w K mg base "runs_back" ["p", "q", "r"] 6 (Con K 3 F_runsP):=by
 refine def3 (lv:=5) F sc_runs_back rfl (fun f cdv A outer s H E hr=>⟨_,(s_one (s_ret (e_or (e_call c_lies_on hr (by rfl) (a_val (v3 0) (a_val (v3 1) (a_val (v3 2) a_nil)))) (e_one (e_call c_lies_on hr (by rfl) (a_val (v3 1) (a_val (v3 2) (a_val (v3 0) a_nil)))))))),?_⟩)
 rintro as k hl ⟨p,q,r,n,rfl,sp,sq,sr,n0,n1,hk⟩
 refine at3 (r:=[.val (dP (hP n p)),.val (dP (hP n q)),.val (dP (hP n r))]) rfl ?_
 unfold rbB at hk
 refine ⟨_,rfl,_,rfl,_,rfl,rfl,p,q,r,n,rfl,sp,sq,sr,n0,n1,_,rfl,?_⟩
 cases a:onB p q r <;> rw [a] at hk
 rotate_left
 ·exact hk
 exact ⟨_,rfl,_,rfl,_,rfl,rfl,q,r,p,n,rfl,sq,sr,sp,n0,n1,hk⟩
theorem sc_clash:FnScope ["one", "other", "together", "p", "q", "r", "s"] ["one", "other", "together"] (defScope s_clash):=⟨rfl,rfl,rfl,by decide +kernel,rfl,by decide +kernel,by decide +kernel⟩
def F_clashP  : FS:=fun as k=>∃ (e f:F2×F2) (t:Bool) (n:Int),as=[.val (.tup [dP (hP n e.1),dP (hP n e.2)]),.val (.tup [dP (hP n f.1),dP (hP n f.2)]),.val (.bl t)]∧(SmW e.1)∧(SmW e.2)∧(SmW f.1)∧(SmW f.2)∧(0 < n)∧(n≤100000000000000)∧k (.val (.bl (ckB e f t)))
theorem ok_clashP (B:Blts mg)   (F:Fnd K mg "clash" s_clash ["one", "other", "together"]) (c_runs_back:Cal P w K mg base "runs_back" ["p", "q", "r"] 6 (Con K 3 F_runsP)) (c_touch:Cal P w K mg base "touch" ["p", "q", "r", "s"] 6 (Con K 4 F_touchP)) :
  Cal P w K mg base "clash" ["one", "other", "together"] 7 (Con K 3 F_clashP):=by
 refine def3 (lv:=6) F sc_clash rfl (fun f cdv A outer s H E hr=>⟨_,(s_cons (s_asg (v3 0) (g_tup (n:=2) rfl (gs_cons (g_name (i:=3) sc_clash.nd rfl (Or.inl rfl)) (gs_cons (g_name (i:=4) sc_clash.nd rfl (Or.inl rfl)) gs_nil)))) (s_cons (s_asg (v3 1) (g_tup (n:=2) rfl (gs_cons (g_name (i:=5) sc_clash.nd rfl (Or.inl rfl)) (gs_cons (g_name (i:=6) sc_clash.nd rfl (Or.inl rfl)) gs_nil)))) (s_cons (s_if (w_t (w_and (t_val (v3 2)) (w_and1 (t_eq (hr.units) (v3 4) (v3 5) (nomark _))))) (s_one (s_ret (e_call c_runs_back hr (by rfl) (a_val (v3 3) (a_val (v3 4) (a_val (v3 6) a_nil)))))) s_nil) (s_cons (s_if (w_t (w_and (t_val (v3 2)) (w_and1 (t_eq (hr.units) (v3 6) (v3 3) (nomark _))))) (s_one (s_ret (e_call c_runs_back hr (by rfl) (a_val (v3 5) (a_val (v3 6) (a_val (v3 4) a_nil)))))) s_nil) (s_one (s_ret (e_call c_touch hr (by rfl) (a_val (v3 3) (a_val (v3 4) (a_val (v3 5) (a_val (v3 6) a_nil))))))))))),?_⟩)
 rintro as k hl ⟨e,f,t,n,rfl,s1,s2,s3,s4,n0,n1,hk⟩
 refine at3 (r:=[.val (.tup [dP (hP n e.1),dP (hP n e.2)]),.val (.tup [dP (hP n f.1),dP (hP n f.2)]),.val (.bl t),.no,.no,.no,.no]) rfl ?_
 obtain ⟨p,q⟩:=e
 obtain ⟨r,s⟩:=f
 unfold ckB at hk
 dsimp only at s1 s2 s3 s4 hk
 have e1:eqD (dP (hP n q)) (dP (hP n r))=decide (q=r):=eqP n0 q r
 have e2:eqD (dP (hP n s)) (dP (hP n p))=decide (s=p):=eqP n0 s p
 walk_at "w"
 refine ⟨_,_,rfl,_,_,rfl,rfl,?_⟩
 walk_at "w"
 refine ⟨_,_,rfl,_,_,rfl,rfl,?_⟩
 refine ⟨_,rfl,_,rfl,?_⟩
 cases t with
 | false=>exact ⟨_,rfl,_,rfl,_,rfl,_,rfl,_,rfl,_,rfl,rfl,p,q,r,s,n,rfl,s1,s2,s3,s4,n0,n1,hk⟩
 | true =>
  rw [Bool.true_and,Bool.true_and] at hk
  refine ⟨_,rfl,_,rfl,.T [.I,.I,.I],rfl,rfl,by decide,_,rfl,?_⟩
  show if (eqD (dP (hP n q)) (dP (hP n r)))=true then _ else _
  rw [e1]
  refine iteD (fun a=>?_) (fun a=>?_)
  ·rw [decide_eq_true a,if_pos rfl] at hk
   exact ⟨_,rfl,_,rfl,_,rfl,rfl,p,q,s,n,rfl,s1,s2,s4,n0,n1,hk⟩
  rw [decide_eq_false a,if_neg Bool.false_ne_true] at hk
  refine ⟨_,rfl,_,rfl,_,rfl,_,rfl,.T [.I,.I,.I],rfl,rfl,by decide,_,rfl,?_⟩
  show if (eqD (dP (hP n s)) (dP (hP n p)))=true then _ else _
  rw [e2]
  refine iteD (fun a=>?_) (fun a=>?_)
  ·rw [decide_eq_true a,if_pos rfl] at hk
   exact ⟨_,rfl,_,rfl,_,rfl,rfl,r,s,q,n,rfl,s3,s4,s2,n0,n1,hk⟩
  rw [decide_eq_false a,if_neg Bool.false_ne_true] at hk
  exact ⟨_,rfl,_,rfl,_,rfl,_,rfl,rfl,p,q,r,s,n,rfl,s1,s2,s3,s4,n0,n1,hk⟩
theorem sc_sides_of:FnScope ["ring"] ["ring"] (defScope s_sides_of):=⟨rfl,rfl,rfl,by decide +kernel,rfl,by decide +kernel,by decide +kernel⟩
def F_sidesP  : FS:=fun as k=>∃ (ps:List P3),as=[.val (.lst (ps.map dP))]∧(1≤ps.length)∧(ps.length≤1000)∧k (.own ((ps.zip (ps.drop 1 ++ ps.take 1)).map fun s=>D.tup [dP s.1,dP s.2]))
theorem ok_sidesP (B:Blts mg)   (F:Fnd K mg "sides_of" s_sides_of ["ring"])  :
  Cal P w K mg base "sides_of" ["ring"] 2 (Con K 1 F_sidesP):=by
 refine def3 (lv:=1) F sc_sides_of rfl (fun f cdv A outer s H E hr=>⟨_,(s_one (s_retO (o_zip (v3 0) (o_e (o_cat (o_e (o_slice (v3 0) (p_some e_int) p_none)) (o_e (o_slice (v3 0) p_none (p_some e_int))))) rfl (by rfl) B.list_ (by rfl) B.zip_))),?_⟩)
 rintro as k hl ⟨ps,rfl,n1,n2,hk⟩
 refine at3 (r:=[.val (.lst (ps.map dP))]) rfl ?_
 have big:1000≤sizeLine:=by decide
 have e1:cutL (ps.map dP) (some 1) none=(ps.drop 1).map dP:=by
  rw [cutL_drop (by decide) (by rw [List.length_map]; lia),← List.map_drop]; rfl
 have e2:cutL (ps.map dP) none (some 1)=(ps.take 1).map dP:=by
  rw [cutL_take (by decide) (by rw [List.length_map]; lia),← List.map_take]; rfl
 refine ⟨_,rfl,_,rfl,_,rfl,_,rfl,_,rfl,_,rfl,_,rfl,_,_,rfl,rfl,?_,_,_,rfl,rfl,?_⟩
 ·rw [e1,e2]
  simp only [List.length_map,List.length_drop,List.length_take]
  lia
 rw [e1,e2,← List.map_append,List.zip_map,List.map_map]
 exact hk
theorem sc_sides_are_apart:FnScope ["rings", "seen", "place", "ring", "one", "elder_place", "elder"] ["rings"] (defScope s_sides_are_apart):=⟨rfl,rfl,rfl,by decide +kernel,rfl,by decide +kernel,by decide +kernel⟩
def F_apartP  : FS:=fun as k=>∃ (rs:RS) (n:Int),as=[.val (.lst ((rs.map fun ps=>ps.map (hP n)).map dH))]∧(∀ ps∈rs,1≤ps.length∧ps.length≤75∧∀ q∈ps,SmW q)∧(rs.length≤75)∧((idS rs).length≤75)∧(0 < n)∧(n≤100000000000000)∧k (.val (.bl (apB (idS rs))))
theorem ok_apartP (B:Blts mg)   (F:Fnd K mg "sides_are_apart" s_sides_are_apart ["rings"]) (c_sides_of:Cal P w K mg base "sides_of" ["ring"] 2 (Con K 1 F_sidesP)) (c_clash:Cal P w K mg base "clash" ["one", "other", "together"] 7 (Con K 3 F_clashP)) :
  Cal P w K mg base "sides_are_apart" ["rings"] 8 (Con K 1 F_apartP):=by
 refine def3 (lv:=7) F sc_sides_are_apart rfl (fun f cdv A outer s H E hr=>⟨_,(s_cons (s_setO (i:=1) sc_sides_are_apart.nd rfl (Or.inl rfl) (o_lst l_nil)) (s_cons (s_forE PassesOwn.never rfl (v3 0) (by rfl) B.enumerate_ (g_tup (n:=2) rfl (gs_cons (g_name (i:=2) sc_sides_are_apart.nd rfl (Or.inl rfl)) (gs_cons (g_name (i:=3) sc_sides_are_apart.nd rfl (Or.inl rfl)) gs_nil))) (s_one (s_for PassesOwn.never rfl (i_list (e_call c_sides_of hr (by rfl) (a_val (v3 3) a_nil))) (g_name (i:=4) sc_sides_are_apart.nd rfl (Or.inl rfl)) (s_cons (s_forU (n:=1) (j1:=5) (j2:=6) (by decide) (by decide) (by decide) PassesOwn.never rfl (g_tup (n:=2) rfl (gs_cons (g_name (i:=5) sc_sides_are_apart.nd rfl (Or.inl rfl)) (gs_cons (g_name (i:=6) sc_sides_are_apart.nd rfl (Or.inl rfl)) gs_nil))) (t_val (e_call c_clash hr (by rfl) (a_val (v3 6) (a_val (v3 4) (a_val (e_cmp (f:=fun i j=>decide (i=j)) op_eqI (v3 5) (v3 2) (nomark _)) a_nil))))) (s_one (s_ret e_bl))) (s_one (s_app 1 (e_tup (l_cons (v3 2) (l_cons (v3 4) l_nil))))))))) (s_one (s_ret e_bl)))),?_⟩)
 rintro as k hl ⟨rs,n,rfl,l1,l2,l3,n0,n1,hk⟩
 refine at3 (r:=[.val (.lst ((rs.map fun ps=>ps.map (hP n)).map dH)),.no,.no,.no,.no,.no,.no]) rfl ?_
 have big:75≤sizeLine:=by decide
 generalize hL:D.lst ((rs.map fun ps=>ps.map (hP n)).map dH)=L
 rw [List.map_map] at hL
 let sD:Nat×(F2×F2)→D:=fun x=>.tup [.int x.1,.tup [dP (hP n x.2.1),dP (hP n x.2.2)]]
 have no:∀ a b,idS rs=a ++ b→apB a=false→k (.val (.bl false)):=fun a b e h=>by rw [e,apB_pre h] at hk; exact hk
 refine mid4 (fun ρ=>ρ=[.val L,.own (.l []),.no,.no,.no,.no,.no]) ?_ (fun N kk=>⟨by show 0≤_; lia,kk _ rfl⟩)
 rintro ρ rfl
 refine ⟨_,rfl,_,hL.symm,?_⟩
 refine forR_prs (f:=dH ∘ fun ps=>ps.map (hP n)) (rs:=rs) (done:=[]) (fun pre ρ=>(∃ v2 v3 v4 v5 v6:Sl,ρ=[.val L,.own (.l ((idS pre).map sD)),v2,v3,v4,v5,v6])∧apB (idS pre)=true) ⟨⟨_,_,_,_,_,rfl⟩,rfl⟩ ?_ (fun ρ h=>?_)
 rotate_left
 ·obtain ⟨⟨v2,v3,v4,v5,v6,rfl⟩,h⟩:=h
  rw [List.nil_append] at h
  rw [h] at hk
  exact hk
 rintro pre ps rest ρ he ⟨⟨v2,v3,v4,v5,v6,rfl⟩,hp⟩ N kk
 rw [List.nil_append] at he
 have mem:ps∈rs:=by rw [he]; simp
 obtain ⟨a1,a2,a3⟩:=l1 ps mem
 have er:∃ t,idS rs=idS pre ++ (zpF ps).map (fun e=>(pre.length,e)) ++ t:=⟨_,by
  rw [← idS_snoc,he,List.append_cons]
  unfold idS
  rw [List.zipIdx_append,List.flatMap_append]⟩
 obtain ⟨t,er⟩:=er
 have ez:(((ps.map (hP n)).zip ((ps.map (hP n)).drop 1 ++ (ps.map (hP n)).take 1)).map fun s=>D.tup [dP s.1,dP s.2])=(zpF ps).map fun e=>D.tup [dP (hP n e.1),dP (hP n e.2)]:=by
  unfold zpF
  rw [← List.map_drop,← List.map_take,← List.map_append,List.zip_map,List.map_map]
  rfl
 rw [idS_snoc] at kk
 refine ⟨_,rfl,rfl,ps.map (hP n),rfl,by rw [List.length_map]; lia,by rw [List.length_map]; lia,_,rfl,?_⟩
 rw [ez]
 generalize Sl.val ((dH ∘ fun ps=>ps.map (hP n)) ps)=vr
 refine forR_map (m:=4) (rs:=zpF ps) (done:=[]) (f:=fun e:F2×F2=>D.tup [dP (hP n e.1),dP (hP n e.2)]) (fun qre ρ=>(∃ v4 v5 v6:Sl,ρ=[.val L,.own (.l ((idS pre ++ qre.map fun e=>(pre.length,e)).map sD)),.val (.int pre.length),vr,v4,v5,v6])∧apB (idS pre ++ qre.map fun e=>(pre.length,e))=true) ⟨⟨_,_,_,by rw [List.map_nil,List.append_nil]; rfl⟩,by rw [List.map_nil,List.append_nil]; exact hp⟩ ?_ (fun ρ h=>?_)
 rotate_left
 ·obtain ⟨⟨v4,v5,v6,rfl⟩,h⟩:=h
  rw [List.nil_append] at h ⊢
  exact kk _ ⟨⟨_,_,_,_,_,rfl⟩,h⟩
 rintro qre e rst ρ he2 ⟨⟨v4,v5,v6,rfl⟩,h2⟩ N2 kk2
 rw [List.nil_append] at he2
 have me:e∈zpF ps:=by rw [he2]; simp
 obtain ⟨m1,m2⟩:=zpF_mem me
 have hs:=a3
 have e3:idS pre ++ (qre ++ [e]).map (fun e=>(pre.length,e))=(idS pre ++ qre.map (fun e=>(pre.length,e))) ++ [(pre.length,e)]:=by rw [List.map_append,← List.append_assoc]; rfl
 rw [e3] at kk2
 have er2:idS rs=((idS pre ++ qre.map (fun e=>(pre.length,e))) ++ [(pre.length,e)]) ++ (rst.map (fun e=>(pre.length,e)) ++ t):=by
  rw [er,he2,List.map_append,List.map_cons]
  simp
 clear e3
 generalize idS pre ++ qre.map (fun e=>(pre.length,e))=S at *
 have hS:∀ x∈S,SmW x.2.1∧SmW x.2.2:=fun x hx=>by
  obtain ⟨qs,mq,mx⟩:=idS_mem (x:=x) (rs:=rs) (by rw [er2]; simp [hx])
  exact ⟨(l1 qs mq).2.2 _ (zpF_mem mx).1,(l1 qs mq).2.2 _ (zpF_mem mx).2⟩
 have sS:S.length < 75:=by rw [er2] at l3; simp at l3; lia
 have sn:=apB_snoc (a:=S) (x:=(pre.length,e))
 rw [h2,Bool.true_and] at sn
 refine mid4 (fun ρ=>(∃ v5 v6:Sl,ρ=[.val L,.own (.l (S.map sD)),.val (.int pre.length),vr,.val (D.tup [dP (hP n e.1),dP (hP n e.2)]),v5,v6])∧apB (S ++ [(pre.length,e)])=true) ?_ (fun N kk=>?_)
 ·rintro ρ ⟨⟨v5,v6,rfl⟩,h3⟩
  refine ⟨_,rfl,_,rfl,_,rfl,by show 2≤sizeLine; decide,by rw [List.length_map]; lia,?_⟩
  exact kk2 _ ⟨⟨_,_,_,by rw [List.map_append]; rfl⟩,h3⟩
 refine ⟨S.map fun y=>(sD y,ckB y.2 e (decide (y.1=pre.length))),by rw [List.map_map]; rfl,fun d hd=>?_,fun h s1 s2=>?_⟩
 ·obtain ⟨y,hy,rfl⟩:=List.mem_map.mp hd
  obtain ⟨y1,y2⟩:=hS y hy
  refine ⟨_,_,rfl,?_,fun c=>?_⟩
  ·refine ⟨_,rfl,_,rfl,_,rfl,_,rfl,_,_,rfl,rfl,rfl,y.2,e,decide (y.1=pre.length),n,?_,y1,y2,hs _ m1,hs _ m2,n0,n1,_,rfl,rfl⟩
   rw [show decide (y.1=pre.length)=decide (((y.1:Nat):Int)=((pre.length:Nat):Int)) from (decide_eq_decide.mpr Int.ofNat_inj).symm]
   rfl
  ·refine no _ _ er2 ?_
   rw [sn,List.any_eq_true.mpr ⟨y,hy,c⟩]
   rfl
 ·refine kk _ ⟨⟨s1,s2,rfl⟩,?_⟩
  rw [sn]
  rw [List.any_map] at h
  show (!S.any (Prod.snd ∘ fun y=>(sD y,ckB y.2 e (decide (y.1=pre.length)))))=true
  rw [h]
  rfl
theorem sc_within:FnScope ["ring", "p", "inside", "q", "r", "upward"] ["ring", "p"] (defScope s_within):=⟨rfl,rfl,rfl,by decide +kernel,rfl,by decide +kernel,by decide +kernel⟩
def F_withinC  : FS:=fun as k=>∃ (ps:List F2) (p:F2) (n:Int),as=[.val (dH (ps.map (hP n))),.val (dP (hP n p))]∧(1≤ps.length)∧(ps.length≤75)∧(∀ q∈ps,SmW q)∧(SmW p)∧(0 < n)∧(n≤100000000000000)∧k (.val (.bl (xorL ((zpF ps).map (cR2 p)))))
theorem ok_withinC (B:Blts mg)   (F:Fnd K mg "within" s_within ["ring", "p"]) (c_sides_of:Cal P w K mg base "sides_of" ["ring"] 2 (Con K 1 F_sidesP)) (c_is_above:Cal P w K mg base "is_above" ["p", "q"] 2 (Con K 2 F_is_above)) (c_side:Cal P w K mg base "side" ["p", "q", "r"] 3 (Con K 3 F_side)) :
  Cal P w K mg base "within" ["ring", "p"] 4 (Con K 2 F_withinC):=by
 refine def3 (lv:=3) F sc_within rfl (fun f cdv A outer s H E hr=>⟨_,(s_cons (s_set (i:=2) sc_within.nd rfl (Or.inl rfl) e_bl) (s_cons (s_for PassesOwn.never rfl (i_list (e_call c_sides_of hr (by rfl) (a_val (v3 0) a_nil))) (g_tup (n:=2) rfl (gs_cons (g_name (i:=3) sc_within.nd rfl (Or.inl rfl)) (gs_cons (g_name (i:=4) sc_within.nd rfl (Or.inl rfl)) gs_nil))) (s_cons (s_set (i:=5) sc_within.nd rfl (Or.inl rfl) (e_call c_is_above hr (by rfl) (a_val (v3 4) (a_val (v3 1) a_nil)))) (s_one (s_if (w_t (w_and (t_ne (hr.units) (e_call c_is_above hr (by rfl) (a_val (v3 3) (a_val (v3 1) a_nil))) (v3 5) (nomark _)) (w_and1 (t_cmp (f:=fun i j=>decide (i=j)) op_eqI (e_call c_side hr (by rfl) (a_val (v3 3) (a_val (v3 4) (a_val (v3 1) a_nil)))) (e_ifE (t_val (v3 5)) e_int (e_neg e_int)) (nomark _))))) (s_one (s_set (i:=2) sc_within.nd rfl (Or.inl rfl) (e_not (v3 2)))) s_nil)))) (s_one (s_ret (v3 2))))),?_⟩)
 rintro as k hl ⟨ps,p,n,rfl,l1,l2,hs,sp,n0,n1,hk⟩
 refine at3 (r:=[.val (dH (ps.map (hP n))),.val (dP (hP n p)),.no,.no,.no,.no]) rfl ?_
 have gp:=gp_h n0 n1 sp
 have ez:(((ps.map (hP n)).zip ((ps.map (hP n)).drop 1 ++ (ps.map (hP n)).take 1)).map fun s=>D.tup [dP s.1,dP s.2])=(zpF ps).map fun e=>D.tup [dP (hP n e.1),dP (hP n e.2)]:=by
  unfold zpF
  rw [← List.map_drop,← List.map_take,← List.map_append,List.zip_map,List.map_map]
  rfl
 walk_at "wd"
 refine ⟨by rw [List.length_map]; lia,by rw [List.length_map]; lia,?_⟩
 rw [ez]
 refine ⟨_,rfl,?_⟩
 refine forR_two (f:=fun e:F2×F2=>dP (hP n e.1)) (g:=fun e=>dP (hP n e.2)) (done:=[]) (fun pre ρ=>∃ v3 v4 v5:Sl,ρ=[.val (dH (ps.map (hP n))),.val (dP (hP n p)),.val (.bl (xorL (pre.map (cR2 p)))),v3,v4,v5]) ⟨_,_,_,rfl⟩ ?_ (fun ρ ⟨v3,v4,v5,e⟩=>by subst e; exact ⟨_,rfl,hk⟩)
 rintro pre e rest ρ he ⟨v3,v4,v5,rfl⟩ N kk
 have me:e∈zpF ps:=by rw [← List.nil_append (zpF ps),he]; simp
 obtain ⟨m1,m2⟩:=zpF_mem me
 have gq:=gp_h n0 n1 (hs _ m1)
 have gr:=gp_h n0 n1 (hs _ m2)
 have kk:∀ b:Bool,b=(xorL (pre.map (cR2 p)) ^^ cR2 p e)→N [.val (dH (ps.map (hP n))),.val (dP (hP n p)),.val (.bl b),.val (dP (hP n e.1)),.val (dP (hP n e.2)),.val (.bl (decide (p.2 < e.2.2)))]:=fun b hb=>kk _ ⟨.val (dP (hP n e.1)),.val (dP (hP n e.2)),.val (.bl (decide (p.2 < e.2.2))),by subst hb; rw [List.map_append,show [e].map (cR2 p)=[cR2 p e] from rfl,xorL_snoc]⟩
 rw [cR2_eq] at kk
 refine ⟨_,rfl,_,rfl,rfl,hP n e.2,hP n p,rfl,gr.bp.mono (by decide),gp.bp.mono (by decide),?_⟩
 rw [above_d n0 e.2 p]
 dsimp only [fzR]
 refine ⟨_,rfl,_,rfl,rfl,hP n e.1,hP n p,rfl,gq.bp.mono (by decide),gp.bp.mono (by decide),?_⟩
 rw [above_d n0 e.1 p]
 dsimp only [fzR]
 refine ⟨_,rfl,.B,rfl,rfl,by decide,_,rfl,neIf (fun ne=>?_) (fun eq=>?_)⟩
 rotate_left
 ·have eq:=D.bl.inj eq
  exact kk _ (by rw [eq,bne_self_eq_false,Bool.false_and,Bool.xor_false])
 have ne:decide (p.2 < e.1.2)≠decide (p.2 < e.2.2):=fun z=>ne (by rw [z])
 rw [show (decide (p.2 < e.1.2) != decide (p.2 < e.2.2))=true from bne_iff_ne.mpr ne,Bool.true_and] at kk
 refine ⟨_,rfl,_,rfl,_,rfl,rfl,hP n e.1,hP n e.2,hP n p,rfl,gq.bp.mono (by decide),gr.bp.mono (by decide),gp.bp.mono (by decide),?_⟩
 rw [sg_h n0]
 dsimp only [fzR]
 refine ⟨_,rfl,_,rfl,?_⟩
 by_cases hB:p.2 < e.2.2
 ·rw [if_pos hB] at kk
  rw [decide_eq_true hB] at kk ⊢
  rw [if_pos rfl]
  refine ⟨_,_,rfl,rfl,_,rfl,iteD (fun g=>?_) (fun g=>?_)⟩
  ·exact ⟨_,rfl,_,rfl,kk _ (by rw [decide_eq_true (sg_isP.mp g),Bool.xor_true])⟩
  ·exact kk _ (by rw [decide_eq_false (fun z=>g (sg_isP.mpr z)),Bool.xor_false])
 ·rw [if_neg hB] at kk
  rw [decide_eq_false hB] at kk ⊢
  rw [if_neg Bool.false_ne_true]
  refine ⟨_,rfl,_,_,rfl,rfl,_,rfl,iteD (fun g=>?_) (fun g=>?_)⟩
  ·exact ⟨_,rfl,_,rfl,kk _ (by rw [decide_eq_true (sg_isN.mp g),Bool.xor_true])⟩
  ·exact kk _ (by rw [decide_eq_false (fun z=>g (sg_isN.mpr z)),Bool.xor_false])
theorem sc_is_inside:FnScope ["rings", "p"] ["rings", "p"] (defScope s_is_inside):=⟨rfl,rfl,rfl,by decide +kernel,rfl,by decide +kernel,by decide +kernel⟩
def F_insideC  : FS:=fun as k=>∃ (rs:RS) (p:F2) (n:Int),as=[.val (.lst ((rs.map fun ps=>ps.map (hP n)).map dH)),.val (dP (hP n p))]∧(∀ ps∈rs,1≤ps.length∧ps.length≤75∧∀ q∈ps,SmW q)∧(rs.length≤75)∧(SmW p)∧(0 < n)∧(n≤100000000000000)∧k (.val (.bl (xorL (rs.map fun ps=>xorL ((zpF ps).map (cR2 p))))))
theorem ok_insideC (B:Blts mg)   (F:Fnd K mg "is_inside" s_is_inside ["rings", "p"]) (c_within:Cal P w K mg base "within" ["ring", "p"] 4 (Con K 2 F_withinC)) :
  Cal P w K mg base "is_inside" ["rings", "p"] 5 (Con K 2 F_insideC):=by
 refine def3 (lv:=4) F sc_is_inside rfl (fun f cdv A outer s H E hr=>⟨_,(s_one (s_ret (e_cmp (f:=fun i j=>decide (i=j)) op_eqI (e_mod (e_len (o_e (o_compG (ts:=["ring"]) (fr:=["p"]) (js:=[1]) (i_list (v3 0)) (fun _ _ _ _=>(g_name (i:=0) (show List.Nodup (["ring", "p"]:List Str) by decide +kernel) rfl (Or.inl rfl))) (fun _ _ _ _=>(ifs_one (t_val (e_call c_within hr (by rfl) (a_val (v3 0) (a_val (v3 1) a_nil)))))) (fun _ _ _ _=>(v3 0)) ⟨rfl,by decide +kernel,rfl,by decide +kernel,fsub_of (List.forall_mem_cons.mpr ⟨rfl,(List.forall_mem_nil _)⟩),fhas_b rfl,by walk_at "ffr", rfl⟩)) (by rfl) B.len_) e_int) e_int (nomark _)))),?_⟩)
 rintro as k hl ⟨rs,p,n,rfl,l1,l2,sp,n0,n1,hk⟩
 refine at3 (r:=[.val (.lst ((rs.map fun ps=>ps.map (hP n)).map dH)),.val (dP (hP n p))]) rfl ?_
 have big:75≤sizeLine:=by decide
 walk_at "wd"
 rw [List.map_map]
 refine ⟨by rw [List.length_map]; lia,?_⟩
 refine compG_flt (f:=dH ∘ fun ps=>ps.map (hP n)) (h:=dH ∘ fun ps=>ps.map (hP n)) (P:=fun ps=>xorL ((zpF ps).map (cR2 p))) (fun ps hp k hk=>?_) (fun ps hp k hk=>?_) ?_
 ·exact ⟨_,rfl,_,rfl,rfl,ps,p,n,rfl,(l1 ps hp).1,(l1 ps hp).2.1,(l1 ps hp).2.2,sp,n0,n1,_,rfl,hk⟩
 ·exact ⟨_,rfl,hk⟩
 refine ⟨_,rfl,_,_,rfl,rfl,by decide,_,_,rfl,rfl,?_⟩
 rw [List.length_map,odd_flt]
 exact hk
theorem sc_ring_area:FnScope ["ring", "twice", "p", "q"] ["ring"] (defScope s_ring_area):=⟨rfl,rfl,rfl,by decide +kernel,rfl,by decide +kernel,by decide +kernel⟩
def F_ring_areaW  : FS:=fun as k=>∃ (ps:List P3) (m:Nat),as=[.val (.lst (ps.map dP))]∧(1≤ps.length)∧(ps.length≤1000)∧(∀ p∈ps,0 < p.2.2∧BP m p)∧(ps.length * (2 * m + 2) + 1≤3000)∧∀ T:F2,IsF T (fsum (cyc ps))→k (.val (dR (nrat (T.1 * 1) (T.2 * 2))))
theorem ok_ring_areaW (B:Blts mg)   (F:Fnd K mg "ring_area" s_ring_area ["ring"]) (c_sides_of:Cal P w K mg base "sides_of" ["ring"] 2 (Con K 1 F_sidesP)) (c_plus:Cal P w K mg base "plus" ["one", "other"] 3 (Con K 2 F_plus)) (c_ratio:Cal P w K mg base "ratio" ["top", "bottom"] 3 (Con K 2 F_ratio)) (c_crossed:Cal P w K mg base "crossed" ["one", "other"] 2 (Con K 2 F_crossed)) (c_times:Cal P w K mg base "times" ["one", "other"] 3 (Con K 2 F_times)) :
  Cal P w K mg base "ring_area" ["ring"] 4 (Con K 1 F_ring_areaW):=by
 refine def3 (lv:=3) F sc_ring_area rfl (fun f cdv A outer s H E hr=>⟨_,(s_cons (s_set (i:=1) sc_ring_area.nd rfl (Or.inl rfl) (e_tup (l_cons e_int (l_cons e_int l_nil)))) (s_cons (s_for PassesOwn.never rfl (i_list (e_call c_sides_of hr (by rfl) (a_val (v3 0) a_nil))) (g_tup (n:=2) rfl (gs_cons (g_name (i:=2) sc_ring_area.nd rfl (Or.inl rfl)) (gs_cons (g_name (i:=3) sc_ring_area.nd rfl (Or.inl rfl)) gs_nil))) (s_one (s_set (i:=1) sc_ring_area.nd rfl (Or.inl rfl) (e_call c_plus hr (by rfl) (a_val (v3 1) (a_val (e_call c_ratio hr (by rfl) (a_val (e_ix (e_call c_crossed hr (by rfl) (a_val (v3 2) (a_val (v3 3) a_nil))) e_int (fun _ _=>rfl)) (a_val (e_mul (e_ix (v3 2) e_int (fun _ _=>rfl)) (e_ix (v3 3) e_int (fun _ _=>rfl))) a_nil))) a_nil)))))) (s_one (s_ret (e_call c_times hr (by rfl) (a_val (v3 1) (a_val (e_tup (l_cons e_int (l_cons e_int l_nil))) a_nil))))))),?_⟩)
 rintro as k hl ⟨ps,m,rfl,n1,n2,hps,hm,hk⟩
 refine at3 (r:=[.val (.lst (ps.map dP)),.no,.no,.no]) rfl ?_
 have mm:m≤1499:=by
  have:=Nat.mul_le_mul_right (2 * m + 2) n1
  lia
 have sl:((ps.zip (ps.drop 1 ++ ps.take 1)).map fun s=>sdf s.1 s.2)=cyc ps:=cyc_sides ps
 have cl:=cyc_length ps
 have cb:∀ x∈cyc ps,intBits x.1≤2 * m + 1∧intBits x.2≤2 * m + 1:=cyc_all (G:=fun p=>p∈ps) (fun p q hp hq=>sdf_bits (hps p hp).2 (hps q hq).2) (fun p hp=>hp)
 have inz:∀ s∈ps.zip (ps.drop 1 ++ ps.take 1),s.1∈ps∧s.2∈ps:=fun s hs=>by
  obtain ⟨h1,h2⟩:=List.of_mem_zip hs
  refine ⟨h1,?_⟩
  rcases List.mem_append.mp h2 with h | h
  ·exact List.mem_of_mem_drop h
  ·exact List.mem_of_mem_take h
 have zl:(ps.zip (ps.drop 1 ++ ps.take 1)).length=ps.length:=by rw [← cl,← sl,List.length_map]
 refine ⟨by show 2≤sizeLine; decide,?_⟩
 dsimp only
 refine at3 (r:=[.val (.lst (ps.map dP)),.val (dR (0,1)),.no,.no]) rfl ?_
 refine mid4 (fun ρ=>∃ (T:F2) (v2 v3:Sl),ρ=[.val (.lst (ps.map dP)),.val (dR T),v2,v3]∧IsF T (fsum (cyc ps))) ?_ (fun N kk=>?_)
 rotate_left
 ·refine ⟨_,rfl,rfl,ps,rfl,n1,n2,?_⟩
  refine ⟨_,rfl,?_⟩
  refine forR_inv (n:=0) (fun i ρ=>∃ (T:F2) (v2 v3:Sl),ρ=[.val (.lst (ps.map dP)),.val (dR T),v2,v3]∧IsF T (fsum ((cyc ps).take i))) ⟨_,_,_,rfl,IsF.zero⟩ ?_ ?_ (fun d ρ k k' h ⟨ds,e1,e2,a,b,e3,c,d',e4,e5,e6⟩=>⟨ds,e1,e2,a,b,e3,c,d',e4,e5,h _ e6⟩)
  ·rintro i d ρ hi ⟨T,v2,v3,rfl,hT⟩
   rw [List.getElem?_map] at hi
   cases hs:(ps.zip (ps.drop 1 ++ ps.take 1))[i]? with
   | none=>rw [hs] at hi; cases hi
   | some s =>
    rw [hs] at hi
    cases hi
    obtain ⟨p,q⟩:=s
    obtain ⟨ip,iq⟩:=inz _ (List.mem_of_getElem? hs)
    obtain ⟨p0,bp⟩:=hps p ip
    obtain ⟨q0,bq⟩:=hps q iq
    have hc:(cyc ps)[i]?=some (sdf p q):=by rw [← sl,List.getElem?_map,hs]; rfl
    rw [Nat.zero_add] at hT
    obtain ⟨t1,t2⟩:=part_bitsW cb (Nat.le_of_eq cl) hm i hT
    have d0:0 < p.2.2 * q.2.2:=Int.mul_pos p0 q0
    have hn:=hT.add (IsF.low (c:=(crs p q).2.2) d0)
    obtain ⟨lr,_,r1,r2⟩:=nrat_spec (t:=(crs p q).2.2) (b:=p.2.2 * q.2.2) (Int.ne_of_gt d0)
    obtain ⟨s1,s2⟩:=sdf_bits bp bq
    have u1:intBits (nrat (crs p q).2.2 (p.2.2 * q.2.2)).1≤3000:=Nat.le_trans (bits_of_abs r1 s1) (by lia)
    have u2:intBits (nrat (crs p q).2.2 (p.2.2 * q.2.2)).2≤3000:=Nat.le_trans (bits_of_abs r2 s2) (by lia)
    have c1:=bp.c
    have c2:=bq.c
    refine ⟨_,rfl,rfl,_,_,rfl,_,_,rfl,rfl,fun N kk=>?_⟩
    refine ⟨_,rfl,_,rfl,_,rfl,rfl,p,q,rfl,bp.mono (by lia),bq.mono (by lia),?_⟩
    refine ⟨_,_,_,.inl rfl,rfl,rfl,_,rfl,_,_,_,.inl rfl,rfl,rfl,_,rfl,_,_,_,.inl rfl,rfl,rfl,?_⟩
    refine ⟨_,_,rfl,rfl,⟨Nat.le_trans c1 (by lia),Nat.le_trans c2 (by lia)⟩,rfl,_,_,rfl,Int.ne_of_gt d0,Nat.le_trans (intBits_mul_le c1 c2) (by lia),?_⟩
    refine ⟨rfl,T.1,T.2,_,_,rfl,hT.1,lr,by walk_at "bits", by walk_at "bits", by walk_at "bits", by walk_at "bits", ?_⟩
    refine kk _ ⟨_,_,_,rfl,?_⟩
    have e:(cyc ps).take (0 + i + 1)=(cyc ps).take i ++ [sdf p q]:=by rw [Nat.zero_add,List.take_add_one,hc]; rfl
    rw [e,fsum_snoc]
    exact hn
  ·rintro ρ ⟨T,v2,v3,rfl,hT⟩
   refine kk _ ⟨T,v2,v3,rfl,?_⟩
   rw [List.length_map,zl,Nat.zero_add,← cl,List.take_length] at hT
   exact hT
 rintro ρ ⟨T,v2,v3,rfl,hT⟩
 obtain ⟨t1,t2⟩:=part_bitsW cb (Nat.le_of_eq cl) hm (cyc ps).length (by rw [List.take_length]; exact hT)
 refine ⟨_,rfl,by show 2≤sizeLine; decide,rfl,T.1,T.2,1,2,rfl,hT.1,⟨by decide,by decide⟩,by walk_at "bits", by walk_at "bits", by walk_at "bits", by walk_at "bits", hk T hT⟩
theorem sc_rings_go_rightly:FnScope ["rings", "place", "ring", "is_hole"] ["rings"] (defScope s_rings_go_rightly):=⟨rfl,rfl,rfl,by decide +kernel,rfl,by decide +kernel,by decide +kernel⟩
def F_rightP  : FS:=fun as k=>∃ (rs:RS) (n:Int),as=[.val (.lst ((rs.map fun ps=>ps.map (hP n)).map dH))]∧(∀ ps∈rs,1≤ps.length∧ps.length≤24∧∀ q∈ps,SmW q)∧(rs.length≤75)∧(0 < n)∧(n≤100000000000000)∧k (.val (.bl (rgB rs)))
theorem ok_rightP (B:Blts mg)   (F:Fnd K mg "rings_go_rightly" s_rings_go_rightly ["rings"]) (c_is_inside:Cal P w K mg base "is_inside" ["rings", "p"] 5 (Con K 2 F_insideC)) (c_ring_area:Cal P w K mg base "ring_area" ["ring"] 4 (Con K 1 F_ring_areaW)) :
  Cal P w K mg base "rings_go_rightly" ["rings"] 6 (Con K 1 F_rightP):=by
 refine def3 (lv:=5) F sc_rings_go_rightly rfl (fun f cdv A outer s H E hr=>⟨_,(s_cons (s_forE PassesOwn.never rfl (v3 0) (by rfl) B.enumerate_ (g_tup (n:=2) rfl (gs_cons (g_name (i:=1) sc_rings_go_rightly.nd rfl (Or.inl rfl)) (gs_cons (g_name (i:=2) sc_rings_go_rightly.nd rfl (Or.inl rfl)) gs_nil))) (s_cons (s_set (i:=3) sc_rings_go_rightly.nd rfl (Or.inl rfl) (e_call c_is_inside hr (by rfl) (a_val (o_e (o_cat (o_e (o_slice (v3 0) p_none (p_some (v3 1)))) (o_e (o_slice (v3 0) (p_some (e_add (v3 1) e_int)) p_none)))) (a_val (e_ix (v3 2) e_int (fun _ _=>rfl)) a_nil)))) (s_one (s_if (t_ne (hr.units) (e_cmp (f:=fun i j=>decide (i < j)) op_lt (e_ix (e_call c_ring_area hr (by rfl) (a_val (v3 2) a_nil)) e_int (fun _ _=>rfl)) e_int (nomark _)) (v3 3) (nomark _)) (s_one (s_ret e_bl)) s_nil)))) (s_one (s_ret e_bl))),?_⟩)
 rintro as k hl ⟨rs,n,rfl,l1,l2,n0,n1,hk⟩
 refine at3 (r:=[.val (.lst ((rs.map fun ps=>ps.map (hP n)).map dH)),.no,.no,.no]) rfl ?_
 have big:75≤sizeLine:=by decide
 generalize hL:D.lst ((rs.map fun ps=>ps.map (hP n)).map dH)=L
 rw [List.map_map] at hL
 let go:List F2×Nat→Bool:=fun x=>decide (tw x.1 < 0) == inB (rs.take x.2 ++ rs.drop (x.2 + 1)) (x.1.headD (0,0))
 refine ⟨_,rfl,_,hL.symm,?_⟩
 refine forR_prs (f:=dH ∘ fun ps=>ps.map (hP n)) (rs:=rs) (done:=[]) (fun pre ρ=>(∃ v1 v2 v3:Sl,ρ=[.val L,v1,v2,v3])∧pre.zipIdx.all go=true) ⟨⟨_,_,_,rfl⟩,rfl⟩ ?_ (fun ρ h=>?_)
 rotate_left
 ·obtain ⟨⟨v1,v2,v3,rfl⟩,h⟩:=h
  rw [List.nil_append] at h
  unfold rgB at hk
  rw [show (rs.zipIdx.all fun x=>decide (tw x.1 < 0) == inB (rs.take x.2 ++ rs.drop (x.2 + 1)) (x.1.headD (0,0)))=true from h] at hk
  exact hk
 rintro pre ps rest ρ he ⟨⟨v1,v2,v3,rfl⟩,hp⟩ N kk
 rw [List.nil_append] at he
 have mem:ps∈rs:=by rw [he]; simp
 obtain ⟨a1,a2,a3⟩:=l1 ps mem
 have len:rs.length=pre.length + (rest.length + 1):=by rw [he,List.length_append,List.length_cons]
 rw [← hL]
 walk_at "w"
 rw [cutL_take (by lia) (by rw [List.length_map]; lia),cutL_drop (by lia) (by rw [List.length_map]; lia),show ((pre.length:Nat):Int).toNat=pre.length by lia,show (((pre.length:Nat):Int) + 1).toNat=pre.length + 1 by lia,← List.map_take,← List.map_drop]
 refine ⟨by rw [List.length_map,List.length_map,List.length_take,List.length_drop]; lia,?_⟩
 rw [← List.map_append]
 have gb:go (ps,pre.length)=(decide (tw ps < 0) == inB (rs.take pre.length ++ rs.drop (pre.length + 1)) (ps.headD (0,0))):=rfl
 have zs:rs.zipIdx.all go=(pre.zipIdx.all go && (go (ps,pre.length) && (rest.zipIdx (pre.length + 1)).all go)):=by
  rw [he,List.zipIdx_append,List.all_append,List.zipIdx_cons,List.all_cons]
  simp
 have kk:go (ps,pre.length)=true→∀ r,(∃ v1 v2 v3:Sl,r=[.val L,v1,v2,v3])→N r:=fun g r hr=>kk r ⟨hr,by
  rw [List.zipIdx_append,List.all_append,hp,Bool.true_and,List.zipIdx_cons,List.zipIdx_nil,List.all_cons,List.all_nil,Bool.and_true,Nat.zero_add]; exact g⟩
 have no:go (ps,pre.length)=false→k (.val (.bl false)):=fun g=>by
  unfold rgB at hk
  rw [show (rs.zipIdx.all fun x=>decide (tw x.1 < 0) == inB (rs.take x.2 ++ rs.drop (x.2 + 1)) (x.1.headD (0,0)))=false from by rw [show _=_ from zs,g,Bool.false_and,Bool.and_false]] at hk
  exact hk
 rw [gb] at kk no
 clear zs gb hp
 have others:∀ qs∈rs.take pre.length ++ rs.drop (pre.length + 1),qs∈rs:=fun qs h=>by
  rcases List.mem_append.mp h with h | h
  ·exact List.mem_of_mem_take h
  ·exact List.mem_of_mem_drop h
 have ol:(rs.take pre.length ++ rs.drop (pre.length + 1)).length≤75:=by rw [List.length_append,List.length_take,List.length_drop]; lia
 generalize rs.take pre.length ++ rs.drop (pre.length + 1)=os at *
 obtain ⟨p,qs,rfl⟩:∃ p qs,ps=p :: qs:=by
  cases ps with
  | nil=>exact absurd a1 (by decide)
  | cons p qs=>exact ⟨p,qs,rfl⟩
 have sp:SmW p:=a3 p List.mem_cons_self
 refine ⟨_,rfl,_,_,_,.inr rfl,rfl,atI_zero,rfl,os,p,n,by rw [List.map_map]; rfl,fun qs h=>⟨(l1 qs (others qs h)).1,by have:=(l1 qs (others qs h)).2.1; lia,(l1 qs (others qs h)).2.2⟩,ol,sp,n0,n1,?_⟩
 rw [show inB os ((p :: qs).headD (0,0))=xorL (os.map fun ps=>xorL ((zpF ps).map (cR2 p))) from rfl] at kk no
 generalize xorL (os.map fun ps=>xorL ((zpF ps).map (cR2 p)))=ih at *
 have hb:∀ r∈((p :: qs).map (hP n)),0 < r.2.2∧BP 50 r:=fun r hr=>by
  obtain ⟨q,hq,rfl⟩:=List.mem_map.mp hr
  have g:=gp_h n0 n1 (a3 q hq)
  exact ⟨g.pt.1,g.bp⟩
 refine ⟨_,rfl,rfl,(p :: qs).map (hP n),50,rfl,by rw [List.length_map]; exact a1,by rw [List.length_map]; lia,hb,by rw [List.length_map]; lia,fun T hT=>?_⟩
 have sgn:=area_neg n0 hT
 have sd:decide ((nrat (T.1 * 1) (T.2 * 2)).1 < 0)=decide (tw (p :: qs) < 0):=decide_eq_decide.mpr sgn
 rw [← sd] at kk no
 refine ⟨_,_,_,.inl rfl,rfl,atI_zero,?_⟩
 refine ⟨_,_,rfl,rfl,_,rfl,.B,rfl,rfl,by decide,_,rfl,neIf (fun ne=>?_) (fun eq=>?_)⟩
 ·exact no (beq_eq_false_iff_ne.mpr fun z=>ne (congrArg D.bl z))
 ·refine kk ?_ _ ⟨.val (.int pre.length),.val (dH ((p :: qs).map (hP n))),.val (.bl ih),by rw [hL]; rfl⟩
  exact beq_iff_eq.mpr (D.bl.inj eq)
theorem sc_is_cloth:FnScope ["rings", "ring"] ["rings"] (defScope s_is_cloth):=⟨rfl,rfl,rfl,by decide +kernel,rfl,by decide +kernel,by decide +kernel⟩
def F_isclothP  : FS:=fun as k=>∃ (rs:RS) (n:Int),as=[.val (.lst ((rs.map fun ps=>ps.map (hP n)).map dH))]∧(∀ ps∈rs,ps.length≤75∧∀ q∈ps,SmW q)∧(rs.length≤75)∧(0 < n)∧(n≤100000000000000)∧k (.val (.bl (clB rs)))
theorem ok_isclothP (B:Blts mg)  {tMOST_CORNERS:Tok} (G_MOST_CORNERS:mg "MOST_CORNERS" = some (.int 24 tMOST_CORNERS))  {tMOST_RINGS:Tok} (G_MOST_RINGS:mg "MOST_RINGS" = some (.int 8 tMOST_RINGS))  (F:Fnd K mg "is_cloth" s_is_cloth ["rings"]) (c_sides_are_apart:Cal P w K mg base "sides_are_apart" ["rings"] 8 (Con K 1 F_apartP)) (c_rings_go_rightly:Cal P w K mg base "rings_go_rightly" ["rings"] 6 (Con K 1 F_rightP)) :
  Cal P w K mg base "is_cloth" ["rings"] 9 (Con K 1 F_isclothP):=by
 refine def3 (lv:=8) F sc_is_cloth rfl (fun f cdv A outer s H E hr=>⟨_,(s_cons (s_if (w_t (w_or (t_cmp (f:=fun i j=>decide (j < i)) op_gt (e_len (v3 0) (by rfl) B.len_) (e_glbI G_MOST_RINGS (by rfl)) (nomark _)) (w_or1 (t_cmp (f:=fun i j=>decide (j < i)) op_gt (e_sum (o_e (o_compG (ts:=["ring"]) (fr:=[]) (js:=[]) (i_list (v3 0)) (fun _ _ _ _=>(g_name (i:=0) (show List.Nodup (["ring"]:List Str) by decide +kernel) rfl (Or.inl rfl))) (fun _ _ _ _=>ifs_nil) (fun _ _ _ _=>(e_len (v3 0) (by rfl) B.len_)) ⟨rfl,by decide +kernel,rfl,by decide +kernel,fsub_of (List.forall_mem_nil _),fhas_b rfl,by walk_at "ffr", rfl⟩)) rfl (by rfl) B.sum_) (e_glbI G_MOST_CORNERS (by rfl)) (nomark _))))) (s_one (s_ret e_bl)) s_nil) (s_cons (s_for PassesOwn.never rfl (i_list (v3 0)) (g_name (i:=1) sc_is_cloth.nd rfl (Or.inl rfl)) (s_one (s_if (w_t (w_or (t_cmp (f:=fun i j=>decide (i < j)) op_lt (e_len (v3 1) (by rfl) B.len_) e_int (nomark _)) (w_or1 (t_cmp (f:=fun i j=>decide (i < j)) op_lt (e_lenSetX rfl (hr.units) (v3 1) (by rfl) B.len_ (by rfl) B.set_) (e_len (v3 1) (by rfl) B.len_) (nomark _))))) (s_one (s_ret e_bl)) s_nil))) (s_one (s_ret (e_and (e_call c_sides_are_apart hr (by rfl) (a_val (v3 0) a_nil)) (e_one (e_call c_rings_go_rightly hr (by rfl) (a_val (v3 0) a_nil)))))))),?_⟩)
 rintro as k hl ⟨rs,n,rfl,l1,l2,n0,n1,hk⟩
 refine at3 (r:=[.val (.lst ((rs.map fun ps=>ps.map (hP n)).map dH)),.no]) rfl ?_
 have big:75≤sizeLine:=by decide
 have no:clB rs=false→k (.val (.bl false)):=fun h=>by rw [h] at hk; exact hk
 refine mid4 (fun ρ=>ρ=[.val (.lst ((rs.map fun ps=>ps.map (hP n)).map dH)),.no]∧rs.length≤8∧(rs.map List.length).sum≤24) ?_ (fun N kk=>?_)
 rotate_left
 ·refine ⟨_,rfl,_,rfl,_,_,rfl,rfl,_,rfl,iteD (fun g=>?_) (fun g=>?_)⟩
  ·refine no ?_
   rw [List.length_map,List.length_map] at g
   unfold clB
   rw [decide_eq_false (show ¬ rs.length≤8 by lia)]
   simp
  rw [List.length_map,List.length_map] at g
  refine ⟨_,rfl,_,rfl,by rw [List.length_map,List.length_map]; lia,?_⟩
  rw [List.map_map]
  refine compG_map (f:=dH ∘ fun ps=>ps.map (hP n)) (h:=fun ps=>D.int (ps.length:Nat)) (rs:=rs) ?_ ?_
  ·intro ps hp k hk
   refine ⟨_,rfl,_,rfl,?_⟩
   rw [List.length_map,List.length_map]
   exact hk
  refine ⟨rs.map fun ps=>((ps.length:Nat):Int),by rw [List.map_map]; rfl,_,_,rfl,rfl,_,rfl,iteD (fun g2=>?_) (fun g2=>?_)⟩
  ·refine no ?_
   rw [sumN] at g2
   unfold clB
   rw [decide_eq_false (show ¬ (rs.map List.length).sum≤24 by lia)]
   simp
  rw [sumN] at g2
  exact kk _ ⟨by rw [List.map_map],by lia,by lia⟩
 rintro ρ ⟨rfl,b1,b2⟩
 generalize hL:D.lst ((rs.map fun ps=>ps.map (hP n)).map dH)=L
 refine mid4 (fun ρ=>∃ v1:Sl,ρ=[.val L,v1]∧∀ ps∈rs,3≤ps.length∧ps.Nodup) ?_ (fun N kk=>?_)
 ·rintro ρ ⟨v1,rfl,h⟩
  have eb:clB rs=(apB (idS rs) && rgB rs):=by
   unfold clB
   rw [decide_eq_true b1,decide_eq_true b2,show (rs.all fun ps=>decide (3≤ps.length) && decide ps.Nodup)=true from List.all_eq_true.mpr fun ps hp=>by rw [decide_eq_true (h ps hp).1,decide_eq_true (h ps hp).2]; rfl]
   rfl
  rw [eb] at hk
  have le:∀ ps∈rs,ps.length≤24:=fun ps hp=>Nat.le_trans (le_sum (List.mem_map.mpr ⟨ps,hp,rfl⟩)) b2
  refine ⟨_,rfl,rfl,rs,n,by rw [← hL]; rfl,fun ps hp=>⟨by have:=(h ps hp).1; lia,(l1 ps hp).1,(l1 ps hp).2⟩,l2,by rw [idS_len]; lia,n0,n1,?_⟩
  cases a:apB (idS rs) with
  | false=>rw [a] at hk; exact ⟨_,rfl,hk⟩
  | true =>
   rw [a] at hk
   exact ⟨_,rfl,_,rfl,rfl,rs,n,by rw [← hL]; rfl,fun ps hp=>⟨by have:=(h ps hp).1; lia,le ps hp,(l1 ps hp).2⟩,l2,n0,n1,hk⟩
 rw [List.map_map] at hL
 refine ⟨_,rfl,_,hL.symm,?_⟩
 refine forR_map (f:=dH ∘ fun ps=>ps.map (hP n)) (rs:=rs) (done:=[]) (fun pre ρ=>∃ v1:Sl,ρ=[.val L,v1]∧∀ ps∈pre,3≤ps.length∧ps.Nodup) ⟨_,rfl,fun _ h=>by cases h⟩ ?_ (fun ρ h=>?_)
 rotate_left
 ·rw [List.nil_append] at h
  exact kk _ h
 rintro pre ps rest ρ he ⟨v1,rfl,hp⟩ N2 kk2
 rw [List.nil_append] at he
 have mem:ps∈rs:=by rw [he]; simp
 have bad:¬ (3≤ps.length∧ps.Nodup)→k (.val (.bl false)):=fun h=>no (by
  unfold clB
  rw [show (rs.all fun ps=>decide (3≤ps.length) && decide ps.Nodup)=false from List.all_eq_false.mpr ⟨ps,mem,by rw [Bool.and_eq_true,decide_eq_true_iff,decide_eq_true_iff]; exact h⟩]
  simp)
 refine ⟨_,rfl,_,rfl,_,_,rfl,rfl,_,rfl,iteD (fun g=>?_) (fun g=>?_)⟩
 ·rw [List.length_map,List.length_map] at g
  exact bad fun z=>by lia
 rw [List.length_map,List.length_map] at g
 let ky:F2→List Int:=fun p=>[(hP n p).1,(hP n p).2.1,(hP n p).2.2]
 have kinj:∀ p q,ky p=ky q→p=q:=fun p q e=>by
  injection e with e1 e
  injection e with e2 e
  injection e with e3 e
  exact hP_inj n0 (Prod.ext e1 (Prod.ext e2 e3))
 have knd:(ps.map ky).Nodup↔ps.Nodup:=by
  unfold List.Nodup
  rw [List.pairwise_map]
  exact ⟨fun h=>h.imp fun a e=>a (by rw [e]),fun h=>h.imp fun a e=>a (kinj _ _ e)⟩
 refine ⟨_,rfl,ps.map ky,by rw [List.map_map]; show D.lst ((ps.map (hP n)).map dP)=_; rw [List.map_map]; rfl,by rw [List.length_map]; exact (l1 ps mem).1,fun ms nd hm=>?_⟩
 obtain ⟨le,ln⟩:=Tab.len_nodup nd hm
 rw [knd,List.length_map] at ln
 rw [List.length_map] at le
 refine ⟨_,rfl,_,rfl,_,_,rfl,rfl,_,rfl,iteD (fun g2=>?_) (fun g2=>?_)⟩
 ·rw [List.length_map,List.length_map] at g2
  exact bad fun z=>by have:=ln.mpr z.2; lia
 rw [List.length_map,List.length_map] at g2
 refine kk2 _ ⟨_,rfl,fun qs hq=>?_⟩
 rcases List.mem_append.mp hq with hq | hq
 ·exact hp qs hq
 rw [List.mem_singleton.mp hq]
 exact ⟨by lia,ln.mp (by lia)⟩
theorem sc_law:FnScope ["_law_script", "_law_cell_here", "_law_bag_here", "_law_rings", "_law_spot", "_law_handed_here", "_law_lent", "_law_found"] ["_law_script"] (defScope s_law):=⟨rfl,rfl,rfl,by decide +kernel,rfl,by decide +kernel,by decide +kernel⟩
theorem ok_law {P:Program} {w:World} {K:PySem.W.Frag} {mg:Str→Option Value} {base:Heap} {f:Addr} {fd:FuncData} (B:Blts mg) (F:Fun K "law" "law" s_law f fd) (c_law_cell:Cal P w K mg base "_law_cell" ["_law_script", "_law_k"] 1 (Con K 2 F_cell)) (c_law_bag:Cal P w K mg base "_law_bag" ["_law_cell_here"] 1 (Con K 1 F_bag)) (c_law_spoiled:Cal P w K mg base "_law_spoiled" ["_law_bag_here", "_law_rings"] 6 (Con K 2 F_spoil14)) (c_law_cloth:Cal P w K mg base "_law_cloth" ["_law_bag_here"] 6 (Con K 1 F_cloth14)) (c_law_draw:Cal P w K mg base "_law_draw" ["_law_bag_here", "_law_many"] 1 (Con K 2 (F_draw 400))) (c_law_handed:Cal P w K mg base "_law_handed" ["_law_rings", "_law_n"] 4 (Con K 2 F_handedC)) (c_law_bottom:Cal P w K mg base "_law_bottom" ["_law_bag_here"] 2 (Con K 1 F_bottomC)) (c_is_cloth:Cal P w K mg base "is_cloth" ["rings"] 9 (Con K 1 F_isclothP)) (c_law_is_cloth:Cal P w K mg base "_law_is_cloth" ["_law_rings"] 5 (Con K 1 F_isclL)) :
  FnOk P w K mg base CX0 10 f fd ["_law_script"] (spLaw K):=by
 refine FnOk.imp (sp:=Con K 1 F_law) ?_ (fun vs H Q E h=>law_con h)
 refine law_def3 (lv:=9) F sc_law rfl (fun cdv A outer s H E hr=>⟨_,(s_cons (s_for PassesOwn.never rfl (i_list (o_e (o_cat (o_e (o_lst (l_cons (e_call c_law_cell hr (by rfl) (a_val (v3 0) (a_val e_int a_nil))) l_nil))) (o_e (o_slice (v3 0) (p_some e_int) (p_some e_int)))))) (g_name (i:=1) sc_law.nd rfl (Or.inl rfl)) (s_cons (s_setN (i:=2) sc_law.nd rfl (Or.inl rfl) (n_call c_law_bag hr (by rfl) (a_val (v3 1) a_nil))) (s_cons (s_set (i:=3) sc_law.nd rfl (Or.inl rfl) (e_call c_law_spoiled hr (by rfl) (a_bag 2 (a_val (e_call c_law_cloth hr (by rfl) (a_bag 2 a_nil)) a_nil)))) (s_cons (s_set (i:=4) sc_law.nd rfl (Or.inl rfl) (e_call c_law_draw hr (by rfl) (a_bag 2 (a_val (e_add (e_len (v3 3) (by rfl) B.len_) e_int) a_nil)))) (s_cons (s_set (i:=3) sc_law.nd rfl (Or.inl rfl) (o_e (o_cat (o_e (o_slice (v3 3) (p_some (v3 4)) p_none)) (o_e (o_slice (v3 3) p_none (p_some (v3 4))))))) (s_cons (s_set (i:=5) sc_law.nd rfl (Or.inl rfl) (e_call c_law_handed hr (by rfl) (a_val (v3 3) (a_val (e_call c_law_bottom hr (by rfl) (a_bag 2 a_nil)) a_nil)))) (s_cons (s_thenFz 6 (s_compA (i:=6) sc_law.nd rfl rfl (ts:=["_law_ring"]) (fr:=[]) (js:=[]) (i_list (v3 5)) (fun _ _ _ _=>(g_name (i:=0) (show List.Nodup (["_law_ring"]:List Str) by decide +kernel) rfl (Or.inl rfl))) (fun _ _ _ _=>ifs_nil) (fun _ _ _ _=>(o_e (o_copy (v3 0) (by rfl) B.list_))) ⟨rfl,by decide +kernel,rfl,by decide +kernel,fsub_of (List.forall_mem_nil _),fhas_b rfl,by walk_at "ffr", rfl⟩)) (s_cons (s_set (i:=7) sc_law.nd rfl (Or.inl rfl) (e_call c_is_cloth hr (by rfl) (a_val (v3 6) a_nil))) (s_one (s_if (w_t (w_or (t_not (t_val (e_isi (T := "bool") (v3 7) (by rfl) B.isinstance_ (pe_bltn (v:=.ty "bool") (u:=.type "bool") (by rfl) B.bool_ (by decide +kernel) rfl) rfl rfl rfl))) (w_or (t_ne (hr.units) (v3 7) (e_call c_law_is_cloth hr (by rfl) (a_val (v3 3) a_nil)) (nomark _)) (w_or1 (t_ne (hr.units) (v3 6) (v3 5) (nomark _)))))) (s_one (s_ret e_bl)) s_nil)))))))))) (s_one (s_ret (e_isB (e_call c_is_cloth hr (by rfl) (a_val (o_e (o_lst l_nil)) a_nil)) e_bl (nomark _))))),?_⟩)
 rintro as k hl ⟨ns,rfl,h63,hk⟩
 refine at3 (r:=[.val (.scr ns),.no,.no,.no,.no,.no,.no,.no]) rfl ?_
 have big:1000≤sizeLine:=by decide
 walk_at "w"
 refine ⟨ns,0,rfl,by decide,fun z=>?_⟩
 walk_at "w"
 refine ⟨law_len h63,_,rfl,?_⟩
 refine forR_ints (fun ρ=>∃ v1 v2 v3 v4 v5 v6 v7,ρ=[.val (.scr ns),v1,v2,v3,v4,v5,v6,v7]) ⟨_,_,_,_,_,_,_,rfl⟩ law_items ?_ ?_
 rotate_left
 ·rintro ρ ⟨v1,v2,v3,v4,v5,v6,v7,rfl⟩
  have em:clB []=true:=by decide
  refine ⟨Nat.zero_le _,rfl,[],1,rfl,fun ps hp=>absurd hp List.not_mem_nil,by decide,by decide,by decide,?_⟩
  dsimp only [fzR]
  rw [em]
  exact ⟨_,_,rfl,rfl,hk⟩
 rintro c ρ ⟨v1,v2,v3,v4,v5,v6,v7,rfl⟩ N kk
 refine ⟨_,rfl,rfl,c,rfl,rfl,?_⟩
 refine ⟨rfl,rfl,rfl,rfl,fun rs0 l8 s24 h0=>?_⟩
 dsimp only [fzR]
 have r0:∀ ps∈rs0,ps.length≤24:=fun ps hp=>Nat.le_trans (le_sum (List.mem_map.mpr ⟨ps,hp,rfl⟩)) s24
 refine ⟨rfl,rs0,rfl,l8,fun ps hp=>⟨⟨(h0 ps hp).1,r0 ps hp⟩,(h0 ps hp).2⟩,fun rs1 l9 h1=>?_⟩
 dsimp only [fzR]
 refine at3 (r:=[.val (.scr ns),.val (.int c),.bag,.val (.lst (rs1.map dG)),v4,v5,v6,v7]) rfl ?_
 refine mid4 (fun ρ=>∃ i:Nat,i≤rs1.length∧ρ=[.val (.scr ns),.val (.int c),.bag,.val (.lst (rs1.map dG)),.val (.int i),v5,v6,v7]) ?_ (fun N2 kk2=>?_)
 rotate_left
 ·refine ⟨rfl,_,rfl,_,rfl,_,_,rfl,rfl,rfl,?_⟩
  rw [List.length_map]
  refine ⟨_,rfl,by lia,Nat.le_trans (bits_om (by lia) (by lia)) (by decide),fun i i0 i1=>?_⟩
  obtain ⟨i,rfl⟩:=Int.eq_ofNat_of_zero_le i0
  exact kk2 _ ⟨i,by lia,rfl⟩
 rintro ρ ⟨i,i1,rfl⟩
 refine mid4 (fun ρ=>∃ rs:RS,rs.length≤9∧(∀ ps∈rs,ps.length≤24∧∀ p∈ps,Sm p)∧ρ=[.val (.scr ns),.val (.int c),.bag,.val (.lst (rs.map dG)),.val (.int i),v5,v6,v7]) ?_ (fun N2 kk2=>?_)
 rotate_left
 ·walk_at "w"
  rw [cutL_take (by lia) (by rw [List.length_map]; lia),cutL_drop (by lia) (by rw [List.length_map]; lia),show ((i:Nat):Int).toNat=i by lia,← List.map_take,← List.map_drop]
  refine ⟨by rw [List.length_map,List.length_map,List.length_take,List.length_drop]; lia,?_⟩
  rw [← List.map_append]
  refine kk2 _ ⟨rs1.drop i ++ rs1.take i,by rw [List.length_append,List.length_take,List.length_drop]; lia,fun ps hp=>h1 ps ?_,rfl⟩
  rcases List.mem_append.mp hp with h | h
  ·exact List.mem_of_mem_drop h
  ·exact List.mem_of_mem_take h
 rintro ρ ⟨rs,l9,hs,rfl⟩
 refine mid4 (fun ρ=>∃ n:Int,0 < n∧n≤1000000000039∧ρ=[.val (.scr ns),.val (.int c),.bag,.val (.lst (rs.map dG)),.val (.int i),.val (.lst ((rs.map fun ps=>ps.map (hP n)).map dH)),v6,v7]) ?_ (fun N2 kk2=>?_)
 rotate_left
 ·refine ⟨_,rfl,rfl,rfl,rfl,fun n n0 n1=>?_⟩
  dsimp only [fzR]
  refine ⟨rfl,rs,n,rfl,n0,n1,by lia,fun ps hp=>by have:=(hs ps hp).1; lia,?_⟩
  exact kk2 _ ⟨n,n0,n1,rfl⟩
 rintro ρ ⟨n,n0,n1,rfl⟩
 refine mid4 (fun ρ=>ρ=[.val (.scr ns),.val (.int c),.bag,.val (.lst (rs.map dG)),.val (.int i),.val (.lst ((rs.map fun ps=>ps.map (hP n)).map dH)),.val (.lst ((rs.map fun ps=>ps.map (hP n)).map dH)),v7]) ?_ (fun N2 kk2=>?_)
 rotate_left
 ·refine ⟨_,rfl,_,rfl,by rw [List.length_map,List.length_map]; lia,compG_map (f:=dH) (h:=dH) (fun qs hq k hk=>⟨_,rfl,_,.inl rfl,hk⟩) ?_⟩
  exact ⟨_,rfl,kk2 _ rfl⟩
 rintro ρ rfl
 refine ⟨_,rfl,rfl,rs,n,rfl,fun ps hp=>⟨by have:=(hs ps hp).1; lia,fun q hm=>((hs ps hp).2 q hm).wd⟩,by lia,n0,by lia,?_⟩
 dsimp only [fzR]
 refine at3 (r:=[.val (.scr ns),.val (.int c),.bag,.val (.lst (rs.map dG)),.val (.int i),.val (.lst ((rs.map fun ps=>ps.map (hP n)).map dH)),.val (.lst ((rs.map fun ps=>ps.map (hP n)).map dH)),.val (.bl (clB rs))]) rfl ?_
 refine ⟨_,rfl,_,_,rfl,fun _=>rfl,_,rfl,?_⟩
 refine ⟨_,rfl,_,rfl,rfl,rs,rfl,by lia,fun ps hp=>⟨by have:=(hs ps hp).1; lia,(hs ps hp).2⟩,?_⟩
 dsimp only [fzR]
 rw [lc_is]
 refine ⟨.B,rfl,rfl,by decide,_,rfl,neIf (fun ne=>absurd rfl ne) (fun _=>?_)⟩
 have hr:=has_rings (rs.map fun ps=>ps.map (hP n))
 exact ⟨_,rfl,_,rfl,.L (.L (.T [.I,.I,.I])),hr,hr,by decide,_,rfl,neIf (fun ne=>absurd rfl ne) (fun _=>kk _ ⟨_,_,_,_,_,_,_,rfl⟩)⟩
theorem all_mk {l:PySem.W.OpenLaw} {w:World} {K:PySem.W.Frag} {h:Heap} {mg:Str→Option Value} {fa:Addr} (Y:Tab tabs K) (X:K.In h) (G:h.Ns mainGlobals mg) (hfa:mg "law" = some (.ref fa))
  : ∃ fd:FuncData,(∀ (s:Shared) (v:Value),BindsTo s fd ⟨[v],[]⟩ [("_law_script", v)])∧∀ base:Heap,K.In base→base.Ns mainGlobals mg→FnOk l.prog w K mg base CX0 10 fa fd ["_law_script"] (spLaw K):=by
 obtain ⟨⟨x_greatest_divisor,x_ratio,x_plus,x_times,x_slid,x_step_to,x_turned,x_crossed,x_hand_of,x_side,x_sides_of,x_ring_area,x_lies_on,x_touch,x_runs_back,x_clash,x_sides_are_apart,x_is_above,x_within,x_is_inside,x_rings_go_rightly,x_is_cloth,x_law_cell,x_law_bag,x_law_draw,x_law_gcd,x_law_point,x_law_cross,x_law_twice,x_law_touch,x_law_back,x_law_simple,x_law_within,x_law_apart,x_law_is_cloth,x_law_bottom,x_law_chain,x_law_strip,x_law_shape,x_law_slid,x_law_cloth,x_law_handed,x_law_spoiled,x_law,_⟩,⟨z_len,z_abs,z_int,z_bool,z_tuple,z_isinstance,z_range,z_all,z_sum,z_list,z_ValueError,z_zip,z_str,z_enumerate,z_set,z_max,z_min,z_sorted,z_dict,_⟩,⟨_⟩,⟨w_MOST_CORNERS,w_MOST_RINGS,_⟩⟩:=Y
 have g_greatest_divisor:=x_greatest_divisor.fnd (ps:=["one", "other"]) X G fun _ _ F=>F.binds (bn2 fun _ _ _ _ _ _ _ _=>rfl)
 have g_ratio:=x_ratio.fnd (ps:=["top", "bottom"]) X G fun _ _ F=>F.binds (bn2 fun _ _ _ _ _ _ _ _=>rfl)
 have g_plus:=x_plus.fnd (ps:=["one", "other"]) X G fun _ _ F=>F.binds (bn2 fun _ _ _ _ _ _ _ _=>rfl)
 have g_times:=x_times.fnd (ps:=["one", "other"]) X G fun _ _ F=>F.binds (bn2 fun _ _ _ _ _ _ _ _=>rfl)
 have g_slid:=x_slid.fnd (ps:=["p", "step"]) X G fun _ _ F=>F.binds (bn2 fun _ _ _ _ _ _ _ _=>rfl)
 have g_step_to:=x_step_to.fnd (ps:=["p", "q"]) X G fun _ _ F=>F.binds (bn2 fun _ _ _ _ _ _ _ _=>rfl)
 have g_turned:=x_turned.fnd (ps:=["p"]) X G fun _ _ F=>F.binds (bn1 fun _ _ _ _ _ _ _=>rfl)
 have g_crossed:=x_crossed.fnd (ps:=["one", "other"]) X G fun _ _ F=>F.binds (bn2 fun _ _ _ _ _ _ _ _=>rfl)
 have g_hand_of:=x_hand_of.fnd (ps:=["line", "p"]) X G fun _ _ F=>F.binds (bn2 fun _ _ _ _ _ _ _ _=>rfl)
 have g_side:=x_side.fnd (ps:=["p", "q", "r"]) X G fun _ _ F=>F.binds (bn3 fun _ _ _ _ _ _ _ _ _=>rfl)
 have g_sides_of:=x_sides_of.fnd (ps:=["ring"]) X G fun _ _ F=>F.binds (bn1 fun _ _ _ _ _ _ _=>rfl)
 have g_ring_area:=x_ring_area.fnd (ps:=["ring"]) X G fun _ _ F=>F.binds (bn1 fun _ _ _ _ _ _ _=>rfl)
 have g_lies_on:=x_lies_on.fnd (ps:=["p", "q", "r"]) X G fun _ _ F=>F.binds (bn3 fun _ _ _ _ _ _ _ _ _=>rfl)
 have g_touch:=x_touch.fnd (ps:=["p", "q", "r", "s"]) X G fun _ _ F=>F.binds (bn4 fun _ _ _ _ _ _ _ _ _ _=>rfl)
 have g_runs_back:=x_runs_back.fnd (ps:=["p", "q", "r"]) X G fun _ _ F=>F.binds (bn3 fun _ _ _ _ _ _ _ _ _=>rfl)
 have g_clash:=x_clash.fnd (ps:=["one", "other", "together"]) X G fun _ _ F=>F.binds (bn3 fun _ _ _ _ _ _ _ _ _=>rfl)
 have g_sides_are_apart:=x_sides_are_apart.fnd (ps:=["rings"]) X G fun _ _ F=>F.binds (bn1 fun _ _ _ _ _ _ _=>rfl)
 have g_is_above:=x_is_above.fnd (ps:=["p", "q"]) X G fun _ _ F=>F.binds (bn2 fun _ _ _ _ _ _ _ _=>rfl)
 have g_within:=x_within.fnd (ps:=["ring", "p"]) X G fun _ _ F=>F.binds (bn2 fun _ _ _ _ _ _ _ _=>rfl)
 have g_is_inside:=x_is_inside.fnd (ps:=["rings", "p"]) X G fun _ _ F=>F.binds (bn2 fun _ _ _ _ _ _ _ _=>rfl)
 have g_rings_go_rightly:=x_rings_go_rightly.fnd (ps:=["rings"]) X G fun _ _ F=>F.binds (bn1 fun _ _ _ _ _ _ _=>rfl)
 have g_is_cloth:=x_is_cloth.fnd (ps:=["rings"]) X G fun _ _ F=>F.binds (bn1 fun _ _ _ _ _ _ _=>rfl)
 have g_law_cell:=x_law_cell.fnd (ps:=["_law_script", "_law_k"]) X G fun _ _ F=>F.binds (bn2 fun _ _ _ _ _ _ _ _=>rfl)
 have g_law_bag:=x_law_bag.fnd (ps:=["_law_cell_here"]) X G fun _ _ F=>F.binds (bn1 fun _ _ _ _ _ _ _=>rfl)
 have g_law_draw:=x_law_draw.fnd (ps:=["_law_bag_here", "_law_many"]) X G fun _ _ F=>F.binds (bn2 fun _ _ _ _ _ _ _ _=>rfl)
 have g_law_gcd:=x_law_gcd.fnd (ps:=["_law_one", "_law_two"]) X G fun _ _ F=>F.binds (bn2 fun _ _ _ _ _ _ _ _=>rfl)
 have g_law_point:=x_law_point.fnd (ps:=["_law_a", "_law_b", "_law_n"]) X G fun _ _ F=>F.binds (bn3 fun _ _ _ _ _ _ _ _ _=>rfl)
 have g_law_cross:=x_law_cross.fnd (ps:=["_law_o", "_law_p", "_law_q"]) X G fun _ _ F=>F.binds (bn3 fun _ _ _ _ _ _ _ _ _=>rfl)
 have g_law_twice:=x_law_twice.fnd (ps:=["_law_ring"]) X G fun _ _ F=>F.binds (bn1 fun _ _ _ _ _ _ _=>rfl)
 have g_law_touch:=x_law_touch.fnd (ps:=["_law_p", "_law_q", "_law_r", "_law_s"]) X G fun _ _ F=>F.binds (bn4 fun _ _ _ _ _ _ _ _ _ _=>rfl)
 have g_law_back:=x_law_back.fnd (ps:=["_law_p", "_law_q", "_law_r"]) X G fun _ _ F=>F.binds (bn3 fun _ _ _ _ _ _ _ _ _=>rfl)
 have g_law_simple:=x_law_simple.fnd (ps:=["_law_ring"]) X G fun _ _ F=>F.binds (bn1 fun _ _ _ _ _ _ _=>rfl)
 have g_law_within:=x_law_within.fnd (ps:=["_law_ring", "_law_p"]) X G fun _ _ F=>F.binds (bn2 fun _ _ _ _ _ _ _ _=>rfl)
 have g_law_apart:=x_law_apart.fnd (ps:=["_law_one", "_law_two"]) X G fun _ _ F=>F.binds (bn2 fun _ _ _ _ _ _ _ _=>rfl)
 have g_law_is_cloth:=x_law_is_cloth.fnd (ps:=["_law_rings"]) X G fun _ _ F=>F.binds (bn1 fun _ _ _ _ _ _ _=>rfl)
 have g_law_bottom:=x_law_bottom.fnd (ps:=["_law_bag_here"]) X G fun _ _ F=>F.binds (bn1 fun _ _ _ _ _ _ _=>rfl)
 have g_law_chain:=x_law_chain.fnd (ps:=["_law_bag_here", "_law_wide", "_law_most"]) X G fun _ _ F=>F.binds (bn3 fun _ _ _ _ _ _ _ _ _=>rfl)
 have g_law_strip:=x_law_strip.fnd (ps:=["_law_bag_here", "_law_wide", "_law_most"]) X G fun _ _ F=>F.binds (bn3 fun _ _ _ _ _ _ _ _ _=>rfl)
 have g_law_shape:=x_law_shape.fnd (ps:=["_law_bag_here", "_law_most"]) X G fun _ _ F=>F.binds (bn2 fun _ _ _ _ _ _ _ _=>rfl)
 have g_law_slid:=x_law_slid.fnd (ps:=["_law_ring", "_law_right", "_law_up"]) X G fun _ _ F=>F.binds (bn3 fun _ _ _ _ _ _ _ _ _=>rfl)
 have g_law_cloth:=x_law_cloth.fnd (ps:=["_law_bag_here"]) X G fun _ _ F=>F.binds (bn1 fun _ _ _ _ _ _ _=>rfl)
 have g_law_handed:=x_law_handed.fnd (ps:=["_law_rings", "_law_n"]) X G fun _ _ F=>F.binds (bn2 fun _ _ _ _ _ _ _ _=>rfl)
 have g_law_spoiled:=x_law_spoiled.fnd (ps:=["_law_bag_here", "_law_rings"]) X G fun _ _ F=>F.binds (bn2 fun _ _ _ _ _ _ _ _=>rfl)
 obtain ⟨f0,fd0,m0,F0⟩:=x_law
 have e:=hfa.symm.trans (PySem.W.mg_of X G m0)
 cases e
 have B:Blts mg:=⟨PySem.W.mg_none_of X G z_len,PySem.W.mg_none_of X G z_abs,PySem.W.mg_none_of X G z_int,PySem.W.mg_none_of X G z_bool,PySem.W.mg_none_of X G z_tuple,PySem.W.mg_none_of X G z_isinstance,PySem.W.mg_none_of X G z_range,PySem.W.mg_none_of X G z_all,PySem.W.mg_none_of X G z_sum,PySem.W.mg_none_of X G z_list,PySem.W.mg_none_of X G z_ValueError,PySem.W.mg_none_of X G z_zip,PySem.W.mg_none_of X G z_str,PySem.W.mg_none_of X G z_enumerate,PySem.W.mg_none_of X G z_set,PySem.W.mg_none_of X G z_max,PySem.W.mg_none_of X G z_min,PySem.W.mg_none_of X G z_sorted,PySem.W.mg_none_of X G z_dict⟩
 obtain ⟨_,G_MOST_CORNERS⟩:=w_MOST_CORNERS.int X G
 obtain ⟨_,G_MOST_RINGS⟩:=w_MOST_RINGS.int X G
 refine ⟨fd0,fun s v=>?_,fun base _ _=>?_⟩
 ·obtain ⟨_,_,_,_,_,_,_,_,_,rfl,_⟩:=F0.ex
  exact .of_eq rfl
 have q_law_cell:=ok_law_cell (P:=l.prog) (w:=w) (base:=base) B  g_law_cell
 have q_bagA:=ok_bagA (P:=l.prog) (w:=w) (base:=base) B  g_law_bag
 have q_drawA:=ok_drawA (P:=l.prog) (w:=w) (base:=base) B  g_law_draw
 have q_law_gcd:=ok_law_gcd (P:=l.prog) (w:=w) (base:=base) B  g_law_gcd
 have q_law_point:=ok_law_point (P:=l.prog) (w:=w) (base:=base) B  g_law_point q_law_gcd
 have q_crossW:=ok_crossW (P:=l.prog) (w:=w) (base:=base) B  g_law_cross
 have q_twiceC:=ok_twiceC (P:=l.prog) (w:=w) (base:=base) B  g_law_twice
 have q_touchX:=ok_touchX (P:=l.prog) (w:=w) (base:=base) B  g_law_touch q_crossW
 have q_backX:=ok_backX (P:=l.prog) (w:=w) (base:=base) B  g_law_back q_crossW
 have q_simpX:=ok_simpX (P:=l.prog) (w:=w) (base:=base) B  g_law_simple q_backX q_touchX
 have q_lwC:=ok_lwC (P:=l.prog) (w:=w) (base:=base) B  g_law_within q_crossW
 have q_aptX:=ok_aptX (P:=l.prog) (w:=w) (base:=base) B  g_law_apart q_touchX
 have q_isclL:=ok_isclL (P:=l.prog) (w:=w) (base:=base) B  g_law_is_cloth q_simpX q_aptX q_lwC q_twiceC
 have q_bottomC:=ok_bottomC (P:=l.prog) (w:=w) (base:=base) B  g_law_bottom q_drawA
 have q_chainC:=ok_chainC (P:=l.prog) (w:=w) (base:=base) B  g_law_chain q_drawA
 have q_stripC:=ok_stripC (P:=l.prog) (w:=w) (base:=base) B  g_law_strip q_chainC q_drawA
 have q_shape14:=ok_shape14 (P:=l.prog) (w:=w) (base:=base) B  g_law_shape q_drawA q_stripC q_simpX q_twiceC
 have q_slidL:=ok_slidL (P:=l.prog) (w:=w) (base:=base) B  g_law_slid
 have q_cloth14:=ok_cloth14 (P:=l.prog) (w:=w) (base:=base) B  g_law_cloth q_drawA q_shape14 q_slidL q_stripC
 have q_handedC:=ok_handedC (P:=l.prog) (w:=w) (base:=base) B  g_law_handed q_law_point
 have q_spoil14:=ok_spoil14 (P:=l.prog) (w:=w) (base:=base) B  g_law_spoiled q_drawA q_slidL q_shape14
 have q_greatest_divisor:=ok_greatest_divisor (P:=l.prog) (w:=w) (base:=base) B  g_greatest_divisor
 have q_ratio:=ok_ratio (P:=l.prog) (w:=w) (base:=base) B  g_ratio q_greatest_divisor
 have q_plus:=ok_plus (P:=l.prog) (w:=w) (base:=base) B  g_plus q_greatest_divisor
 have q_times:=ok_times (P:=l.prog) (w:=w) (base:=base) B  g_times q_greatest_divisor
 have q_crossed:=ok_crossed (P:=l.prog) (w:=w) (base:=base) B  g_crossed
 have q_hand_of:=ok_hand_of (P:=l.prog) (w:=w) (base:=base) B  g_hand_of
 have q_side:=ok_side (P:=l.prog) (w:=w) (base:=base) B  g_side q_hand_of q_crossed
 have q_turned:=ok_turned (P:=l.prog) (w:=w) (base:=base) B  g_turned
 have q_slid:=ok_slid (P:=l.prog) (w:=w) (base:=base) B  g_slid q_greatest_divisor
 have q_step_to:=ok_step_to (P:=l.prog) (w:=w) (base:=base) B  g_step_to q_slid q_turned
 have q_is_above:=ok_is_above (P:=l.prog) (w:=w) (base:=base) B  g_is_above
 have q_lies_onC:=ok_lies_onC (P:=l.prog) (w:=w) (base:=base) B  g_lies_on q_side q_step_to
 have q_touchP:=ok_touchP (P:=l.prog) (w:=w) (base:=base) B  g_touch q_lies_onC q_side
 have q_runsP:=ok_runsP (P:=l.prog) (w:=w) (base:=base) B  g_runs_back q_lies_onC
 have q_clashP:=ok_clashP (P:=l.prog) (w:=w) (base:=base) B  g_clash q_runsP q_touchP
 have q_sidesP:=ok_sidesP (P:=l.prog) (w:=w) (base:=base) B  g_sides_of
 have q_apartP:=ok_apartP (P:=l.prog) (w:=w) (base:=base) B  g_sides_are_apart q_sidesP q_clashP
 have q_withinC:=ok_withinC (P:=l.prog) (w:=w) (base:=base) B  g_within q_sidesP q_is_above q_side
 have q_insideC:=ok_insideC (P:=l.prog) (w:=w) (base:=base) B  g_is_inside q_withinC
 have q_ring_areaW:=ok_ring_areaW (P:=l.prog) (w:=w) (base:=base) B  g_ring_area q_sidesP q_plus q_ratio q_crossed q_times
 have q_rightP:=ok_rightP (P:=l.prog) (w:=w) (base:=base) B  g_rings_go_rightly q_insideC q_ring_areaW
 have q_isclothP:=ok_isclothP (P:=l.prog) (w:=w) (base:=base) B G_MOST_CORNERS G_MOST_RINGS g_is_cloth q_apartP q_rightP
 exact ok_law B F0 q_law_cell q_bagA q_spoil14 q_cloth14 q_drawA q_handedC q_bottomC q_isclothP q_isclL
end Cut
open PySem PySem.W PyProof.Rows
set_option maxRecDepth 100000 in
set_option maxHeartbeats 0 in
theorem PySem.Challenge.cw_slidecut_k14_what_is_a_cloth_holds : PySem.Challenge.rw_slidecut_k14_what_is_a_cloth.Holds := by
 refine holds_law Cut.said fun said => holds_open (XP := XL PySem.Challenge.pw_slidecut_k14_what_is_a_cloth []) (YP := L3.saysH Cut.tabs) Cut.left (L3.ofH Cut.tabs) (L3.keepsH Cut.tabs) (fun s e => xl_of s (Bool.and_eq_true_iff.mp e).1) XL.keeps (by rfl) (by rfl) (by rfl) (fun s e => recFacts_of (Bool.and_eq_true_iff.mp e).2) (by rfl) said (by decide +kernel) ⟨rfl, rfl, rfl, rfl, rfl, by decide +kernel⟩ ?hw ?hc
 case hw => w_witness2
 case hc => exact L3.walkH (k := 10) rfl rfl ⟨rfl, by decide, by decide⟩ fun w K mg fa h Y X G hmg => Cut.all_mk Y X G hmg
#print axioms PySem.Challenge.cw_slidecut_k14_what_is_a_cloth_holds