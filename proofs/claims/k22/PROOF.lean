import PyProof.Rows.All
import Wide.All
import OpenK.AllK
import Wide.FinOn
import Lean
import PyProof.EqAt
import PyProof.EqKinds
import PyProof.TupleCall
import PyProof.AttrMissHeap
import PyProof.Cells
import PyProof.AutoListH
import PyProof.AutoSeq1
import PyProof.SeqI3
import PyProof.Rows.SortWalk
import KE.KSortTup
import PyProof.DictItemsLoops
import PyProof.Rows.Range3
import PyProof.DictRoadsH
import PyProof.DictKinds
import PyProof.DictIter
import PyProof.DictWalks
import PyProof.NeKinds
import PyProof.ExcBaseAll.ValueError
import PyProof.ZipIter
import PyProof.ListCopy
import PyProof.CollectWalk
import KE.KIntText
import KE.KxPart
import PyProof.SliceStr2
import PyProof.Rows.StrFirst
import PyProof.StrLawsFirst
import KE.KxText
import PyProof.StrLawsIn
import PyProof.StrBlockI
import PyProof.Rows.StrNews
import PyProof.EnumMake
import PyProof.EnumFor
import PyProof.EnumStmt
import PyProof.Rows.SetFrom
import PyProof.MinMaxWalk
import PyProof.WalkInts
import PyProof.FactsAll.tuple_1
import PyProof.FactsAll.tuple_2
import PySem.Challenge.RW_slidecut_k22_whole_cuts_keep_marks
set_option Elab.async false
set_option linter.all false
namespace L3
open PySem PySem.W
def nsH (h:Heap) (name:Str):Option (Option Value):=match h.get? mainGlobals with
 | some ⟨_,_,.dict es _,_⟩=>(match es.toList.find? (·.key.isStr name) with
   | some e=>some (some e.val)
   | none=>if es.toList.any (·.refKey) then none else some none)
 | _=>none
def cdH (h:Heap) (cd:Value) (q:Str):Bool:=match cd with
 | .ref c=>(match h.get? c with
   | some ⟨_,_,.fields vs,_⟩=>(match vs.toList with | _ :: .str n _ :: _=>n == q | _=>false)
   | _=>false)
 | _=>false
def seeF (h:Heap) (x:Str):Option (Str×Str×Arguments×FuncBody×Scope×Addr×List (Str×Addr)×Value×Addr×Bool):=match nsH h x with
 | some (some (.ref f))=>(match h.get? f with
  | some ⟨_,_,.func fd,_⟩=>some (fd.name,fd.qualname,fd.params,fd.body,fd.scope,fd.globals,fd.closure,fd.defaults,fd.builtins,cdH h fd.code x)
  | _=>none)
 | _=>none
def dueF (x:Str) (st:Stmt):Option (Str×Str×Arguments×FuncBody×Scope×Addr×List (Str×Addr)×Value×Addr×Bool):=match st with
 | .FunctionDef _ a b _ _ _ sc _ _ _=>some (x,x,a,.stmts b,sc,mainGlobals,[],.none,builtinsNs,true)
 | _=>some (x,x,⟨[],[],none,[],[],none,[]⟩,.stmts [],{ kind:=.function,names:=[],isGenerator:=false,isCoroutine:=false },mainGlobals,[],.none,builtinsNs,true)
def seeT (h:Heap) (x:Str):Option (Str×Int×Int):=match nsH h x with
 | some (some (.ref p))=>(match h.get? p with
  | some ⟨.type "tuple", _,.seq its _,_⟩=>(match its.toList with | [.int i _,.int j _]=>some (x,i,j) | _=>none)
  | _=>none)
 | _=>none
def seeC (h:Heap) (x:Str):Option (Str×(Int ⊕ Str)):=match nsH h x with
 | some (some (.int i _))=>some (x,.inl i)
 | some (some (.str s _))=>some (x,.inr s)
 | _=>none
abbrev nF (x:Str) (s:Stmt):Str×Stmt:=(x,s)
structure Tabs where
 fs:List (Str×Stmt)
 bs:List Str
 ts:List (Str×Int×Int)
 cs:List (Str×(Int ⊕ Str))
abbrev Seen:Type:=List (Option (Str×Str×Arguments×FuncBody×Scope×Addr×List (Str×Addr)×Value×Addr×Bool))×List (Option (Option Value))×List (Option (Str×Int×Int))×List (Option (Str×(Int ⊕ Str)))
def obsH (t:Tabs) (s:Shared):Seen:=(t.fs.map fun p=>seeF s.heap p.1,t.bs.map fun b=>nsH s.heap b,t.ts.map fun p=>seeT s.heap p.1,t.cs.map fun p=>seeC s.heap p.1)
def valH (t:Tabs) (_:World):Seen:=(t.fs.map fun p=>dueF p.1 p.2,t.bs.map fun _=>some none,t.ts.map fun p=>some p,t.cs.map fun p=>some p)
theorem ZiA {α β γ:Type} {E:Option α} {F:α→β×γ} {a:β×γ} (h1:E.map (fun s=>(F s).1)=some a.1) (h2:E.map (fun s=>(F s).2)=some a.2):E.map F=some a:=by
 cases E with
 | none=>cases h1
 | some x =>
  have e1:=Option.some.inj h1
  have e2:=Option.some.inj h2
  exact congrArg some (Prod.ext e1 e2)
theorem ZlQ {p q:Program} {loose:List Str} {Xt:Shared→Bool} {α:Type} {Yf:Shared→α} {Ya:World→α} {N:Nat} (h1:∀ w:World,(openEnds treeTable p w N).map (fun s=>(openSeen q loose (importedModules p.main.body) Xt true s).1)=some (openGood q loose).1)
  (h2:∀ w:World,(openEnds treeTable p w N).map (fun s=>(openSeen q loose (importedModules p.main.body) Xt true s).2)=some (openGood q loose).2) (h3:∀ w:World,(openEnds treeTable p w N).map Yf=some (Ya w)):LeftO p q loose Xt Yf Ya N :=
 fun w=>ZiA (F:=fun s=>(openSeen q loose (importedModules p.main.body) Xt true s,Yf s)) (a:=(openGood q loose,Ya w)) (ZiA (h1 w) (h2 w)) (h3 w)
end L3
namespace Cut
open PySem L3
def top (i:Nat):Stmt:=PySem.Challenge.pw_slidecut_k22_whole_cuts_keep_marks.main.body.getD i (.Pass ⟨0,0,0,0⟩)
abbrev ZaN:Stmt:=top 4
abbrev Zfi:Stmt:=top 5
abbrev ZhB:Stmt:=top 6
abbrev ZfL:Stmt:=top 7
abbrev Zi4:Stmt:=top 9
abbrev Zdh:Stmt:=top 10
abbrev Zd5:Stmt:=top 11
abbrev ZcL:Stmt:=top 12
abbrev Zck:Stmt:=top 14
abbrev ZbK:Stmt:=top 15
abbrev ZhV:Stmt:=top 16
abbrev Zet:Stmt:=top 18
abbrev Zfd:Stmt:=top 19
abbrev Zc0:Stmt:=top 20
abbrev Zb7:Stmt:=top 22
abbrev ZcV:Stmt:=top 23
abbrev Zcb:Stmt:=top 24
abbrev Zbk:Stmt:=top 25
abbrev ZcH:Stmt:=top 26
abbrev Zci:Stmt:=top 27
abbrev Zcl:Stmt:=top 28
abbrev Zcj:Stmt:=top 29
abbrev ZcI:Stmt:=top 30
abbrev Zcf:Stmt:=top 31
abbrev ZbD:Stmt:=top 32
abbrev Zb5:Stmt:=top 33
abbrev ZbE:Stmt:=top 34
abbrev ZbM:Stmt:=top 35
abbrev ZbI:Stmt:=top 36
abbrev ZbG:Stmt:=top 37
abbrev Zmd:Stmt:=top 38
def tabs:Tabs:=⟨[nF "greatest_divisor" ZaN,nF "ratio" Zfi,nF "plus" ZhB,nF "times" ZfL,nF "slid" Zi4,nF "step_to" Zdh,nF "turned" Zd5,nF "crossed" ZcL,nF "sides_of" Zck,nF "ring_area" ZbK,nF "area" ZhV,nF "way_of" Zet,nF "marks" Zfd,nF "forbids" Zc0,nF "_law_cell" Zb7,nF "_law_bag" ZcV,nF "_law_draw" Zcb,nF "_law_measure" Zbk,nF "_law_low" ZcH,nF "_law_spot" Zci,nF "_law_star" Zcl,nF "_law_told" Zcj,nF "_law_way" ZcI,nF "_law_sums" Zcf,nF "_law_marks" ZbD,nF "_law_area" Zb5,nF "_law_parts" ZbE,nF "_law_apart" ZbM,nF "_law_added" ZbI,nF "_law_right" ZbG,nF "law" Zmd],["len", "abs", "int", "bool", "tuple", "isinstance", "range", "all", "sum", "list", "ValueError", "zip", "str", "enumerate", "set", "max", "min", "sorted", "dict"],[],[]⟩
open PySem.W in
set_option maxRecDepth 100000 in
set_option maxHeartbeats 0 in
theorem said:(PySem.Challenge.rw_slidecut_k22_whole_cuts_keep_marks).wellSaid=true:=by kernel_rfl
open PySem.W in
set_option maxRecDepth 100000 in
set_option maxHeartbeats 0 in
theorem left1:∀ w:World,(openEnds treeTable (PySem.Challenge.rw_slidecut_k22_whole_cuts_keep_marks).row.prog w 20000).map (fun s=>(openSeen PySem.Challenge.pw_slidecut_k22_whole_cuts_keep_marks [] (importedModules (PySem.Challenge.rw_slidecut_k22_whole_cuts_keep_marks).row.prog.main.body) (fun s=>xlAt PySem.Challenge.pw_slidecut_k22_whole_cuts_keep_marks [] s && recOk (RowW.records (OpenRow.toRowW (PySem.Challenge.rw_slidecut_k22_whole_cuts_keep_marks).row)) s) true s).1)=some (openGood PySem.Challenge.pw_slidecut_k22_whole_cuts_keep_marks []).1:=fun w=>by kernel_rfl
open PySem.W in
set_option maxRecDepth 100000 in
set_option maxHeartbeats 0 in
theorem left2:∀ w:World,(openEnds treeTable (PySem.Challenge.rw_slidecut_k22_whole_cuts_keep_marks).row.prog w 20000).map (fun s=>(openSeen PySem.Challenge.pw_slidecut_k22_whole_cuts_keep_marks [] (importedModules (PySem.Challenge.rw_slidecut_k22_whole_cuts_keep_marks).row.prog.main.body) (fun s=>xlAt PySem.Challenge.pw_slidecut_k22_whole_cuts_keep_marks [] s && recOk (RowW.records (OpenRow.toRowW (PySem.Challenge.rw_slidecut_k22_whole_cuts_keep_marks).row)) s) true s).2)=some (openGood PySem.Challenge.pw_slidecut_k22_whole_cuts_keep_marks []).2:=fun w=>by kernel_rfl
open PySem.W in
set_option maxRecDepth 100000 in
set_option maxHeartbeats 0 in
theorem left3:∀ w:World,(openEnds treeTable (PySem.Challenge.rw_slidecut_k22_whole_cuts_keep_marks).row.prog w 20000).map (obsH tabs)=some (valH tabs w):=fun w=>by kernel_rfl
open PySem.W in
set_option maxRecDepth 100000 in
set_option maxHeartbeats 0 in
theorem left:LeftO (PySem.Challenge.rw_slidecut_k22_whole_cuts_keep_marks).row.prog PySem.Challenge.pw_slidecut_k22_whole_cuts_keep_marks [] (fun s=>xlAt PySem.Challenge.pw_slidecut_k22_whole_cuts_keep_marks [] s && recOk (RowW.records (OpenRow.toRowW (PySem.Challenge.rw_slidecut_k22_whole_cuts_keep_marks).row)) s) (obsH tabs) (valH tabs) 20000:=ZlQ (p:=(PySem.Challenge.rw_slidecut_k22_whole_cuts_keep_marks).row.prog) (q:=PySem.Challenge.pw_slidecut_k22_whole_cuts_keep_marks) (loose:=[]) (Xt:=(fun s=>xlAt PySem.Challenge.pw_slidecut_k22_whole_cuts_keep_marks [] s && recOk (RowW.records (OpenRow.toRowW (PySem.Challenge.rw_slidecut_k22_whole_cuts_keep_marks).row)) s)) (Yf:=obsH tabs) (Ya:=valH tabs) (N:=20000) left1 left2 left3
end Cut
set_option Elab.async false
set_option linter.all false
set_option maxRecDepth 100000
namespace L2
open PySem PySem.Spec PyProof.Rows
abbrev Key:=Sum Int Str
def keyIs:Key→Value→Bool
 | .inl k,v=>Value.isInt k v
 | .inr x,v=>Value.isStrOf x v
def keyH (w:World):Key→Int
 | .inl k=>hashInt k
 | .inr x=>hashStr w x
theorem ZaB:∀ {k:Key} {v:Value},keyIs k v=true→(∃ i t,k=Sum.inl i∧v=Value.int i t)∨(∃ x t,k=Sum.inr x∧v=Value.str x t)
 | .inl i,v,h=>by
  obtain ⟨t,e⟩:=Value.isInt_shape (k:=i) (v:=v) h
  exact .inl ⟨i,t,rfl,e⟩
 | .inr x,v,h=>by
  obtain ⟨t,e⟩:=Value.isStrOf_shape (x:=x) (v:=v) h
  exact .inr ⟨x,t,rfl,e⟩
theorem key_ll (a b:Int):decide ((Sum.inl a:Key)=Sum.inl b)=(a == b):=by
 by_cases e:a=b
 ·subst e; simp
 ·have h:¬ (Sum.inl a:Key)=Sum.inl b:=fun q=>e (Sum.inl.inj q)
  rw [decide_eq_false h]
  exact (beq_eq_false_iff_ne.mpr e).symm
theorem key_rr (a b:Str):decide ((Sum.inr a:Key)=Sum.inr b)=decide (a=b):=by
 by_cases e:a=b
 ·subst e; simp
 ·have h:¬ (Sum.inr a:Key)=Sum.inr b:=fun q=>e (Sum.inr.inj q)
  rw [decide_eq_false h,decide_eq_false e]
theorem key_lr (a:Int) (b:Str):decide ((Sum.inl a:Key)=Sum.inr b)=false:=decide_eq_false (fun q=>nomatch q)
theorem key_rl (a:Str) (b:Int):decide ((Sum.inr a:Key)=Sum.inl b)=false:=decide_eq_false (fun q=>nomatch q)
def ZhH (prog:Program) (w:World):PySem.KeyKind prog w Key where
 is:=keyIs
 hash:=keyH w
 inj:=fun v a b ha hb=>by
  rcases ZaB ha with ⟨i,t,rfl,rfl⟩ | ⟨x,t,rfl,rfl⟩
  ·rcases ZaB hb with ⟨j,u,rfl,e⟩ | ⟨y,u,rfl,e⟩
   ·injection e with e1 _; rw [e1]
   ·exact nomatch e
  ·rcases ZaB hb with ⟨j,u,rfl,e⟩ | ⟨y,u,rfl,e⟩
   ·exact nomatch e
   ·injection e with e1 _; rw [e1]
 byValue:=fun k v h=>by
  rcases ZaB h with ⟨i,t,rfl,rfl⟩ | ⟨x,t,rfl,rfl⟩ <;> rfl
 pyHash:=fun hv h=>by
  rcases ZaB hv with ⟨i,t,rfl,rfl⟩ | ⟨x,t,rfl,rfl⟩
  ·exact wpAny_pyHash_int h
  ·exact wpAny_pyHash_str h
 eqBool:=fun hu hv h=>by
  rcases ZaB hu with ⟨i,t,rfl,rfl⟩ | ⟨x,t,rfl,rfl⟩
  ·rcases ZaB hv with ⟨j,u,rfl,rfl⟩ | ⟨y,u,rfl,rfl⟩
   ·rw [key_ll] at h; exact wpAny_eqBool_int h
   ·rw [key_lr] at h; exact SeqAt.EqAt.int_str i t y u _ _ _ _ h
  ·rcases ZaB hv with ⟨j,u,rfl,rfl⟩ | ⟨y,u,rfl,rfl⟩
   ·rw [key_rl] at h; exact SeqAt.EqAt.str_int x t j u _ _ _ _ h
   ·rw [key_rr] at h; exact wpAny_eqBool_str h
 «strs» := fun k x t v h=>by
  rcases ZaB h with ⟨i,u,rfl,e⟩ | ⟨y,u,rfl,e⟩
  ·exact nomatch e
  ·injection e with e1 _
   subst e1
   cases v <;> rfl
inductive V where
 | non | bl (b:Bool) | int (i:Int) | str (x:Str) | byt (b:Array UInt8) | flt (b:UInt64) | ref (a:Addr) | ty (n:String)
 deriving DecidableEq
def RelV:V→Value→Prop
 | .non,u=>u=Value.none
 | .bl b,u=>u=Value.bool b
 | .int i,u=>∃ t,u=Value.int i t
 | .str x,u=>∃ t,u=Value.str x t
 | .byt b,u=>∃ t,u=Value.bytes b t
 | .flt b,u=>∃ t,u=Value.float b t
 | .ref a,u=>u=Value.ref a
 | .ty n,u=>u=Value.type n
abbrev Vals:List V→List Value→Prop:=Paired RelV
theorem Vals.length {xs:List V} {us:List Value} (r:Vals xs us):xs.length=us.length:=Paired.length r
theorem Vals.get:∀ {xs:List V} {us:List Value} {i:Nat} {x:V},Vals xs us→xs[i]?=some x→∃ u,us[i]?=some u∧RelV x u
 | _,_,_,_,.nil,e=>by simp at e
 | _,_,0,_,.cons r _,e=>by simp at e; subst e; exact ⟨_,rfl,r⟩
 | _,_,i + 1,x,.cons _ t,e=>by
  obtain ⟨u,h1,h2⟩:=Vals.get (i:=i) (x:=x) t (by simpa using e)
  exact ⟨u,by simpa using h1,h2⟩
theorem Vals.set {x:V} {u:Value} (r:RelV x u):∀ {xs:List V} {us:List Value} (i:Nat),Vals xs us→Vals (xs.set i x) (us.set i u)
 | _,_,_,.nil=>.nil
 | _,_,0,.cons _ t=>.cons r t
 | _,_,i + 1,.cons q t=>.cons q (Vals.set r i t)
theorem Vals.append:∀ {xs ys:List V} {us ws:List Value},Vals xs us→Vals ys ws→Vals (xs ++ ys) (us ++ ws)
 | _,_,_,_,.nil,s=>s
 | _,_,_,_,.cons r t,s=>.cons r (Vals.append t s)
theorem Vals.take:∀ {xs:List V} {us:List Value} (n:Nat),Vals xs us→Vals (xs.take n) (us.take n)
 | _,_,0,_=>.nil
 | _,_,_ + 1,.nil=>.nil
 | _,_,n + 1,.cons r t=>.cons r (Vals.take n t)
theorem Vals.drop:∀ {xs:List V} {us:List Value} (n:Nat),Vals xs us→Vals (xs.drop n) (us.drop n)
 | _,_,0,r=>r
 | _,_,_ + 1,.nil=>.nil
 | _,_,n + 1,.cons _ t=>Vals.drop n t
def RelO:Option V→Option Value→Prop
 | some v,some u=>RelV v u
 | none,none=>True
 | _,_=>False
def KV {κ:Type}:List (κ×V)→List (κ×Value)→Prop:=Paired fun (p:κ×V) (q:κ×Value)=>p.1=q.1∧RelV p.2 q.2
def kV:Key→V
 | .inl i=>.int i
 | .inr x=>.str x
inductive HO where
 | lst (xs:List V)
 | tup (xs:List V)
 | dK (kvs:List (Key×V)) | dT (kvs:List (List Key×V))
 | set (S:Int→Bool) (n:Nat)
 | ins (C dx:Addr) (fs:List (Str×V))
 | own (x:Addr)
 | xd (fs:List (Str×V))
 | met (f x:Addr)
 | rng (lo hi:Int)
 | frz (o:Obj) (u:HO)
 | tbl (ps:Array Value)
 | ext (φ:Heap→Prop)
abbrev Hp:=Addr→Option HO
def upd (H:Hp) (a:Addr) (o:HO):Hp:=fun b=>if b=a then some o else H b
theorem Zal {H:Hp} {a:Addr} {o:HO}:upd H a o a=some o:=by unfold upd; rw [if_pos rfl]
theorem Zak {H:Hp} {a b:Addr} {o:HO} (h:b≠a):upd H a o b=H b:=by unfold upd; rw [if_neg h]
theorem ZaJ {H:Hp} {a b:Addr} {o:HO} (h:H a=some o) (h':H b=none):a≠b:=by
 intro e; subst e; rw [h] at h'; cases h'
section
variable (P:Program) (w:World)
def ObjOk (H:Hp) (h:Heap) (a:Addr):HO→Prop
 | .lst xs=>xs.length≤sizeLine∧∃ (its:List Value) (n:Nat),Vals xs its∧h.get? a=some { cls:=.type "list", data:=.seq its.toArray n }
 | .tup xs=>xs.length≤sizeLine∧∃ its:List Value,Vals xs its∧IsTup h a its.toArray
 | .dK kvs=>kvs.length≤sizeLine∧(a == sysModules)=false∧∃ vs,KV kvs vs∧h.DictOf (ZhH P w) a vs
 | .dT kvs=>kvs.length≤sizeLine∧(a == sysModules)=false∧∃ xs:List (List Key×Addr×Value),
   Paired (fun (p:List Key×V) (q:List Key×Addr×Value)=>p.1=q.1∧H q.2.1=some (.tup (p.1.map kV))∧RelV p.2 q.2.2) kvs xs ∧
   ∃ o es ep,h.get? a=some o∧o.ExactDict∧o.data=.dict es ep∧es.toList=xs.map (entryOfKey (tupleKind (ZhH P w)))∧(xs.map (·.1)).Nodup
 | .set S n=>h.SetOf (intKind P w) a S n
 | .ins C dx fs=>H dx=some (.own a)∧fs.length≤1000∧dx≠a∧h.get? a=some (PySem.W.instObj C dx) ∧
   ∃ mA,h.Ns1 dx mA∧(∀ f,RelO (fs.lookup f) (mA f))∧PySem.Within mA (fs.map (·.1))
 | .own _=>∃ o,h.get? a=some o
 | .xd fs=>∃ mA,h.Ns1 a mA∧∀ f,RelO (fs.lookup f) (mA f)
 | .rng lo hi=>∃ t u v,h.get? a=some { cls:=.type "range", data:=.fields #[.int lo t,.int hi u,.int 1 v] }
 | .frz o u=>h.get? a=some o∧ObjOk H h a u
 | .tbl ps=>h.get? a=some { cls:=.none,data:=.fields ps }
 | .met f x=>h.get? a=some (PySem.W.methodObj (.ref f) (.ref x))
 | .ext φ=>φ h∧(∃ o,h.get? a=some o)∧∀ h1 h2:Heap,φ h1→(∀ o,h1.get? a=some o→h2.get? a=some o)→φ h2
def HOk (H:Hp) (h:Heap):Prop:=∀ a o,H a=some o→ObjOk P w H h a o
end
section
variable {P:Program} {w:World} {H H':Hp} {h h':Heap} {a:Addr} {o:HO}
theorem ObjOk.lt (x:ObjOk P w H h a o):a < h.objs.size:=by
 cases o with
 | lst xs=>obtain ⟨_,_,_,_,e⟩:=x; exact Heap.lt_size e
 | tup xs=>obtain ⟨_,_,_,p⟩:=x; exact p.lt
 | dK kvs=>obtain ⟨_,_,_,_,o,_,_,e,_⟩:=x; exact Heap.lt_size e
 | dT kvs=>obtain ⟨_,_,_,_,o,_,_,e,_⟩:=x; exact Heap.lt_size e
 | set S n=>obtain ⟨o,_,_,_,e,_⟩:=x; exact Heap.lt_size e
 | ins C dx fs=>obtain ⟨_,_,_,e,_⟩:=x; exact Heap.lt_size e
 | own y=>obtain ⟨_,e⟩:=x; exact Heap.lt_size e
 | xd fs=>obtain ⟨_,⟨_,_,_,e,_⟩,_⟩:=x; exact Heap.lt_size e
 | rng lo hi=>obtain ⟨_,_,_,e⟩:=x; exact Heap.lt_size e
 | frz ob u=>obtain ⟨e,_⟩:=x; exact Heap.lt_size e
 | tbl ps=>exact Heap.lt_size (show h.get? a=some _ from x)
 | met f y=>exact Heap.lt_size (show h.get? a=some _ from x)
 | ext φ=>obtain ⟨_,⟨_,e⟩,_⟩:=x; exact Heap.lt_size e
theorem Paired.mapP {α β:Type} {F G:α→β→Prop}:∀ {l₁:List α} {l₂:List β},Paired F l₁ l₂→(∀ a b,F a b→G a b)→Paired G l₁ l₂
 | _,_,.nil,_=>.nil
 | _,_,.cons r t,f=>.cons (f _ _ r) (Paired.mapP t f)
theorem ObjOk.stay (x:ObjOk P w H h a o) (k:∀ b u,(b=a∨H b=some (.own a))→h.get? b=some u→h'.get? b=some u)
  (ho:∀ b,H b=some (.own a)→H' b=some (.own a)) (ht:∀ b xs,H b=some (.tup xs)→H' b=some (.tup xs)):ObjOk P w H' h' a o:=by
 induction o with
 | lst xs=>obtain ⟨z,its,n,r,e⟩:=x; exact ⟨z,its,n,r,k _ _ (.inl rfl) e⟩
 | tup xs=>obtain ⟨z,its,r,ob,e,c⟩:=x; exact ⟨z,its,r,ob,k _ _ (.inl rfl) e,c⟩
 | dK kvs=>obtain ⟨z,y,vs,r,ob,es,ep,e,c⟩:=x; exact ⟨z,y,vs,r,ob,es,ep,k _ _ (.inl rfl) e,c⟩
 | dT kvs =>
  obtain ⟨z,y,xs,r,ob,es,ep,e,c⟩:=x
  exact ⟨z,y,xs,Paired.mapP r fun p q z=>⟨z.1,ht _ _ z.2.1,z.2.2⟩,ob,es,ep,k _ _ (.inl rfl) e,c⟩
 | set S n=>obtain ⟨ob,es,ep,t,e,c⟩:=x; exact ⟨ob,es,ep,t,k _ _ (.inl rfl) e,c⟩
 | ins C dx fs =>
  obtain ⟨d,z,ne,e,mA,⟨od,es,ep,e2,c⟩,r⟩:=x
  exact ⟨ho _ d,z,ne,k _ _ (.inl rfl) e,mA,⟨od,es,ep,k _ _ (.inr d) e2,c⟩,r⟩
 | own y=>obtain ⟨ob,e⟩:=x; exact ⟨ob,k _ _ (.inl rfl) e⟩
 | xd fs=>obtain ⟨mA,⟨od,es,ep,e,c⟩,r⟩:=x; exact ⟨mA,⟨od,es,ep,k _ _ (.inl rfl) e,c⟩,r⟩
 | rng lo hi=>obtain ⟨t,u,v,e⟩:=x; exact ⟨t,u,v,k _ _ (.inl rfl) e⟩
 | frz ob u ih=>obtain ⟨e,q⟩:=x; exact ⟨k _ _ (.inl rfl) e,ih q⟩
 | tbl ps =>
  have e:h.get? a=some { cls:=.none,data:=.fields ps }:=x
  show h'.get? a=some { cls:=.none,data:=.fields ps }
  exact k a _ (.inl rfl) e
 | met f y =>
  have e:h.get? a=some (PySem.W.methodObj (.ref f) (.ref y)):=x
  show h'.get? a=some (PySem.W.methodObj (.ref f) (.ref y))
  exact k a _ (.inl rfl) e
 | ext φ=>obtain ⟨p,⟨o,e⟩,st⟩:=x; exact ⟨st _ _ p fun o q=>k _ _ (.inl rfl) q,⟨o,k _ _ (.inl rfl) e⟩,st⟩
theorem HOk.lt (x:HOk P w H h) (e:H a=some o):a < h.objs.size:=(x a o e).lt
theorem HOk.fresh (x:HOk P w H h) (e:h.objs.size≤a):H a=none:=by
 cases q:H a with
 | none=>rfl
 | some u=>exact absurd (Nat.lt_of_lt_of_le (x.lt q) e) (Nat.lt_irrefl _)
theorem HOk.kept (x:HOk P w H h) (k:∀ b u,h.get? b=some u→h'.get? b=some u):HOk P w H h':=fun a o e =>
 (x a o e).stay (fun b u _ q=>k b u q) (fun _ q=>q) fun _ _ q=>q
theorem HOk.laid (x:HOk P w H h) (k:∀ b u,h.get? b=some u→h'.get? b=some u) (hp:h.objs.size≤a) (new:ObjOk P w (upd H a o) h' a o):HOk P w (upd H a o) h':=fun b u e=>by
 have hn:=x.fresh hp
 by_cases hb:b=a
 ·subst hb; rw [Zal] at e; cases e; exact new
 ·rw [Zak hb] at e
  exact (x b u e).stay (fun c v _ q=>k c v q) (fun c q=>by rw [Zak (ZaJ q hn)]; exact q) fun c xs q=>by rw [Zak (ZaJ q hn)]; exact q
end
def Rd (H:Hp) (a:Addr) (u:HO):Prop:=H a=some u∨∃ o,H a=some (.frz o u)
theorem Rd.ok {P:Program} {w:World} {H:Hp} {h:Heap} {a:Addr} {u:HO} (r:Rd H a u) (x:HOk P w H h):ObjOk P w H h a u:=by
 rcases r with r | ⟨o,r⟩
 ·exact x a u r
 ·obtain ⟨_,q⟩:=x a _ r
  exact q
def Mut:Option HO→Prop
 | some (.lst _)=>True
 | some (.dK _)=>True
 | some (.dT _)=>True
 | some (.set _ _)=>True
 | some (.ins _ _ _)=>True
 | some (.ext _)=>True
 | _=>False
section
variable {P:Program} {w:World} {H:Hp} {h h':Heap} {x e:Addr} {o':HO}
theorem HOk.write (ok:HOk P w H h) (mu:Mut (H x)) (he:e=x∨H e=some (.own x)) (k:∀ b u,b≠e→h.get? b=some u→h'.get? b=some u) (heo:∃ u,h'.get? e=some u)
  (new:ObjOk P w (upd H x o') h' x o'):HOk P w (upd H x o') h':=fun b u q=>by
 have nown:∀ c y,H c=some (.own y)→c≠x:=fun c y r z=>by subst z; rw [r] at mu; exact mu
 have ntup:∀ c xs,H c=some (.tup xs)→c≠x:=fun c xs r z=>by subst z; rw [r] at mu; exact mu
 by_cases hb:b=x
 ·subst hb; rw [Zal] at q; cases q; exact new
 ·rw [Zak hb] at q
  by_cases hbe:b=e
  ·have q':H b=some (.own x):=by
    rcases he with z | z
    ·exact absurd (hbe.trans z) hb
    ·rw [hbe]; exact z
   rw [q] at q'; cases q'
   obtain ⟨v,hv⟩:=heo
   exact ⟨v,by rw [hbe]; exact hv⟩
  ·refine (ok b u q).stay (fun c v hc r=>k c v ?_ r) (fun c r=>by rw [Zak (nown c b r)]; exact r) fun c xs r=>by rw [Zak (ntup c xs r)]; exact r
   rcases hc with rfl | hc
   ·exact hbe
   ·rintro rfl
    rcases he with z | z
    ·exact nown c b hc z
    ·rw [hc] at z; cases z; exact hb rfl
end
structure Un (fs ex:List Addr) (H H':Hp) (h h':Heap):Prop where
 keep:∀ b o,h.get? b=some o→H b=none→b ∉ fs→b ∉ ex→h'.get? b=some o
 slot:∀ b o,h.get? b=some o→H b=none→b∈fs→b ∉ ex→∃ sl,h'.get? b=some { o with slots:=sl }
 free:∀ b o,h.get? b=some o→H b=none→b ∉ ex→H' b=none
 there:∀ b o,h.get? b=some o→b ∉ ex→∃ o',h'.get? b=some o'
 tups:∀ b xs,H b=some (.tup xs)→H' b=some (.tup xs)
 frzs:∀ b o u,H b=some (.frz o u)→H' b=some (.frz o u)
 tbls:∀ b ps,H b=some (.tbl ps)→∃ more,H' b=some (.tbl (ps ++ more))
section
variable {fs fs' ex ex':List Addr} {H H1 H2:Hp} {h h1 h2 h':Heap} {a x e:Addr} {o:HO}
theorem Un.any (u:Un fs ex H H1 h h1) {b:Addr} {ob:Obj} (q:h.get? b=some ob) (n:H b=none) (hx:b ∉ ex):∃ sl,h1.get? b=some { ob with slots:=sl }:=by
 by_cases hb:b∈fs
 ·exact u.slot b ob q n hb hx
 ·exact ⟨ob.slots,u.keep b ob q n hb hx⟩
theorem Un.kept (k:∀ b u,h.get? b=some u→h'.get? b=some u):Un fs ex H H h h' :=
 ⟨fun b ob q _ _ _=>k b ob q,fun b ob q _ _ _=>⟨ob.slots,k b ob q⟩,fun _ _ _ n _=>n,fun b ob q _=>⟨ob,k b ob q⟩,fun _ _ q=>q,fun _ _ _ q=>q,fun _ ps q=>⟨#[],by rw [q]; simp⟩⟩
theorem Un.refl:Un fs ex H H h h:=Un.kept fun _ _ q=>q
theorem Un.laid (k:∀ b u,h.get? b=some u→h'.get? b=some u) (hp:h.objs.size≤a) (hn:H a=none):Un fs ex H (upd H a o) h h' where
 keep:=fun b u q _ _ _=>k b u q
 slot:=fun b u q _ _ _=>⟨u.slots,k b u q⟩
 free:=fun b u q n _=>by rw [Zak (Nat.ne_of_lt (Nat.lt_of_lt_of_le (Heap.lt_size q) hp))]; exact n
 there:=fun b u q _=>⟨u,k b u q⟩
 tups:=fun b xs q=>by rw [Zak (ZaJ q hn)]; exact q
 frzs:=fun b u xs q=>by rw [Zak (ZaJ q hn)]; exact q
 tbls:=fun b ps q=>⟨#[],by rw [Zak (ZaJ q hn),q]; simp⟩
theorem Un.write (mu:Mut (H x)) (he:e=x∨H e=some (.own x)) (k:∀ b u,b≠e→h.get? b=some u→h'.get? b=some u) (heo:∃ u,h'.get? e=some u):Un fs ex H (upd H x o) h h':=by
 have hx:∀ b,H b=none→b≠x:=fun b n z=>by subst z; rw [n] at mu; exact mu
 have hb:∀ b,H b=none→b≠e:=fun b n z=>by
  subst z
  rcases he with r | r
  ·exact hx b n r
  ·rw [n] at r; cases r
 have hm:∀ b u,H b=some u→¬ Mut (some u)→b≠x:=fun b u q nm z=>by subst z; rw [q] at mu; exact nm mu
 refine ⟨fun b u q n _ _=>k b u (hb b n) q,fun b u q n _ _=>⟨u.slots,k b u (hb b n) q⟩,fun b u q n _=>by rw [Zak (hx b n)]; exact n,fun b u q _=>?_,
  fun b xs q=>by rw [Zak (hm b _ q fun z=>z)]; exact q,fun b u xs q=>by rw [Zak (hm b _ q fun z=>z)]; exact q,fun b ps q=>⟨#[],by rw [Zak (hm b _ q fun z=>z),q]; simp⟩⟩
 by_cases hbe:b=e
 ·subst hbe; exact heo
 ·exact ⟨u,k b u hbe q⟩
end
def trk (h:Heap) (H:Hp):List Addr:=(List.range h.objs.size).filter fun a=>(H a).isSome
def hidT (h:Heap) (H:Hp):Heap:=PySem.W.hideAll h (trk h H)
theorem ZiQ (h:Heap) (H:Hp):(hidT h H).objs.size=h.objs.size:=PySem.W.hideAll_size _ _
theorem ZkN {h:Heap} {H:Hp} {b:Addr} {o:Obj} (e:h.get? b=some o) (n:H b=none):(hidT h H).get? b=some o :=
 PySem.W.hideAll_get _ e fun hm=>by
  have q:(H b).isSome=true:=(List.mem_filter.mp hm).2
  rw [n] at q; simp at q
theorem ZmC {h:Heap} {H:Hp} {b:Addr} {o:Obj} (e:(hidT h H).get? b=some o):h.get? b=some o∧H b=none:=by
 have e':h.get? b=some o:=PySem.W.of_hideAll (trk h H) e
 refine ⟨e',?_⟩
 cases q:H b with
 | none=>rfl
 | some x =>
  have hm:b∈trk h H:=List.mem_filter.mpr ⟨List.mem_range.mpr (Heap.lt_size e'),by simp [q]⟩
  have z:(hidT h H).get? b=none:=PySem.W.hideAll_none (trk h H) hm
  rw [z] at e; cases e
structure Mod (K:PySem.W.Frag) (mg:Str→Option Value) (base:Heap):Prop where
 kin:K.In base
 glob:base.Ns mainGlobals mg
 blt:∃ mb,base.Ns builtinsNs mb∧∀ x:Str,x ≠ "__name__" → mb x=bootBuiltins x
 nolimit:base.NoLimit
structure Cx where
 prog:Program
 w:World
 K:PySem.W.Frag
 mg:Str→Option Value
 base:Heap
 A:Around
 N:List Str
 s₀:Shared
 H₀:Hp
 env:Env
 outer:List Env
 stack:List Env
 ex:List Addr
 fn:Str→Bool
 calm:Bool
 pn:List (Addr×Obj)
 xe:Value→Shared→Prop
def frs (l:List Env):List Addr:=l.filterMap (·.frame)
abbrev Cx.fs (X:Cx):List Addr:=frs X.outer
def Vis (sc:Scope) (x:Str):Prop:=sc.names.lookup x=some .local∨sc.names.lookup x=some .cell∨sc.names.lookup x=some .free
def Loc (sc:Scope) (x:Str):Prop:=sc.names.lookup x=some .local∨sc.names.lookup x=some .cell
def Look (env:Env) (h:Heap) (m:Str→Option Value) (x:Str) (u:Value):Prop :=
 (env.kindOf x=some .local∧m x=some u)∨((env.kindOf x=some .cell∨env.kindOf x=some .free)∧∃ c,env.cells.lookup x=some c∧h.IsCell c (some u))
structure Cx.Ok (X:Cx):Prop where
 mod:Mod X.K X.mg X.base
 kind:X.env.scope.kind=.function
 glob:X.env.globals=mainGlobals
 blt:X.env.builtins=builtinsNs
 above:X.s₀.heap.objs.size≤X.env.locals
 inj:∀ x y c,X.env.cells.lookup x=some c→X.env.cells.lookup y=some c→x=y
 has:∀ x,(X.env.kindOf x=some .cell∨X.env.kindOf x=some .free)→∃ c,X.env.cells.lookup x=some c
 cab:∀ x c,X.fn x=true→X.env.cells.lookup x=some c→X.s₀.heap.objs.size≤c
 hd:X.calm=true→X.A.handled=none
 frames:X.A.frames=some X.stack
 stk:X.stack=X.outer∨(X.stack=X.env :: X.outer∧X.env.frame=some X.env.locals)
 exf:∀ b∈X.ex,b≠X.env.locals∧∀ x c,X.env.cells.lookup x=some c→c≠b
 bs:∀ b o,X.base.get? b=some o→X.s₀.heap.get? b=some o∧X.H₀ b=none
 bsz:X.base.objs.size≤X.s₀.heap.objs.size
 noex:∀ b o,X.base.get? b=some o→b ∉ X.ex
 exfs:∀ b∈X.ex,b ∉ X.fs
 funs:X.s₀.heap.FunFrames X.base X.outer
 frf:∀ b∈X.fs,X.H₀ b=none
structure Inv (X:Cx) (pins:List (Addr×Obj)) (σ:List (Option V)) (H:Hp) (s:Shared):Prop where
 ok:X.Ok
 os:s.os=X.s₀.os
 bare:AllBare s.gens
 base:Un X.fs X.ex X.H₀ H X.s₀.heap s.heap
 loc:∃ m,s.heap.Ns X.env.locals m∧∀ (i:Nat) (x:Str) (v:V),X.N[i]?=some x→σ[i]?=some (some v)→Vis X.env.scope x→∃ u,RelV v u∧Look X.env s.heap m x u
 cell:∀ x c,X.env.cells.lookup x=some c→∃ v,s.heap.IsCell c v
 free:H X.env.locals=none
 freeC:∀ x c,X.env.cells.lookup x=some c→H c=none
 pin:∀ p∈X.pn ++ pins,s.heap.get? p.1=some p.2∧H p.1=none∧p.1≠X.env.locals∧p.1 ∉ X.fs∧∀ v,p.2.data≠.cell v
 hok:HOk X.prog X.w H s.heap
 len:σ.length=X.N.length
section
variable {X:Cx} {pins:List (Addr×Obj)} {σ:List (Option V)} {H H':Hp} {s:Shared} {h':Heap}
theorem Cx.Ok.nofr (ok:X.Ok) {b:Addr} {o:Obj} (e:X.base.get? b=some o):b ∉ X.fs:=fun hb=>by
 have:=(ok.funs.mem hb).1
 rw [e] at this; cases this
theorem Inv.bs (I:Inv X pins σ H s):∀ b o,X.base.get? b=some o→s.heap.get? b=some o∧H b=none:=fun b o e =>
 ⟨I.base.keep b o (I.ok.bs b o e).1 (I.ok.bs b o e).2 (I.ok.nofr e) (I.ok.noex b o e),I.base.free b o (I.ok.bs b o e).1 (I.ok.bs b o e).2 (I.ok.noex b o e)⟩
theorem Inv.bk (I:Inv X pins σ H s):∀ b o,X.base.get? b=some o→s.heap.get? b=some o:=fun b o e=>(I.bs b o e).1
theorem Inv.mod (I:Inv X pins σ H s):Mod X.K X.mg X.base:=I.ok.mod
theorem Inv.kIn (I:Inv X pins σ H s):X.K.In s.heap:=I.ok.mod.kin.keeps I.bk
theorem Inv.lt (I:Inv X pins σ H s):X.env.locals < s.heap.objs.size:=let ⟨_,hn,_⟩:=I.loc; hn.lt
theorem Inv.sz (I:Inv X pins σ H s):X.s₀.heap.objs.size≤s.heap.objs.size:=Nat.le_trans I.ok.above (Nat.le_of_lt I.lt)
theorem Inv.nofs (I:Inv X pins σ H s) {a:Addr} (h:s.heap.objs.size≤a):a ∉ X.fs:=fun hb=>by
 obtain ⟨_,o,ho,_⟩:=I.ok.funs.mem hb
 exact absurd (Nat.lt_of_lt_of_le (Heap.lt_size ho) (Nat.le_trans I.sz h)) (Nat.lt_irrefl _)
theorem Inv.cne (I:Inv X pins σ H s):∀ x c,X.env.cells.lookup x=some c→c≠X.env.locals:=fun x c e z=>by
 obtain ⟨v,o,ho,hd⟩:=I.cell x c e
 obtain ⟨m,⟨o',es,ep,ho',hd',_⟩,_⟩:=I.loc
 rw [z,ho'] at ho; cases ho; rw [hd'] at hd; cases hd
theorem Inv.funs (I:Inv X pins σ H s):s.heap.FunFrames X.base X.outer:=by
 have all:∀ (l:List Env),(∀ b∈frs l,b∈X.fs)→X.s₀.heap.FunFrames X.base l→s.heap.FunFrames X.base l:=by
  intro l
  induction l with
  | nil=>intro _ _; trivial
  | cons env r ih =>
   intro hs hl
   obtain ⟨hk,⟨L,o,hf,hn,ho,hd⟩,hr⟩:=hl
   have hL:L∈X.fs:=hs L (by unfold frs; rw [List.filterMap_cons,hf]; exact List.mem_cons_self)
   obtain ⟨sl,e⟩:=I.base.slot L o ho (I.ok.frf L hL) hL fun z=>I.ok.exfs L z hL
   exact ⟨hk,⟨L,_,hf,hn,e,hd⟩,ih (fun b hb=>hs b (by unfold frs; rw [List.filterMap_cons,hf]; exact List.mem_cons_of_mem _ hb)) hr⟩
 exact all X.outer (fun _ hb=>hb) I.ok.funs
theorem Inv.stack (I:Inv X pins σ H s):s.heap.FunFrames X.base X.stack:=by
 rcases I.ok.stk with e | ⟨e,hf⟩
 ·rw [e]; exact I.funs
 ·rw [e]
  obtain ⟨m,hn,_⟩:=I.loc
  refine .cons (by rw [I.ok.kind]; decide) hf hn ?_ I.funs
  exact Heap.get?_none_of_le (Nat.le_trans I.ok.bsz I.ok.above)
theorem Inv.stkSub (I:Inv X pins σ H s):∀ b∈frs X.stack,b∈X.env.locals :: X.fs:=fun b hb=>by
 rcases I.ok.stk with e | ⟨e,hf⟩
 ·rw [e] at hb; exact List.mem_cons_of_mem _ hb
 ·rw [e] at hb
  unfold frs at hb
  rw [List.filterMap_cons,hf] at hb
  exact hb
theorem Inv.stkFree (I:Inv X pins σ H s):∀ b∈frs X.stack,H b=none:=fun b hb=>by
 rcases List.mem_cons.mp (I.stkSub b hb) with e | hb
 ·rw [e]; exact I.free
 ·obtain ⟨_,o,ho,_⟩:=I.ok.funs.mem hb
  exact I.base.free b o ho (I.ok.frf b hb) fun z=>I.ok.exfs b z hb
theorem Inv.step {g':Array GenState} {t':Nat} {d':Drawn} {ch:List Addr} (I:Inv X pins σ H s)
  (hch:∀ b∈ch,(b∈X.ex∨X.s₀.heap.objs.size≤b)∧b≠X.env.locals∧(∀ x c,X.env.cells.lookup x=some c→c≠b)∧∀ p∈X.pn ++ pins,p.1≠b)
  (keep:∀ b o,b≠X.env.locals→b ∉ X.fs→b ∉ ch→s.heap.get? b=some o→H b=none→h'.get? b=some o)
  (slot:∀ b o,b≠X.env.locals→b∈X.fs→b ∉ ch→s.heap.get? b=some o→H b=none→∃ sl,h'.get? b=some { o with slots:=sl }) (free:∀ b o,b ∉ ch→s.heap.get? b=some o→H b=none→H' b=none)
  (there:∀ b o,b ∉ ch→s.heap.get? b=some o→∃ o',h'.get? b=some o')
  (tups:∀ b xs,H b=some (.tup xs)→H' b=some (.tup xs)) (frzs:∀ b o u,H b=some (.frz o u)→H' b=some (.frz o u)) (tbls:∀ b ps,H b=some (.tbl ps)→∃ more,H' b=some (.tbl (ps ++ more)))
  (ns:∀ m,s.heap.Ns X.env.locals m→h'.Ns X.env.locals m) (hok:HOk X.prog X.w H' h') (hg:AllBare g') :
  Inv X pins σ H' { s with heap:=h',gens:=g',drawn:=d',toks:=t' }:=by
 have neL:∀ b o,X.s₀.heap.get? b=some o→b≠X.env.locals:=fun b o e=>Nat.ne_of_lt (Nat.lt_of_lt_of_le (Heap.lt_size e) I.ok.above)
 have neC:∀ b o,X.s₀.heap.get? b=some o→b ∉ X.ex→b ∉ ch:=fun b o e hx hb=>by
  rcases (hch b hb).1 with z | z
  ·exact hx z
  ·exact absurd (Nat.lt_of_lt_of_le (Heap.lt_size e) z) (Nat.lt_irrefl _)
 have cellK:∀ x c,X.env.cells.lookup x=some c→∀ v,s.heap.IsCell c v→h'.IsCell c v:=fun x c e v ⟨o,ho,hd⟩=>by
  have nch:c ∉ ch:=fun z=>(hch c z).2.2.1 x c e rfl
  by_cases hc:c∈X.fs
  ·obtain ⟨sl,q⟩:=slot c o (I.cne x c e) hc nch ho (I.freeC x c e)
   exact ⟨_,q,hd⟩
  ·exact ⟨o,keep c o (I.cne x c e) hc nch ho (I.freeC x c e),hd⟩
 refine ⟨I.ok,I.os,hg,⟨fun b o e n hb hx=>?_,fun b o e n hb hx=>?_,fun b o e n hx=>?_,fun b o e hx=>?_,fun b xs e=>tups b xs (I.base.tups b xs e),fun b o xs e=>frzs b o xs (I.base.frzs b o xs e),fun b ps e=>?_⟩,?_,fun x c e=>?_,?_,fun x c e=>?_,fun p hp=>?_,hok,I.len⟩
 ·exact keep b o (neL b o e) hb (neC b o e hx) (I.base.keep b o e n hb hx) (I.base.free b o e n hx)
 ·obtain ⟨sl,e1⟩:=I.base.slot b o e n hb hx
  obtain ⟨sl',e2⟩:=slot b _ (neL b o e) hb (neC b o e hx) e1 (I.base.free b o e n hx)
  exact ⟨sl',e2⟩
 ·obtain ⟨o',e1⟩:=I.base.there b o e hx
  exact free b o' (neC b o e hx) e1 (I.base.free b o e n hx)
 ·obtain ⟨o',e1⟩:=I.base.there b o e hx
  exact there b o' (neC b o e hx) e1
 ·obtain ⟨m1,e1⟩:=I.base.tbls b ps e
  obtain ⟨m2,e2⟩:=tbls b _ e1
  exact ⟨m1 ++ m2,by rw [e2,Array.append_assoc]⟩
 ·obtain ⟨m,hn,hl⟩:=I.loc
  refine ⟨m,ns m hn,fun i x v e1 e2 e3=>?_⟩
  obtain ⟨u,r,l⟩:=hl i x v e1 e2 e3
  refine ⟨u,r,?_⟩
  rcases l with l | ⟨k,c,e,z⟩
  ·exact .inl l
  ·exact .inr ⟨k,c,e,cellK x c e _ z⟩
 ·obtain ⟨v,z⟩:=I.cell x c e
  exact ⟨v,cellK x c e v z⟩
 ·obtain ⟨m,⟨o,_,_,ho,_⟩,_⟩:=I.loc
  exact free _ o (fun z=>(hch _ z).2.1 rfl) ho I.free
 ·obtain ⟨v,o,ho,hd⟩:=I.cell x c e
  exact free c o (fun z=>(hch c z).2.2.1 x c e rfl) ho (I.freeC x c e)
 ·obtain ⟨e,n,ne,nf,d⟩:=I.pin p hp
  have nch:p.1 ∉ ch:=fun z=>(hch p.1 z).2.2.2 p hp rfl
  exact ⟨keep p.1 p.2 ne nf nch e n,free p.1 p.2 nch e n,ne,nf,d⟩
theorem Inv.un {t':Nat} (I:Inv X pins σ H s) (u:Un X.fs [] H H' s.heap h') (hok:HOk X.prog X.w H' h'):Inv X pins σ H' { s with heap:=h',toks:=t' }:=by
 obtain ⟨m,⟨o,es,ep,ho,r⟩,_⟩:=id I.loc
 obtain ⟨sl,hL⟩:=u.any ho I.free (by simp)
 exact I.step (g':=s.gens) (d':=s.drawn) (ch:=[]) (fun _ z=>nomatch z) (fun b o _ hb _ e n=>u.keep b o e n hb (by simp)) (fun b o _ hb _ e n=>u.slot b o e n hb (by simp)) (fun b o _ e n=>u.free b o e n (by simp)) (fun b o _ e=>u.there b o e (by simp)) u.tups u.frzs u.tbls (fun m' hm=>by
  obtain ⟨o',es',ep',ho',r'⟩:=hm
  rw [ho] at ho'; cases ho'
  exact ⟨_,es',ep',hL,r'⟩) hok I.bare
theorem Inv.call {g':Array GenState} {t':Nat} {d':Drawn} {ch:List Addr} (I:Inv X pins σ H s) (u:Un (frs X.stack) ch H H' s.heap h') (hok:HOk X.prog X.w H' h') (hg:AllBare g')
  (hch:∀ b∈ch,(b∈X.ex∨X.s₀.heap.objs.size≤b)∧b≠X.env.locals∧(∀ x c,X.env.cells.lookup x=some c→c≠b)∧∀ p∈X.pn ++ pins,p.1≠b) :
  Inv X pins σ H' { s with heap:=h',gens:=g',drawn:=d',toks:=t' }:=by
 obtain ⟨m,⟨o,es,ep,ho,r⟩,_⟩:=id I.loc
 obtain ⟨sl,hL⟩:=u.any ho I.free fun z=>(hch _ z).2.1 rfl
 exact I.step (ch:=ch) hch (fun b o hL hb hc e n=>u.keep b o e n (fun z=>(List.mem_cons.mp (I.stkSub b z)).elim hL hb) hc) (fun b o _ _ hc e n=>u.any e n hc) (fun b o hc e n=>u.free b o e n hc) (fun b o hc e=>u.there b o e hc) u.tups u.frzs u.tbls (fun m' hm=>by
  obtain ⟨o',es',ep',ho',r'⟩:=hm
  rw [ho] at ho'; cases ho'
  exact ⟨_,es',ep',hL,r'⟩) hok hg
theorem Inv.turned {t':Nat} {it:Addr} (I:Inv X pins σ H s) (k:∀ b o,b≠it→s.heap.get? b=some o→h'.get? b=some o) (hn:H it=none) (hL:it≠X.env.locals)
  (h1:it∈X.ex∨X.s₀.heap.objs.size≤it) (h2:∀ x c,X.env.cells.lookup x=some c→c≠it) (h3:∀ p∈X.pn ++ pins,p.1≠it):Inv X pins σ H { s with heap:=h',toks:=t' }:=by
 have nit:∀ b u,H b=some u→b≠it:=fun b u e z=>by rw [z,hn] at e; cases e
 refine I.step (g':=s.gens) (d':=s.drawn) (ch:=[it]) (fun b hb=>?_) (fun b o _ _ hc e _=>k b o (fun z=>hc (by simp [z])) e) (fun b o _ _ hc e _=>⟨o.slots,k b o (fun z=>hc (by simp [z])) e⟩) (fun _ _ _ _ n=>n)
  (fun b o hc e=>⟨o,k b o (fun z=>hc (by simp [z])) e⟩) (fun _ _ e=>e) (fun _ _ _ e=>e) (fun b ps e=>⟨#[],by rw [e]; simp⟩) (fun m hm=>?_) (fun b u e=>?_) I.bare
 ·have e:b=it:=by simpa using hb
  subst e
  exact ⟨h1,hL,h2,h3⟩
 ·obtain ⟨o,es,ep,ho,r⟩:=hm
  exact ⟨o,es,ep,k _ o (Ne.symm hL) ho,r⟩
 ·refine (I.hok b u e).stay (fun c v hc q=>k c v ?_ q) (fun _ q=>q) fun _ _ q=>q
  rcases hc with z | z
  ·rw [z]; exact nit b u e
  ·exact nit c _ z
theorem Inv.tok (I:Inv X pins σ H s) (t:Nat):Inv X pins σ H { s with toks:=t }:=I.un (h':=s.heap) (t':=t) Un.refl I.hok
theorem Inv.kept {t':Nat} (I:Inv X pins σ H s) (k:∀ b u,s.heap.get? b=some u→h'.get? b=some u):Inv X pins σ H { s with heap:=h',toks:=t' }:=I.un (Un.kept k) (I.hok.kept k)
theorem Inv.laid {a:Addr} {o:HO} {t':Nat} (I:Inv X pins σ H s) (k:∀ b u,s.heap.get? b=some u→h'.get? b=some u) (hp:s.heap.objs.size≤a) (new:ObjOk X.prog X.w (upd H a o) h' a o) :
  Inv X pins σ (upd H a o) { s with heap:=h',toks:=t' }:=I.un (Un.laid k hp (I.hok.fresh hp)) (I.hok.laid k hp new)
theorem Inv.write {x e:Addr} {o:HO} {t':Nat} (I:Inv X pins σ H s) (mu:Mut (H x)) (he:e=x∨H e=some (.own x)) (k:∀ b u,b≠e→s.heap.get? b=some u→h'.get? b=some u) (heo:∃ u,h'.get? e=some u)
  (new:ObjOk X.prog X.w (upd H x o) h' x o):Inv X pins σ (upd H x o) { s with heap:=h',toks:=t' }:=I.un (Un.write mu he k heo) (I.hok.write mu he k heo new)
theorem Inv.pins_of {pins':List (Addr×Obj)} (I:Inv X pins σ H s) (h:∀ p∈pins',s.heap.get? p.1=some p.2∧H p.1=none∧p.1≠X.env.locals∧p.1 ∉ X.fs∧∀ v,p.2.data≠.cell v):Inv X pins' σ H s :=
 ⟨I.ok,I.os,I.bare,I.base,I.loc,I.cell,I.free,I.freeC,fun p hp=>(List.mem_append.mp hp).elim (fun z=>I.pin p (List.mem_append_left _ z)) (h p),I.hok,I.len⟩
theorem Zf5 {N:List Str} (hN:N.Nodup) {i j:Nat} {x:Str} (a:N[i]?=some x) (b:N[j]?=some x):i=j:=by
 obtain ⟨h1,e1⟩:=List.getElem?_eq_some_iff.mp a
 obtain ⟨h2,e2⟩:=List.getElem?_eq_some_iff.mp b
 exact (List.getElem_inj hN).mp (e1.trans e2.symm)
theorem Zjt {M:Model} {A:Around} {E:Value→Shared→Prop} {i:Nat} {x:Str} {v:V} {u:Value} {Q:Unit→Shared→Prop} (I:Inv X pins σ H s) (hN:X.N.Nodup) (hi:X.N[i]?=some x) (hx:Loc X.env.scope x) (r:RelV v u)
  (h:∀ s',Inv X pins (σ.set i (some v)) H s'→(∃ a,Heap.SameBut a s.heap s'.heap∧(a=X.env.locals∨X.env.cells.lookup x=some a))→Q () s') (hf:X.fn x=true∨X.env.scope.names.lookup x=some .local:=by first | exact .inl rfl | exact .inr rfl | assumption):wpAny M A (storeName X.env x u) Q E s:=by
 obtain ⟨m,hn,hl⟩:=id I.loc
 have hcls:(X.env.scope.kind == .class || (X.env.scope.kind == .module && X.env.locals != X.env.globals))=false:=by rw [I.ok.kind]; rfl
 have hiσ:i < σ.length:=by rw [I.len]; exact (List.getElem?_eq_some_iff.mp hi).1
 have cne:=I.cne
 have tracked:∀ {a:Addr} {h':Heap},(∃ o,s.heap.get? a=some o∧H a=none)→Heap.SameBut a s.heap h'→HOk X.prog X.w H h':=fun {a h'} ha hs b ob e=>by
  obtain ⟨_,_,hfree⟩:=ha
  refine (I.hok b ob e).stay (fun c w' hc q=>(hs.2 c ?_).trans q) (fun _ q=>q) fun _ _ q=>q
  rintro rfl
  rcases hc with rfl | hc
  ·rw [hfree] at e; cases e
  ·rw [hfree] at hc; cases hc
 rcases hx with hk | hk
 ·refine wpAny_storeName_local hk hn (fun h' hn' hs=>?_) hcls
  obtain ⟨oL,_,_,hoL,_⟩:=id hn
  refine h _ ⟨I.ok,I.os,I.bare,⟨fun b o e n hb hx=>?_,fun b o e n hb hx=>?_,I.base.free,fun b o e hx=>?_,I.base.tups,I.base.frzs,I.base.tbls⟩,⟨_,hn',fun j y v' e1 e2 e3=>?_⟩,fun y c e=>?_,I.free,I.freeC,fun p hp=>?_,tracked ⟨oL,hoL,I.free⟩ hs,by simpa using I.len⟩ ⟨_,hs,.inl rfl⟩
  ·exact (hs.2 b (Nat.ne_of_lt (Nat.lt_of_lt_of_le (Heap.lt_size e) I.ok.above))).trans (I.base.keep b o e n hb hx)
  ·obtain ⟨sl,e1⟩:=I.base.slot b o e n hb hx
   exact ⟨sl,(hs.2 b (Nat.ne_of_lt (Nat.lt_of_lt_of_le (Heap.lt_size e) I.ok.above))).trans e1⟩
  ·obtain ⟨o',e1⟩:=I.base.there b o e hx
   exact ⟨o',(hs.2 b (Nat.ne_of_lt (Nat.lt_of_lt_of_le (Heap.lt_size e) I.ok.above))).trans e1⟩
  ·by_cases hj:j=i
   ·subst hj
    rw [hi] at e1; cases e1
    rw [List.getElem?_set_self hiσ] at e2
    cases e2
    exact ⟨u,r,.inl ⟨hk,by simp⟩⟩
   ·rw [List.getElem?_set_ne (Ne.symm hj)] at e2
    obtain ⟨u',r',q⟩:=hl j y v' e1 e2 e3
    refine ⟨u',r',?_⟩
    rcases q with ⟨k,e⟩ | ⟨k,c,e,z⟩
    ·refine .inl ⟨k,?_⟩
     have:y≠x:=fun e=>hj (Zf5 hN e1 (e ▸ hi))
     simp [this,e]
    ·exact .inr ⟨k,c,e,z.sameBut hs (cne y c e)⟩
  ·obtain ⟨w',z⟩:=I.cell y c e
   exact ⟨w',z.sameBut hs (cne y c e)⟩
  ·obtain ⟨e,n,ne,nf,d⟩:=I.pin p hp
   exact ⟨(hs.2 p.1 ne).trans e,n,ne,nf,d⟩
 ·have hfn:X.fn x=true:=by
   rcases hf with z | z
   ·exact z
   ·rw [z] at hk; cases hk
  obtain ⟨c,hc⟩:=I.ok.has x (.inl hk)
  obtain ⟨w',z⟩:=I.cell x c hc
  refine wpAny_storeName_cell I.ok.kind hk hc z (fun h' hc' hs=>?_)
  obtain ⟨oc,hoc,hocd⟩:=id z
  refine h { s with heap:=h' } ⟨I.ok,I.os,I.bare,⟨fun b o e n hb hx=>?_,fun b o e n hb hx=>?_,I.base.free,fun b o e hx=>?_,I.base.tups,I.base.frzs,I.base.tbls⟩,⟨m,hn.sameBut hs (Ne.symm (cne x c hc)),fun j y v' e1 e2 e3=>?_⟩,fun y c' e=>?_,I.free,I.freeC,fun p hp=>?_,tracked ⟨oc,hoc,I.freeC x c hc⟩ hs,by simpa using I.len⟩ ⟨c,hs,.inr hc⟩
  ·exact (hs.2 b (Nat.ne_of_lt (Nat.lt_of_lt_of_le (Heap.lt_size e) (I.ok.cab x c hfn hc)))).trans (I.base.keep b o e n hb hx)
  ·obtain ⟨sl,e1⟩:=I.base.slot b o e n hb hx
   exact ⟨sl,(hs.2 b (Nat.ne_of_lt (Nat.lt_of_lt_of_le (Heap.lt_size e) (I.ok.cab x c hfn hc)))).trans e1⟩
  ·obtain ⟨o',e1⟩:=I.base.there b o e hx
   exact ⟨o',(hs.2 b (Nat.ne_of_lt (Nat.lt_of_lt_of_le (Heap.lt_size e) (I.ok.cab x c hfn hc)))).trans e1⟩
  ·by_cases hj:j=i
   ·subst hj
    rw [hi] at e1; cases e1
    rw [List.getElem?_set_self hiσ] at e2
    cases e2
    exact ⟨u,r,.inr ⟨.inl hk,c,hc,hc'⟩⟩
   ·rw [List.getElem?_set_ne (Ne.symm hj)] at e2
    obtain ⟨u',r',q⟩:=hl j y v' e1 e2 e3
    refine ⟨u',r',?_⟩
    rcases q with q | ⟨k,c',e,z'⟩
    ·exact .inl q
    ·refine .inr ⟨k,c',e,z'.sameBut hs ?_⟩
     rintro rfl
     exact hj (Zf5 hN e1 (I.ok.inj _ _ _ e hc ▸ hi))
  ·by_cases hcc:c'=c
   ·subst hcc; exact ⟨_,hc'⟩
   ·obtain ⟨w2,z2⟩:=I.cell y c' e
    exact ⟨w2,z2.sameBut hs hcc⟩
  ·obtain ⟨e,n,ne,nf,d⟩:=I.pin p hp
   refine ⟨(hs.2 p.1 ?_).trans e,n,ne,nf,d⟩
   intro q
   rw [q,hoc] at e
   have q':oc=p.2:=Option.some.inj e
   exact d w' (by rw [← q']; exact hocd)
theorem ZbR {M:Model} {A:Around} {E:Value→Shared→Prop} {i:Nat} {x:Str} {v:V} {u:Value} {Q:Unit→Shared→Prop} (I:Inv X pins σ H s) (hN:X.N.Nodup) (hi:X.N[i]?=some x) (hx:Loc X.env.scope x) (r:RelV v u)
  (h:∀ s',Inv X pins (σ.set i (some v)) H s'→Q () s') (hf:X.fn x=true∨X.env.scope.names.lookup x=some .local:=by first | exact .inl rfl | exact .inr rfl | assumption):wpAny M A (storeName X.env x u) Q E s :=
 Zjt I hN hi hx r (fun s' I' _=>h s' I') hf
theorem Inv.call' {s':Shared} {ch:List Addr} (I:Inv X pins σ H s) (ho:s'.os=s.os) (u:Un (frs X.stack) ch H H' s.heap s'.heap) (hok:HOk X.prog X.w H' s'.heap) (hg:AllBare s'.gens)
  (hch:∀ b∈ch,(b∈X.ex∨X.s₀.heap.objs.size≤b)∧b≠X.env.locals∧(∀ x c,X.env.cells.lookup x=some c→c≠b)∧∀ p∈X.pn ++ pins,p.1≠b):Inv X pins σ H' s':=by
 obtain ⟨h',g',d',t',o'⟩:=s'
 have e:o'=s.os:=ho
 subst e
 exact I.call (g':=g') (t':=t') (d':=d') u hok hg hch
end
abbrev XK:=Value→Option Addr→Hp→Prop
abbrev St:=List (Option V)
abbrev VK:=V→Hp→Prop
abbrev TE:=St→Hp→VK→Prop
abbrev TT:=St→Hp→(Bool→Hp→Prop)→Prop
abbrev TA:=St→Hp→(List V→Hp→Prop)→Prop
structure Ends where
 nx:St→Hp→Prop
 rt:VK
 bk:St→Hp→Prop:=fun _ _=>False
 ct:St→Hp→Prop:=fun _ _=>False
abbrev TS:=Ends→St→Hp→Prop
def EP (X:Cx) (pins:List (Addr×Obj)) (σ:St) (Q:VK) (u:Value) (s':Shared):Prop:=∃ v H',Inv X pins σ H' s'∧RelV v u∧Q v H'
def TP (X:Cx) (pins:List (Addr×Obj)) (σ:St) (Q:Bool→Hp→Prop) (b:Bool) (s':Shared):Prop:=∃ H',Inv X pins σ H' s'∧Q b H'
def AP (X:Cx) (pins:List (Addr×Obj)) (σ:St) (Q:List V→Hp→Prop) (us:List Value) (s':Shared):Prop:=∃ vs H',Inv X pins σ H' s'∧Vals vs us∧Q vs H'
def SP (X:Cx) (pins:List (Addr×Obj)) (D:Ends) (f:Flow) (s':Shared):Prop :=
 match f with
 | .next=>∃ σ' H',Inv X pins σ' H' s'∧D.nx σ' H'
 | .brk=>∃ σ' H',Inv X pins σ' H' s'∧D.bk σ' H'
 | .cont=>∃ σ' H',Inv X pins σ' H' s'∧D.ct σ' H'
 | .ret u=>∃ v σ' H',Inv X pins σ' H' s'∧RelV v u∧D.rt v H'
def PE (X:Cx) (e:Expr) (t:TE):Prop :=
 ∀ (pins:List (Addr×Obj)) (s:Shared) (σ:St) (H:Hp) (Q:VK),Inv X pins σ H s→t σ H Q→wpAny (model X.prog X.w) X.A (eval e X.env) (EP X pins σ Q) X.xe s
def PT (X:Cx) (e:Expr) (t:TT):Prop :=
 ∀ (pins:List (Addr×Obj)) (s:Shared) (σ:St) (H:Hp) (Q:Bool→Hp→Prop),Inv X pins σ H s→t σ H Q→wpAny (model X.prog X.w) X.A (isTrue e X.env (eval e X.env)) (TP X pins σ Q) X.xe s
def PW (X:Cx) (e:Expr) (t:TT):Prop :=
 ∀ (whole:Sem Value) (pins:List (Addr×Obj)) (s:Shared) (σ:St) (H:Hp) (Q:Bool→Hp→Prop),Inv X pins σ H s→t σ H Q→wpAny (model X.prog X.w) X.A (isTrue e X.env whole) (TP X pins σ Q) X.xe s
theorem PW.pt {X:Cx} {e:Expr} {t:TT} (h:PW X e t):PT X e t:=h _
def PA (X:Cx) (es:List Expr) (t:TA):Prop :=
 ∀ (pos:Pos) (pins:List (Addr×Obj)) (s:Shared) (σ:St) (H:Hp) (Q:List V→Hp→Prop),Inv X pins σ H s→t σ H Q→wpAny (model X.prog X.w) X.A (spliced (backTo pos (starEach es X.env))) (AP X pins σ Q) X.xe s
def PS (X:Cx) (st:Stmt) (t:TS):Prop :=
 ∀ (pins:List (Addr×Obj)) (s:Shared) (σ:St) (H:Hp) (D:Ends),Inv X pins σ H s→t D σ H→wpAny (model X.prog X.w) X.A (exec st X.env) (SP X pins D) X.xe s
def PSs (X:Cx) (st:List Stmt) (t:TS):Prop :=
 ∀ (pins:List (Addr×Obj)) (s:Shared) (σ:St) (H:Hp) (D:Ends),Inv X pins σ H s→t D σ H→wpAny (model X.prog X.w) X.A (execs st X.env) (SP X pins D) X.xe s
theorem thn {α:Type} {t:Sem α} {Q Q':α→Shared→Prop} {M:Model} {A:Around} {E:Value→Shared→Prop} {s:Shared} (h:wpAny M A t Q E s) (hQ:∀ a s,Q a s→Q' a s):wpAny M A t Q' E s:=wpAny_mono h hQ fun _ _ x=>x
section
variable {X:Cx}
def tVar (i:Nat):TE:=fun σ H Q=>∃ v,σ[i]?=some (some v)∧Q v H
def tC (v:V):TE:=fun _ H Q=>Q v H
theorem ZdM {i:Nat} {x:Str} {pos:Pos} (hN:X.N[i]?=some x) (hv:Vis X.env.scope x) (hd:(x == ("__debug__" : Str))=false:=by decide) (hcd:(x == ("__classdict__" : Str))=false:=by decide):PE X (.Name x pos) (tVar i):=by
 intro pins s σ H Q I h
 obtain ⟨v,e,h⟩:=h
 obtain ⟨m,hn,hl⟩:=I.loc
 obtain ⟨u,r,l⟩:=hl i x v hN e hv
 have fin:EP X pins σ Q u s:=⟨v,H,I,r,h⟩
 rcases l with ⟨hk,hm⟩ | ⟨hk,c,hc,hcell⟩
 ·exact wpAny_Name (wpAny_loadName_local I.ok.kind hk hn hm fin) hd
 ·rcases hk with hk | hk
  ·exact wpAny_Name (wpAny_loadName_cell I.ok.kind hk hc hcell fin) hd
  ·exact wpAny_Name (wpAny_loadName_free I.ok.kind hk hc hcell fin hcd) hd
theorem Zar {i j pos}:PE X (.Constant (.int i) j pos) (tC (.int i)):=fun _ _ _ H _ I h=>wpAny_Constant_int ⟨.int i,H,I.tok _,⟨_,rfl⟩,h⟩
theorem pe_bl {b j pos}:PE X (.Constant (.bool b) j pos) (tC (.bl b)):=fun _ _ _ H _ I h=>Constant_bool ⟨.bl b,H,I,rfl,h⟩
theorem pe_non {j pos}:PE X (.Constant .none j pos) (tC .non):=fun _ _ _ H _ I h=>Constant_none ⟨.non,H,I,rfl,h⟩
theorem pe_str {x j pos}:PE X (.Constant (.str x) j pos) (tC (.str x)):=fun _ _ _ H _ I h=>Calls.Constant_str ⟨.str x,H,I.tok _,⟨_,rfl⟩,h⟩
def Gl (X:Cx) (x:Str):Prop:=X.env.kindOf x=some .globalImplicit
theorem Zml {E:Value→Shared→Prop} {pins:List (Addr×Obj)} {s:Shared} {σ:St} {H:Hp} {x:Str} {u:Value} {pos:Pos} {Q:Value→Shared→Prop} (I:Inv X pins σ H s) (hg:Gl X x) (hm:X.mg x=some u) (h:Q u s)
  (hd:(x == ("__debug__" : Str))=false:=by decide):wpAny (model X.prog X.w) X.A (eval (.Name x pos) X.env) Q E s :=
 Calls.Name_function_global I.ok.kind hg (Calls.loadGlobal_global (by rw [I.ok.glob]; exact I.mod.glob.keeps I.bk) hm h) hd
theorem Zbs {E:Value→Shared→Prop} {pins:List (Addr×Obj)} {s:Shared} {σ:St} {H:Hp} {x:Str} {u:Value} {pos:Pos} {Q:Value→Shared→Prop} (I:Inv X pins σ H s) (hg:Gl X x) (hm:X.mg x=none) (hv:bootBuiltins x=some u) (h:Q u s)
  (hn:x ≠ "__name__" := by decide) (hd:(x == ("__debug__" : Str))=false:=by decide):wpAny (model X.prog X.w) X.A (eval (.Name x pos) X.env) Q E s:=by
 obtain ⟨mb,h1,h2⟩:=I.mod.blt
 exact Calls.Name_function_global I.ok.kind hg (Calls.loadGlobal_builtin (by rw [I.ok.glob]; exact I.mod.glob.keeps I.bk) hm (by rw [I.ok.blt]; exact h1.keeps I.bk) ((h2 x hn).trans hv) h) hd
variable {a b:Expr} {ta tb:TE} {pos:Pos}
def tB (t:TE):TT:=fun σ H Q=>t σ H fun x H1=>∃ c,x=.bl c∧Q c H1
theorem pt_val {e:Expr} {t:TE} (h:PE X e t) (he:∀ whole,isTrue e X.env whole=(do let v ← whole; standAt e.pos; holding [v] (truthy v)):=by intro _; rfl):PT X e (tB t):=by
 intro pins s σ H Q I hw
 refine isTrue_plain (thn (h pins s σ H _ I hw) fun v s1 ⟨x,H1,I1,r1,q1⟩=>?_) (he _)
 obtain ⟨d,rfl,q⟩:=q1
 cases r1
 exact wpAny_truthy_bool ⟨H1,I1,q⟩
variable {tA tB':TT} {rest:List Expr}
def tAnd (t u:TT):TT:=fun σ H Q=>t σ H fun c H1=>if c=true then u σ H1 Q else Q false H1
def tOr (t u:TT):TT:=fun σ H Q=>t σ H fun c H1=>if c=true then Q true H1 else u σ H1 Q
def tNot (t:TT):TT:=fun σ H Q=>t σ H fun c H1=>Q (!c) H1
theorem Zmf (ha:PT X a tA):PW X (.BoolOp .And [a] pos) tA:=by
 intro wh pins s σ H Q I h
 refine isTrue_and (thn (ha pins s σ H Q I h) fun c s1 e=>?_)
 cases c with
 | true=>exact isTrue_and_nil e
 | false=>exact e
theorem pw_or1 (ha:PT X a tA):PW X (.BoolOp .Or [a] pos) tA:=by
 intro wh pins s σ H Q I h
 refine isTrue_or (thn (ha pins s σ H Q I h) fun c s1 e=>?_)
 cases c with
 | false=>exact isTrue_or_nil e
 | true=>exact e
theorem pw_and (ha:PT X a tA) (hb:PW X (.BoolOp .And (b :: rest) pos) tB'):PW X (.BoolOp .And (a :: b :: rest) pos) (tAnd tA tB'):=by
 intro wh pins s σ H Q I h
 refine isTrue_and (thn (ha pins s σ H _ I h) fun c s1 ⟨H1,I1,q1⟩=>?_)
 cases c with
 | true=>exact hb wh pins s1 σ H1 Q I1 q1
 | false=>exact ⟨H1,I1,q1⟩
theorem pw_or (ha:PT X a tA) (hb:PW X (.BoolOp .Or (b :: rest) pos) tB'):PW X (.BoolOp .Or (a :: b :: rest) pos) (tOr tA tB'):=by
 intro wh pins s σ H Q I h
 refine isTrue_or (thn (ha pins s σ H _ I h) fun c s1 ⟨H1,I1,q1⟩=>?_)
 cases c with
 | true=>exact ⟨H1,I1,q1⟩
 | false=>exact hb wh pins s1 σ H1 Q I1 q1
theorem pt_not (ha:PT X a tA):PT X (.UnaryOp .Not a pos) (tNot tA):=by
 intro pins s σ H Q I h
 exact isTrue_not (ha pins s σ H (fun c H1=>Q (!c) H1) I h)
def tAndV (ta tb:TE):TE:=fun σ H Q=>ta σ H fun x H1=>∃ c,x=.bl c∧if c=true then tb σ H1 Q else Q (.bl false) H1
theorem pe_one {op} {t:TE} (h:PE X a t):PE X (.BoolOp op [a] pos) t:=fun pins s σ H Q I hw=>BoolOp_one (h pins s σ H Q I hw)
theorem pe_and (ha:PE X a ta) (hb:PE X (.BoolOp .And (b :: rest) pos) tb):PE X (.BoolOp .And (a :: b :: rest) pos) (tAndV ta tb):=by
 intro pins s σ H Q I h
 refine BoolOp_and (thn (ha pins s σ H _ I h) fun v s1 ⟨x,H1,I1,r1,q1⟩=>?_)
 obtain ⟨c,rfl,q1⟩:=q1
 cases r1
 refine wpAny_truthy_bool ?_
 cases c with
 | true=>exact hb pins s1 σ H1 Q I1 q1
 | false=>exact ⟨.bl false,H1,I1,rfl,q1⟩
end
def SqL (K:PySem.W.Frag) (H:Hp) (a:Addr) (xs:List V):Prop :=
 Rd H a (.lst xs) ∨
  ∃ (o:Obj) (its:Array Value) (n:Nat),K.lookup a=some o∧o.cls=.type "list" ∧ o.dict=none∧o.data=.seq its n∧its.size≤sizeLine∧Vals xs its.toList
def SqT (K:PySem.W.Frag) (H:Hp) (a:Addr) (xs:List V):Prop :=
 Rd H a (.tup xs) ∨
  ∃ (o:Obj) (its:Array Value) (n:Nat),K.lookup a=some o∧o.cls=.type "tuple" ∧ o.data=.seq its n∧its.size≤sizeLine∧Vals xs its.toList
def absV:Value→Option V
 | .none=>some .non
 | .bool b=>some (.bl b)
 | .int i _=>some (.int i)
 | .str x _=>some (.str x)
 | .bytes b _=>some (.byt b)
 | .float b _=>some (.flt b)
 | .ref a=>some (.ref a)
 | .type n=>some (.ty n)
 | _=>none
theorem RelV.abs {x:V} {u:Value} (r:RelV x u):absV u=some x:=by
 cases x with
 | non=>cases r; rfl
 | bl _=>cases r; rfl
 | int _=>obtain ⟨t,rfl⟩:=r; rfl
 | str _=>obtain ⟨t,rfl⟩:=r; rfl
 | byt _=>obtain ⟨t,rfl⟩:=r; rfl
 | flt _=>obtain ⟨t,rfl⟩:=r; rfl
 | ref _=>cases r; rfl
 | ty _=>cases r; rfl
theorem RelV.inj {x y:V} {u:Value} (r:RelV x u) (q:RelV y u):x=y:=Option.some.inj (r.abs.symm.trans q.abs)
theorem Vals.inj:∀ {xs ys:List V} {us:List Value},Vals xs us→Vals ys us→xs=ys
 | _,_,_,.nil,.nil=>rfl
 | _,_,_,.cons r t,.cons r' t'=>by rw [r.inj r',Vals.inj t t']
section
variable {X:Cx} {pins:List (Addr×Obj)} {σ:St} {H:Hp} {s:Shared} {a:Addr} {xs ys:List V}
theorem SqL.of {K:PySem.W.Frag} (h:H a=some (.lst xs)):SqL K H a xs:=.inl (.inl h)
theorem SqT.of {K:PySem.W.Frag} (h:H a=some (.tup xs)):SqT K H a xs:=.inl (.inl h)
theorem Inv.list (I:Inv X pins σ H s) (h:SqL X.K H a xs):∃ its:List Value,Vals xs its∧PlainL s.heap a its.toArray∧xs.length≤sizeLine:=by
 rcases h with h | ⟨o,its,n,hk,hc,hd,hs,hz,r⟩
 ·obtain ⟨z,its,n,r,e⟩:=h.ok I.hok
  exact ⟨its,r,⟨_,n,e,rfl,rfl,rfl⟩,z⟩
 ·refine ⟨its.toList,r,⟨o,n,I.kIn a o hk,hc,hd,by simpa using hs⟩,?_⟩
  have e:=r.length
  simp only [Array.length_toList] at e
  omega
theorem Inv.tuple (I:Inv X pins σ H s) (h:SqT X.K H a xs):∃ its:List Value,Vals xs its∧IsTup s.heap a its.toArray∧xs.length≤sizeLine:=by
 rcases h with h | ⟨o,its,n,hk,hc,hs,hz,r⟩
 ·obtain ⟨z,its,r,p⟩:=h.ok I.hok
  exact ⟨its,r,p,z⟩
 ·refine ⟨its.toList,r,⟨o,I.kIn a o hk,hc,n,by simpa using hs⟩,?_⟩
  have e:=r.length
  simp only [Array.length_toList] at e
  omega
theorem Inv.list_inj (I:Inv X pins σ H s) (h:SqL X.K H a xs) (h':SqL X.K H a ys):xs=ys:=by
 obtain ⟨its,r,⟨o,n,e,_,_,d⟩,_⟩:=I.list h
 obtain ⟨its',r',⟨o',n',e',_,_,d'⟩,_⟩:=I.list h'
 rw [e] at e'; cases e'
 rw [d] at d'
 injection d' with d1 _
 have:its=its':=by simpa using congrArg Array.toList d1
 subst this
 exact r.inj r'
theorem Inv.tuple_inj (I:Inv X pins σ H s) (h:SqT X.K H a xs) (h':SqT X.K H a ys):xs=ys:=by
 obtain ⟨its,r,⟨o,e,_,n,d⟩,_⟩:=I.tuple h
 obtain ⟨its',r',⟨o',e',_,n',d'⟩,_⟩:=I.tuple h'
 rw [e] at e'; cases e'
 rw [d] at d'
 injection d' with d1 _
 have:its=its':=by simpa using congrArg Array.toList d1
 subst this
 exact r.inj r'
end
abbrev Cx.wish (X:Cx) (E:Value→Shared→Prop):Cx:={ X with xe:=E }
abbrev Cx.nox (X:Cx):Cx:=X.wish fun _ _=>False
theorem Cx.Ok.wish {X:Cx} (ok:X.Ok) (E:Value→Shared→Prop):(X.wish E).Ok :=
 ⟨ok.mod,ok.kind,ok.glob,ok.blt,ok.above,ok.inj,ok.has,ok.cab,ok.hd,ok.frames,ok.stk,ok.exf,ok.bs,ok.bsz,ok.noex,ok.exfs,ok.funs,ok.frf⟩
theorem Cx.Ok.unwish {X:Cx} {E:Value→Shared→Prop} (ok:(X.wish E).Ok):X.Ok :=
 ⟨ok.mod,ok.kind,ok.glob,ok.blt,ok.above,ok.inj,ok.has,ok.cab,ok.hd,ok.frames,ok.stk,ok.exf,ok.bs,ok.bsz,ok.noex,ok.exfs,ok.funs,ok.frf⟩
section
variable {X:Cx} {pins:List (Addr×Obj)} {σ:St} {H:Hp} {s:Shared} {E:Value→Shared→Prop}
theorem Inv.wish (I:Inv X pins σ H s) (E:Value→Shared→Prop):Inv (X.wish E) pins σ H s:=⟨I.ok.wish E,I.os,I.bare,I.base,I.loc,I.cell,I.free,I.freeC,I.pin,I.hok,I.len⟩
theorem Inv.unwish (I:Inv (X.wish E) pins σ H s):Inv X pins σ H s:=⟨I.ok.unwish,I.os,I.bare,I.base,I.loc,I.cell,I.free,I.freeC,I.pin,I.hok,I.len⟩
theorem SP.unwish {D:Ends} {f:Flow} {s':Shared} (h:SP (X.wish E) pins D f s'):SP X pins D f s':=by
 cases f with
 | next=>obtain ⟨σ',H',I,q⟩:=h; exact ⟨σ',H',I.unwish,q⟩
 | brk=>obtain ⟨σ',H',I,q⟩:=h; exact ⟨σ',H',I.unwish,q⟩
 | cont=>obtain ⟨σ',H',I,q⟩:=h; exact ⟨σ',H',I.unwish,q⟩
 | ret u=>obtain ⟨v,σ',H',I,r,q⟩:=h; exact ⟨v,σ',H',I.unwish,r,q⟩
theorem PSs.nox {st:List Stmt} {t:TS} (h:PSs X.nox st t):PSs X st t:=fun pins s σ H D I hw =>
 wpAny_mono (h pins s σ H D (I.wish _) hw) (fun _ _ q=>q.unwish) fun _ _ z=>False.elim z
end
section
variable {X:Cx} {st:Stmt} {rest:List Stmt} {t u:TS} {e:Expr} {te:TE} {pos:Pos}
def tNext:TS:=fun D σ H=>D.nx σ H
def tSeq (t u:TS):TS:=fun D σ H=>t { D with nx:=u D } σ H
theorem Zes:PSs X [] tNext:=fun _ _ σ H _ I h=>wpAny_execs_nil ⟨σ,H,I,h⟩
theorem Za7 (h1:PS X st t) (h2:PSs X rest u):PSs X (st :: rest) (tSeq t u):=by
 intro pins s σ H D I h
 refine wpAny_execs_cons (thn (h1 pins s σ H { D with nx:=u D } I h) fun f s1 q=>?_)
 cases f with
 | next =>
  obtain ⟨σ',H',I',q⟩:=q
  exact h2 pins s1 σ' H' D I' q
 | ret v=>exact q
 | brk=>exact q
 | cont=>exact q
theorem ZbJ (h1:PS X st t):PSs X [st] t:=by
 intro pins s σ H D I h
 refine wpAny_execs_cons (thn (h1 pins s σ H D I h) fun f s1 q=>?_)
 cases f with
 | next=>exact wpAny_execs_nil q
 | ret v=>exact q
 | brk=>exact q
 | cont=>exact q
theorem Inv.quiet {pins:List (Addr×Obj)} {σ:St} {H:Hp} {s:Shared} (I:Inv X pins σ H s):interactive X.env=false:=by simp [interactive,I.ok.kind]
def tDrop (te:TE):TS:=fun D σ H=>te σ H fun _ H1=>D.nx σ H1
theorem Zm9 (he:PE X e te) (hs:swapsWith e none pos.line X.env=pure false:=by rfl):PS X (.Expr e pos) (tDrop te):=by
 intro pins s σ H D I h
 exact wpAny_Expr_any (thn (he pins s σ H _ I h) fun v s1 ⟨x,H1,I1,r1,q1⟩=>⟨σ,H1,I1,q1⟩) I.quiet hs
def tRet (te:TE):TS:=fun D σ H=>te σ H D.rt
theorem Zcs (he:PE X e te):PS X (.Return (some e) pos) (tRet te):=by
 intro pins s σ H D I h
 exact wpAny_Return_some (thn (he pins s σ H _ I h) fun v s1 ⟨x,H1,I1,r1,q1⟩=>⟨x,σ,H1,I1,r1,q1⟩)
def tIfS (c:TT) (t u:TS):TS:=fun D σ H=>c σ H fun b H1=>if b=true then t D σ H1 else u D σ H1
theorem Zj2 {c:Expr} {a b:List Stmt} {tc:TT} (hc:PT X c tc) (ha:PSs X a t) (hb:PSs X b u):PS X (.If c a b pos) (tIfS tc t u):=by
 intro pins s σ H D I h
 refine wpAny_If (thn (hc pins s σ H _ I h) fun d s1 ⟨H1,I1,q1⟩=>?_)
 cases d with
 | true=>exact ha pins s1 σ H1 D I1 q1
 | false=>exact hb pins s1 σ H1 D I1 q1
def tNever:TS:=fun _ _ _=>False
theorem Zka:PS X st tNever:=fun _ _ _ _ _ _ h=>h.elim
end
abbrev TG:=V→St→Hp→(St→Hp→Prop)→Prop
abbrev TGs:=List V→St→Hp→(St→Hp→Prop)→Prop
def PG (X:Cx) (target:Expr) (t:TG):Prop :=
 ∀ (pins:List (Addr×Obj)) (s:Shared) (σ:St) (H:Hp) (v:V) (u:Value) (Q:St→Hp→Prop),Inv X pins σ H s→RelV v u→t v σ H Q →
  wpAny (model X.prog X.w) X.A (assign target X.env u) (fun _ s'=>∃ σ' H',Inv X pins σ' H' s'∧Q σ' H') X.xe s
def PGs (X:Cx) (ts:List Expr) (t:TGs):Prop :=
 ∀ (pins:List (Addr×Obj)) (s:Shared) (σ:St) (H:Hp) (vs:List V) (us:List Value) (Q:St→Hp→Prop),Inv X pins σ H s→Vals vs us→t vs σ H Q →
  wpAny (model X.prog X.w) X.A (assignInOrder ((assignEach ts X.env).map (·.2)) us) (fun _ s'=>∃ σ' H',Inv X pins σ' H' s'∧Q σ' H') X.xe s
abbrev TSet:=V→V→V→Hp→(Hp→Prop)→Prop
def PSet (X:Cx) (t:TSet):Prop :=
 ∀ (pins:List (Addr×Obj)) (s:Shared) (σ:St) (H:Hp) (o i v:V) (ov iv u:Value) (Q:Hp→Prop),Inv X pins σ H s→RelV o ov→RelV i iv→RelV v u→t o i v H Q →
  wpAny (model X.prog X.w) X.A (setItem ov iv u) (fun _ s'=>∃ H',Inv X pins σ H' s'∧Q H') X.xe s
abbrev TIp:=V→V→Hp→VK→Prop
def PIp (X:Cx) (op:Operator) (t:TIp):Prop :=
 ∀ (pins:List (Addr×Obj)) (s:Shared) (σ:St) (H:Hp) (x y:V) (v u:Value) (Q:VK),Inv X pins σ H s→RelV x v→RelV y u→t x y H Q →
  wpAny (model X.prog X.w) X.A (inplaceOp op v u) (EP X pins σ Q) X.xe s
section
variable {X:Cx} {pos:Pos}
def gName (i:Nat):TG:=fun v σ H Q=>Q (σ.set i (some v)) H
theorem Zne {i:Nat} {x:Str} (hN:X.N.Nodup) (hi:X.N[i]?=some x) (hx:Loc X.env.scope x) (hf:X.fn x=true∨X.env.scope.names.lookup x=some .local:=by first | exact .inl rfl | exact .inr rfl | assumption):PG X (.Name x pos) (gName i):=by
 intro pins s σ H v u Q I r h
 exact wpAny_assign_Name (ZbR I hN hi hx r (fun s' I'=>⟨_,H,I',h⟩) hf)
def gNil:TGs:=fun vs σ H Q=>vs=[]∧Q σ H
def gCons (t:TG) (u:TGs):TGs:=fun vs σ H Q=>∃ v r,vs=v :: r∧t v σ H fun σ' H'=>u r σ' H' Q
theorem ZmP:PGs X [] gNil:=by
 intro pins s σ H vs us Q I r h
 obtain ⟨e,h⟩:=h
 subst e
 cases r
 exact assignInOrder_nil ⟨σ,H,I,h⟩
theorem ZjF {e:Expr} {es:List Expr} {t:TG} {u:TGs} (h1:PG X e t) (h2:PGs X es u)
  (hs:(assignEach (e :: es) X.env).map (·.2)=assign e X.env :: (assignEach es X.env).map (·.2):=by rfl):PGs X (e :: es) (gCons t u):=by
 intro pins s σ H vs us Q I r h
 obtain ⟨v,vr,e1,h⟩:=h
 subst e1
 cases r with
 | cons r rr =>
  rw [hs]
  refine assignInOrder_cons (thn (h1 pins s σ H _ _ _ I r h) fun _ s1 ⟨σ1,H1,I1,q1⟩=>?_)
  exact h2 pins s1 σ1 H1 _ _ Q I1 rr q1
def gTup (K:PySem.W.Frag) (n:Nat) (t:TGs):TG:=fun v σ H Q=>∃ a xs,v=.ref a∧SqT K H a xs∧xs.length=n∧t xs σ H Q
theorem pg_tup {es:List Expr} {k:Nat} {t:TGs} {n:Nat} (hc:X.calm=true) (h:PGs X es t)
  (hn:(assignEach es X.env).length=n:=by rfl) (hst:(assignEach es X.env).findIdx? (·.1)=none:=by rfl):PG X (.Tuple es k pos) (gTup X.K n t):=by
 intro pins s σ H v u Q I r hw
 obtain ⟨a,xs,e1,hq,hl,hw⟩:=hw
 subst e1
 cases r
 obtain ⟨its,rv,ht,hz⟩:=I.tuple hq
 refine assign_Tuple_tuple (I.ok.hd hc) ht (by simp [hn,← hl,rv.length]) hst fun h' hx=>?_
 have I1:Inv X pins σ H { s with heap:=h' }:=I.kept (t':=s.toks) fun b o e=>hx b o (Nat.ne_of_lt (Heap.lt_size e)) e
 exact h pins _ σ H xs _ Q I1 (by simpa using rv) hw
def gSub (to ti:TE) (t:TSet):TG:=fun v σ H Q=>to σ H fun o H1=>ti σ H1 fun i H2=>t o i v H2 fun H3=>Q σ H3
theorem Zh1 {o i:Expr} {to ti:TE} {t:TSet} (ho:PE X o to) (hi:PE X i ti) (hs:PSet X t)
  (ha:∀ v,assign (.Subscript o i pos) X.env v=(do
   let ov ← holding [v] (eval o X.env)
   let iv ← holding [v,ov] (eval i X.env)
   standAt pos
   holding [v,ov,iv] (setItem ov iv v)
   release [v,ov,iv] []):=by intro _; rfl):PG X (.Subscript o i pos) (gSub to ti t):=by
 intro pins s σ H v u Q I r h
 rw [ha]
 refine wpAny_bind (wpAny_holding (thn (ho pins s σ H _ I h) fun ov s1 ⟨x,H1,I1,r1,q1⟩=>?_))
 refine wpAny_bind (wpAny_holding (thn (hi pins s1 σ H1 _ I1 q1) fun iv s2 ⟨y,H2,I2,r2,q2⟩=>?_))
 refine wpAny_bind (wpAny_standAt (wpAny_bind (wpAny_holding (thn (hs pins s2 σ H2 x y v ov iv u _ I2 r1 r2 r q2) fun _ s3 ⟨H3,I3,q3⟩=>?_))))
 exact wpAny_release ⟨σ,H3,I3,q3⟩
def tAsg (te:TE) (g:TG):TS:=fun D σ H=>te σ H fun x H1=>g x σ H1 D.nx
theorem ZfX {tg e:Expr} {te:TE} {g:TG} (he:PE X e te) (hg:PG X tg g) (hs:swapsWithSole [tg] e pos.line X.env=pure false:=by rfl) (hw:swappedStores [tg] e X.env=pure none:=by rfl)
  (h1:(assignEach [tg] X.env).map (·.2)=[assign tg X.env]:=by rfl):PS X (.Assign [tg] e pos) (tAsg te g):=by
 intro pins s σ H D I h
 refine wpAny_Assign_stores (thn (he pins s σ H _ I h) fun v s1 ⟨x,H1,I1,r1,q1⟩=>?_) hs hw
 rw [h1]
 exact thn (hg pins s1 σ H1 x v _ I1 r1 q1) fun _ s2 q=>q
theorem ZdD {i:Nat} {x:Str} {e:Expr} {te:TE} {pos':Pos} (hN:X.N.Nodup) (hi:X.N[i]?=some x) (hx:Loc X.env.scope x) (he:PE X e te) (hs:swapsWith e (some (.Name x pos')) pos.line X.env=pure false:=by rfl) (hf:X.fn x=true∨X.env.scope.names.lookup x=some .local:=by first | exact .inl rfl | exact .inr rfl | assumption) :
  PS X (.Assign [.Name x pos'] e pos) (tAsg te (gName i)):=by
 intro pins s σ H D I h
 refine wpAny_Assign_Name (thn (he pins s σ H _ I h) fun v s1 ⟨y,H1,I1,r1,q1⟩=>?_) hs
 exact ZbR I1 hN hi hx r1 (fun s2 I2=>⟨_,H1,I2,q1⟩) hf
def tPar (i j:Nat) (ta:TA):TS:=fun D σ H=>ta σ H fun vs H1=>∃ v w,vs=[v,w]∧D.nx ((σ.set i (some v)).set j (some w)) H1
theorem ps_par {i j:Nat} {x y:Str} {a b:Expr} {ta:TA} {px py pt:Pos} {kt k2 pt2} (hc:X.calm=true) (hN:X.N.Nodup) (hi:X.N[i]?=some x) (hj:X.N[j]?=some y) (hij:i≠j)
  (hx:X.env.scope.names.lookup x=some .local) (hy:X.env.scope.names.lookup y=some .local) (ha:PA X [a,b] ta)
  (hw:swappedStores [.Tuple [.Name x px,.Name y py] kt pt] (.Tuple [a,b] k2 pt2) X.env=pure (some [x,y]))
  (hs:swapsWithSole [.Tuple [.Name x px,.Name y py] kt pt] (.Tuple [a,b] k2 pt2) pos.line X.env=pure false:=by rfl) :
  PS X (.Assign [.Tuple [.Name x px,.Name y py] kt pt] (.Tuple [a,b] k2 pt2) pos) (tPar i j ta):=by
 intro pins s σ H D I h
 rw [exec_Assign_arm]
 refine wpAny_bind (wpAny_standAt ?_)
 rw [hs]
 refine wpAny_bind (wpAny_pure ?_)
 rw [if_neg (by decide)]
 refine wpAny_bind (Tuple_ (thn (ha _ pins s σ H _ I h) fun us s1 ⟨vs,H1,I1,r1,q1⟩=>?_))
 obtain ⟨v,w,e1,q1⟩:=q1
 subst e1
 obtain ⟨u1,u2,rfl,rv,rw'⟩:∃ u1 u2,us=[u1,u2]∧RelV v u1∧RelV w u2:=by
  cases r1 with
  | cons p q =>
   cases q with
   | cons p' q' =>
    cases q'
    exact ⟨_,_,rfl,p,p'⟩
 refine wpAny_newObj_type ?_ (by show 2≤sizeLine; decide)
 have I2:Inv X pins σ H1 { s1 with heap:=s1.heap.push { cls:=.type "tuple", data:=.seq [u1,u2].toArray } }:=I1.kept (t':=s1.toks) fun b o e=>Heap.get?_push_of_some _ e
 rw [hw]
 refine wpAny_bind (wpAny_pure ?_)
 show wpAny (model X.prog X.w) X.A (do rule "assign.swapped-stores"; let items ← unpackItems (.ref s1.heap.objs.size) 2 none; assignInOrder [fun v=>bindName X.env y v,fun v=>bindName X.env x v] items.reverse; pure Flow.next) _ _ _
 refine wpAny_bind (wpAny_rule (wpAny_bind (unpackItems_tuple (items := #[u1,u2]) (I.ok.hd hc) (IsTup.new s1.heap _) fun h' hx'=>?_)))
 have I3:=I2.kept (h':=h') (t':=s1.toks) fun b o e=>hx' b o (Nat.ne_of_lt (Heap.lt_size e)) e
 show wpAny _ _ (assignInOrder [fun v=>bindName X.env y v,fun v=>bindName X.env x v] [u2,u1] >>= fun _=>pure Flow.next) _ _ _
 refine wpAny_bind (assignInOrder_cons (wpAny_bindName (ZbR I3 hN hj (.inl hy) rw' (fun s2 I4=>?_) (.inr hy))))
 refine assignInOrder_cons (wpAny_bindName (ZbR I4 hN hi (.inl hx) rv (fun s3 I5=>assignInOrder_nil (wpAny_pure ?_)) (.inr hx)))
 rw [List.set_comm _ _ (Ne.symm hij)] at I5
 exact ⟨_,H1,I5,q1⟩
def tAug (i:Nat) (te:TE) (ti:TIp):TS:=fun D σ H=>∃ x,σ[i]?=some (some x)∧te σ H fun y H1=>ti x y H1 fun z H2=>D.nx (σ.set i (some z)) H2
theorem Zln {i:Nat} {x:Str} {e:Expr} {te:TE} {op:Operator} {ti:TIp} {pos':Pos} (hN:X.N.Nodup) (hi:X.N[i]?=some x) (hx:Loc X.env.scope x) (he:PE X e te) (ho:PIp X op ti) (hf:X.fn x=true∨X.env.scope.names.lookup x=some .local:=by first | exact .inl rfl | exact .inr rfl | assumption) :
  PS X (.AugAssign (.Name x pos') op e pos) (tAug i te ti):=by
 intro pins s σ H D I h
 obtain ⟨v,e1,h⟩:=h
 obtain ⟨m,hn,hl⟩:=I.loc
 have vis:Vis X.env.scope x:=by rcases hx with k | k; exact .inl k; exact .inr (.inl k)
 obtain ⟨u,r,l⟩:=hl i x v hi e1 vis
 refine wpAny_AugAssign_Name ?_
 have go:wpAny (model X.prog X.w) X.A (eval e X.env) (fun w s₂=>wpAny (model X.prog X.w) X.A (inplaceOp op u w) (fun r s₃=>wpAny (model X.prog X.w) X.A (storeName X.env x r) (fun _=>SP X pins D .next) X.xe s₃) X.xe s₂) X.xe s:=by
  refine thn (he pins s σ H _ I h) fun w s1 ⟨y,H1,I1,r1,q1⟩=>?_
  refine thn (ho pins s1 σ H1 v y u w _ I1 r r1 q1) fun z s2 ⟨zv,H2,I2,r2,q2⟩=>?_
  exact ZbR I2 hN hi hx r2 (fun s3 I3=>⟨_,H2,I3,q2⟩) hf
 rcases l with ⟨hk,hm⟩ | ⟨hk,c,hc,hcell⟩
 ·exact wpAny_loadName_local I.ok.kind hk hn hm go
 ·rcases hk with hk | hk
  ·exact wpAny_loadName_cell I.ok.kind hk hc hcell go
  ·rcases hx with k | k
   ·have:X.env.scope.names.lookup x=some .free:=hk
    rw [k] at this; cases this
   ·have:X.env.scope.names.lookup x=some .free:=hk
    rw [k] at this; cases this
def ipI (f:Int→Int→Int):TIp:=fun x y H Q=>∃ i j,x=.int i∧y=.int j∧Q (.int (f i j)) H
theorem ip_add:PIp X .Add (ipI fun i j=>i + j):=by
 intro pins s σ H x y v u Q I r1 r2 h
 obtain ⟨i,j,e1,e2,q⟩:=h
 subst e1; subst e2
 obtain ⟨t,rfl⟩:=r1
 obtain ⟨t',rfl⟩:=r2
 exact iadd_int ⟨.int _,H,I.tok _,⟨_,rfl⟩,q⟩
theorem ip_sub:PIp X .Sub (ipI fun i j=>i - j):=by
 intro pins s σ H x y v u Q I r1 r2 h
 obtain ⟨i,j,e1,e2,q⟩:=h
 subst e1; subst e2
 obtain ⟨t,rfl⟩:=r1
 obtain ⟨t',rfl⟩:=r2
 exact isub_int ⟨.int _,H,I.tok _,⟨_,rfl⟩,q⟩
end
section
variable {X:Cx} {pos:Pos}
def tWhile (c:TT) (tb:TS):TS:=fun D σ H=>∃ W:Nat→St→Hp→Prop,(∃ m,W m σ H)∧∀ m σ H,W m σ H →
 c σ H fun b H1=>if b=true then ∃ N:St→Hp→Prop,(∀ σ' H',N σ' H'→∃ m',m' < m∧W m' σ' H')∧tb { D with nx:=N,ct:=N,bk:=D.nx } σ H1 else D.nx σ H1
theorem ZkD {c:Expr} {body:List Stmt} {tc:TT} {tb:TS} (hp:PassesOwn (model X.prog X.w) X.A X.env X.xe) (hc:PT X c tc) (hb:PSs X body tb):PS X (.While c body [] pos) (tWhile tc tb):=by
 intro pins s σ H D I h
 obtain ⟨W,⟨m0,w0⟩,turn⟩:=h
 refine wpAny_While (codeAny_whileLoop (fun n s'=>∃ σ' H',Inv X pins σ' H' s'∧W n σ' H') ?_ m0 ⟨σ,H,I,w0⟩)
 rintro n s1 ⟨σ1,H1,I1,w1⟩
 refine wpAny_passesOwn hp (thn (hc pins s1 σ1 H1 _ I1 (turn n σ1 H1 w1)) fun b s2 ⟨H2,I2,q2⟩=>?_)
 cases b with
 | true =>
  obtain ⟨N,hN,q2⟩:=q2
  rw [if_pos rfl]
  refine wpAny_passesOwn hp (thn (hb pins s2 σ1 H2 _ I2 q2) fun f s3 q3=>?_)
  cases f with
  | next =>
   obtain ⟨σ3,H3,I3,n3⟩:=q3
   obtain ⟨m',hm,w3⟩:=hN σ3 H3 n3
   exact ⟨m',hm,σ3,H3,I3,w3⟩
  | cont =>
   obtain ⟨σ3,H3,I3,n3⟩:=q3
   obtain ⟨m',hm,w3⟩:=hN σ3 H3 n3
   exact ⟨m',hm,σ3,H3,I3,w3⟩
  | brk=>exact q3
  | ret v=>exact q3
 | false =>
  rw [if_neg Bool.false_ne_true]
  exact wpAny_execs_nil ⟨σ1,H2,I2,q2⟩
end
structure It where
 go:Nat→Hp→Prop
 yld:Nat→Hp→V→Hp→Prop
 stop:Nat→Hp→Prop
def FpOk (X:Cx) (pins:List (Addr×Obj)) (H:Hp) (b:Addr):Prop :=
 H b=none∧b≠X.env.locals∧b ∉ X.fs∧(b∈X.ex∨X.s₀.heap.objs.size≤b)∧(∀ x c,X.env.cells.lookup x=some c→c≠b)∧∀ p∈X.pn ++ pins,p.1≠b
theorem Inv.fpOk {X:Cx} {pins:List (Addr×Obj)} {σ:St} {H H':Hp} {s:Shared} {b:Addr} (I:Inv X pins σ H s) (hb:s.heap.objs.size≤b) (hn:H' b=none):FpOk X pins H' b:=by
 refine ⟨hn,Nat.ne_of_gt (Nat.lt_of_lt_of_le I.lt hb),I.nofs hb,.inr (Nat.le_trans I.sz hb),fun x c e z=>?_,fun p hp z=>?_⟩
 ·obtain ⟨v,q⟩:=I.cell x c e
  exact absurd (Nat.lt_of_lt_of_le q.lt (by rw [z]; exact hb)) (Nat.lt_irrefl _)
 ·exact absurd (Nat.lt_of_lt_of_le (Heap.lt_size (I.pin p hp).1) (by rw [z]; exact hb)) (Nat.lt_irrefl _)
structure Turn (P:Program) (w:World) (K:PySem.W.Frag) (tg:Expr) (J:It) (fp:List Addr) (it:Addr) (tn:Nat→Heap→Prop):Prop where
 mem:it∈fp
 obj:∀ i h,tn i h→∀ b∈fp,∃ o,h.get? b=some o∧∀ v,o.data≠.cell v
 keep:∀ i h h',tn i h→(∀ b∈fp,∀ o,h.get? b=some o→h'.get? b=some o)→tn i h'
 item:∀ (X:Cx),X.prog=P→X.w=w→X.K=K→X.calm=true→∀ (i:Nat) (pins:List (Addr×Obj)) (s:Shared) (σ:St) (H:Hp) (E:Value→Shared→Prop),Inv X pins σ H s→(∀ b∈fp,FpOk X pins H b)→tn i s.heap→J.go i H →
  wpAny (model P w) X.A (pyNext (.ref it)) (fun r s1=>∃ u,r=some u ∧
   wpAny (model P w) X.A (letOwnedTupleGo tg (.ref it) u) (fun _ s2=>∃ x H',Inv X pins σ H' s2∧RelV x u∧J.yld i H x H'∧tn (i + 1) s2.heap∧∀ b∈fp,H' b=none) E s1) E s
 done:∀ (X:Cx),X.prog=P→X.w=w→X.K=K→X.calm=true→∀ (i:Nat) (pins:List (Addr×Obj)) (s:Shared) (σ:St) (H:Hp) (E:Value→Shared→Prop),Inv X pins σ H s→(∀ b∈fp,FpOk X pins H b)→tn i s.heap→J.stop i H →
  wpAny (model P w) X.A (pyNext (.ref it)) (fun r s1=>r=none∧Inv X pins σ H s1) E s
 self:∀ (A:Around) (i:Nat) (s:Shared) (Q:Value→Shared→Prop) (E:Value→Shared→Prop),tn i s.heap→Q (.ref it) s→wpAny (model P w) A (pyIter (.ref it)) Q E s
abbrev TI:=St→Hp→(It→Hp→Prop)→Prop
def PIE (X:Cx) (pins:List (Addr×Obj)) (σ:St) (tg:Expr) (R:It→Hp→Prop) (itv:Value) (s2:Shared):Prop :=
 ∃ (it:Addr) (fp:List Addr) (tn:Nat→Heap→Prop) (J:It) (H':Hp),itv=.ref it∧Inv X pins σ H' s2∧Turn X.prog X.w X.K tg J fp it tn∧tn 0 s2.heap∧(∀ b∈fp,FpOk X pins H' b)∧R J H'
def PI (X:Cx) (tg iter:Expr) (wi:TI):Prop :=
 ∀ (pins:List (Addr×Obj)) (s:Shared) (σ:St) (H:Hp) (R:It→Hp→Prop),Inv X pins σ H s→wi σ H R →
  wpAny (model X.prog X.w) X.A (eval iter X.env) (fun v s1=>wpAny (model X.prog X.w) X.A (pyIter v) (PIE X pins σ tg R) X.xe s1) X.xe s
theorem Zl9 {M : Model} {A : Around} {E : Value → Shared → Prop} {s : Shared} {tg : Expr} {it : Addr} {u : Value} {o : Obj} {n : String} {vs : Array Value} {Q : Unit → Shared → Prop} (ho : s.heap.get? it = some o) (hc : o.cls = .type n) (hd : o.data = .fields vs)
    (hn : ["enumerate", "zip", "dict_itemiterator", "dict_reverseitemiterator", "odict_iterator", "itertools.zip_longest", "itertools.pairwise"].contains n = false) (hQ : Q () s) : wpAny M A (letOwnedTupleGo tg (.ref it) u) Q E s := by
  unfold letOwnedTupleGo
  cases tg <;> first
    | exact wpAny_pure hQ
    | (cases u <;> first
        | exact wpAny_pure hQ
        | (refine wpAny_bind (wpAny_load ho ?_)
           rw [hc, hd]
           show wpAny M A (if (["enumerate", "zip", "dict_itemiterator", "dict_reverseitemiterator", "odict_iterator", "itertools.zip_longest", "itertools.pairwise"].contains n && vs[0]? == some (rawInt _)) = true then _ else _) Q E s
           rw [if_neg (by intro h; rw [hn, Bool.false_and] at h; cases h)]
           exact wpAny_pure hQ))
def Itl (K:PySem.W.Frag) (a:Addr):It :=
 ⟨fun i H=>∃ xs x,SqL K H a xs∧xs[i]?=some x,fun i H x H'=>H'=H∧∀ xs,SqL K H a xs→xs[i]?=some x,fun i H=>∃ xs,SqL K H a xs∧xs.length≤i⟩
def Itt (K:PySem.W.Frag) (a:Addr):It :=
 ⟨fun i H=>∃ xs x,SqT K H a xs∧xs[i]?=some x,fun i H x H'=>H'=H∧∀ xs,SqT K H a xs→xs[i]?=some x,fun i H=>∃ xs,SqT K H a xs∧xs.length≤i⟩
def Itr (lo:Int) (n:Nat):It:=⟨fun i _=>i < n,fun i H x H'=>H'=H∧x=.int (lo + i),fun i _=>n≤i⟩
theorem Zim {P:Program} {w:World} {K:PySem.W.Frag} {tg:Expr} (a it:Addr):Turn P w K tg (Itl K a) [it] it (fun i h=>h.IsListIter it a i) where
 mem:=by simp
 obj:=fun i h st b hb=>by
  have e:b=it:=by simpa using hb
  subst e
  obtain ⟨o,e,c,d⟩:=st
  exact ⟨o,e,fun v z=>by rw [d] at z; cases z⟩
 keep:=fun i h h' st k=>st.at fun o e=>k it (by simp) o e
 item:=by
  intro X hP hw hK hc i pins s σ H E I hf st hg
  subst hP hw hK
  obtain ⟨xs,x,hq,hx⟩:=hg
  obtain ⟨its,rv,p,hz⟩:=I.list hq
  obtain ⟨u,hu,ru⟩:=rv.get hx
  obtain ⟨f0,f1,f2,f3,f4,f5⟩:=hf it (by simp)
  refine wpAny_pyNext_list_item st p.isList (x:=u) (by simpa using hu) fun h' st' sb=>?_
  have I1:Inv X pins σ H { s with heap:=h' }:=I.turned (t':=s.toks) (fun b o hb e=>(sb.2 b hb).trans e) f0 f1 f3 f4 f5
  obtain ⟨o,e,c,d⟩:=id st'
  exact ⟨u,rfl,Zl9 (s:={ s with heap:=h' }) e c d (by decide) ⟨x,H,I1,ru,⟨rfl,fun ys hy=>by rw [I.list_inj hy hq]; exact hx⟩,st',fun b hb=>(hf b hb).1⟩⟩
 done:=by
  intro X hP hw hK hc i pins s σ H E I hf st hg
  subst hP hw hK
  obtain ⟨xs,hq,hx⟩:=hg
  obtain ⟨its,rv,p,hz⟩:=I.list hq
  obtain ⟨f0,f1,f2,f3,f4,f5⟩:=hf it (by simp)
  have hl:=rv.length
  exact wpAny_pyNext_list_end (I.ok.hd hc) st p.isList (by simp; omega) fun h' eb=>⟨rfl,I.turned (t':=s.toks) (fun b o hb e=>eb b o hb e) f0 f1 f3 f4 f5⟩
 self:=fun _ _ _ _ _ st h=>wpAny_pyIter_listiter st h
theorem Zhh {P:Program} {w:World} {K:PySem.W.Frag} {tg:Expr} (a it:Addr):Turn P w K tg (Itt K a) [it] it (fun i h=>h.IsTupleIter it a i) where
 mem:=by simp
 obj:=fun i h st b hb=>by
  have e:b=it:=by simpa using hb
  subst e
  obtain ⟨o,e,c,d⟩:=st
  exact ⟨o,e,fun v z=>by rw [d] at z; cases z⟩
 keep:=fun i h h' st k=>st.at fun o e=>k it (by simp) o e
 item:=by
  intro X hP hw hK hc i pins s σ H E I hf st hg
  subst hP hw hK
  obtain ⟨xs,x,hq,hx⟩:=hg
  obtain ⟨its,rv,p,hz⟩:=I.tuple hq
  obtain ⟨u,hu,ru⟩:=rv.get hx
  obtain ⟨f0,f1,f2,f3,f4,f5⟩:=hf it (by simp)
  refine wpAny_pyNext_tuple_item st (show s.heap.IsTuple a its.toArray from p) (x:=u) (by simpa using hu) fun h' st' sb=>?_
  have I1:Inv X pins σ H { s with heap:=h' }:=I.turned (t':=s.toks) (fun b o hb e=>(sb.2 b hb).trans e) f0 f1 f3 f4 f5
  obtain ⟨o,e,c,d⟩:=id st'
  exact ⟨u,rfl,Zl9 (s:={ s with heap:=h' }) e c d (by decide) ⟨x,H,I1,ru,⟨rfl,fun ys hy=>by rw [I.tuple_inj hy hq]; exact hx⟩,st',fun b hb=>(hf b hb).1⟩⟩
 done:=by
  intro X hP hw hK hc i pins s σ H E I hf st hg
  subst hP hw hK
  obtain ⟨xs,hq,hx⟩:=hg
  obtain ⟨its,rv,p,hz⟩:=I.tuple hq
  obtain ⟨f0,f1,f2,f3,f4,f5⟩:=hf it (by simp)
  have hl:=rv.length
  exact wpAny_pyNext_tuple_end (I.ok.hd hc) st (show s.heap.IsTuple a its.toArray from p) (by simp; omega) fun h' eb=>⟨rfl,I.turned (t':=s.toks) (fun b o hb e=>eb b o hb e) f0 f1 f3 f4 f5⟩
 self:=fun _ _ _ _ _ st h=>wpAny_pyIter_tupleiter st h
theorem Zg3 {P:Program} {w:World} {K:PySem.W.Frag} {tg:Expr} (it:Addr) (lo:Int) (n:Nat):Turn P w K tg (Itr lo n) [it] it (fun i h=>IsRangeIter h it (lo + (i:Nat) * 1) ((n:Int) - (i:Nat)) 1) where
 mem:=by simp
 obj:=fun i h st b hb=>by
  have e:b=it:=by simpa using hb
  subst e
  exact ⟨_,st,fun v z=>by
   have z':Data.fields _=Data.cell v:=z
   cases z'⟩
 keep:=fun i h h' st k=>k it (by simp) _ st
 item:=by
  intro X hP hw hK hc i pins s σ H E I hf st hg
  subst hP hw hK
  obtain ⟨f0,f1,f2,f3,f4,f5⟩:=hf it (by simp)
  have W:=Walks.range (prog:=X.prog) (w:=X.w) (I.ok.hd hc) it lo 1 n
  refine W.item i s _ _ hg st fun v h' tk hv st' kk=>?_
  obtain ⟨t,rfl⟩:=hv
  have I1:Inv X pins σ H { s with heap:=h',toks:=tk }:=I.turned (fun b o hb e=>kk b o (by simpa using hb) e) f0 f1 f3 f4 f5
  refine ⟨_,rfl,Zl9 (s:={ s with heap:=h',toks:=tk }) (n := "range_iterator") st' rfl rfl (by decide) ⟨.int (lo + i),H,I1,⟨t,?_⟩,⟨rfl,rfl⟩,st',fun b hb=>(hf b hb).1⟩⟩
  rw [Int.mul_one]
 done:=by
  intro X hP hw hK hc i pins s σ H E I hf st hg
  subst hP hw hK
  obtain ⟨f0,f1,f2,f3,f4,f5⟩:=hf it (by simp)
  exact wpAny_pyNext_range_end (I.ok.hd hc) st (by have:n≤i:=hg; omega) fun h' eb=>⟨rfl,I.turned (t':=s.toks) (fun b o hb e=>eb b o hb e) f0 f1 f3 f4 f5⟩
 self:=fun _ _ _ _ _ st h=>wpAny_pyIter_rangeiter st h
section
variable {X:Cx} {tg:Expr}
def iList (K:PySem.W.Frag) (tl:TE):TI:=fun σ H R=>tl σ H fun x H1=>∃ a,x=.ref a∧(∃ xs,SqL K H1 a xs)∧R (Itl K a) H1
def iTup (K:PySem.W.Frag) (tl:TE):TI:=fun σ H R=>tl σ H fun x H1=>∃ a,x=.ref a∧(∃ xs,SqT K H1 a xs)∧R (Itt K a) H1
theorem Zmu {l:Expr} {tl:TE} (hl:PE X l tl):PI X tg l (iList X.K tl):=by
 intro pins s σ H R I h
 refine thn (hl pins s σ H _ I h) fun v s1 ⟨x,H1,I1,r1,q1⟩=>?_
 obtain ⟨a,e,⟨xs,hq⟩,q⟩:=q1
 subst e
 cases r1
 obtain ⟨its,rv,p,hz⟩:=I1.list hq
 refine wpAny_pyIter_list p.isList ?_
 refine ⟨s1.heap.objs.size,[s1.heap.objs.size],_,_,H1,rfl,I1.kept (t':=s1.toks) fun b o e=>Heap.get?_push_of_some _ e,Zim a _,⟨_,Heap.get?_push_size _ rfl,rfl,rfl⟩,fun b hb=>?_,q⟩
 have e:b=s1.heap.objs.size:=by simpa using hb
 subst e
 exact I1.fpOk (Nat.le_refl _) (I1.hok.fresh (Nat.le_refl _))
theorem pi_tup {l:Expr} {tl:TE} (hl:PE X l tl):PI X tg l (iTup X.K tl):=by
 intro pins s σ H R I h
 refine thn (hl pins s σ H _ I h) fun v s1 ⟨x,H1,I1,r1,q1⟩=>?_
 obtain ⟨a,e,⟨xs,hq⟩,q⟩:=q1
 subst e
 cases r1
 obtain ⟨its,rv,p,hz⟩:=I1.tuple hq
 refine wpAny_pyIter_tuple (show s1.heap.IsTuple a its.toArray from p) ?_
 refine ⟨s1.heap.objs.size,[s1.heap.objs.size],_,_,H1,rfl,I1.kept (t':=s1.toks) fun b o e=>Heap.get?_push_of_some _ e,Zhh a _,⟨_,Heap.get?_push_size _ rfl,rfl,rfl⟩,fun b hb=>?_,q⟩
 have e:b=s1.heap.objs.size:=by simpa using hb
 subst e
 exact I1.fpOk (Nat.le_refl _) (I1.hok.fresh (Nat.le_refl _))
theorem Zf8 {pins:List (Addr×Obj)} {σ:St} {H:Hp} {s:Shared} {R:It→Hp→Prop} {E:Value→Shared→Prop} {lo hi:Int} {t u v:Tok} {tk:Nat} (I:Inv X pins σ H s) (h1 : -(2 ^ 62)≤lo) (h2:lo < 2 ^ 62) (h3 : -(2 ^ 62)≤hi) (h4:hi < 2 ^ 62)
  (q:R (Itr lo (hi - lo).toNat) H):wpAny (model X.prog X.w) X.A (pyIter (.ref s.heap.objs.size)) (PIE X pins σ tg R) E { s with heap:=s.heap.push { cls:=.type "range", data:=.fields #[.int lo t,.int hi u,.int 1 v] },toks:=tk }:=by
 refine wpAny_pyIter_range (IsRange.new ..) (small_one h1 h2 h3 h4) ?_
 have I1:Inv X pins σ H { s with heap:=s.heap.push { cls:=.type "range", data:=.fields #[.int lo t,.int hi u,.int 1 v] },toks:=tk }:=I.kept fun b o e=>Heap.get?_push_of_some _ e
 refine ⟨(s.heap.push { cls:=.type "range", data:=.fields #[.int lo t,.int hi u,.int 1 v] }).objs.size,[(s.heap.push { cls:=.type "range", data:=.fields #[.int lo t,.int hi u,.int 1 v] }).objs.size],_,_,H,rfl,
  I1.kept (t':=tk) fun b o e=>Heap.get?_push_of_some _ e,Zg3 _ lo (hi - lo).toNat,?_,fun b hb=>?_,q⟩
 ·have e1:lo + ((0:Nat):Int) * 1=lo:=by simp
  have e2:(((hi - lo).toNat:Nat):Int) - ((0:Nat):Int)=Builtin.Range.rangeSize lo hi 1:=by rw [rangeSize_one]; split <;> omega
  show IsRangeIter _ _ (lo + ((0:Nat):Int) * 1) ((((hi - lo).toNat:Nat):Int) - ((0:Nat):Int)) 1
  rw [e1,e2]
  exact Heap.get?_push_size _ rfl
 ·have e:b=(s.heap.push { cls:=.type "range", data:=.fields #[.int lo t,.int hi u,.int 1 v] }).objs.size:=by simpa using hb
  subst e
  exact I1.fpOk (Nat.le_refl _) (I1.hok.fresh (Nat.le_refl _))
def iRng1 (ta:TA):TI:=fun σ H R=>ta σ H fun vs H1=>∃ j:Int,vs=[.int j] ∧ -(2 ^ 62)≤j∧j < 2 ^ 62∧R (Itr 0 j.toNat) H1
def iRng2 (ta:TA):TI:=fun σ H R=>ta σ H fun vs H1=>∃ i j:Int,vs=[.int i,.int j]∧(-(2 ^ 62)≤i∧i < 2 ^ 62 ∧ -(2 ^ 62)≤j∧j < 2 ^ 62)∧R (Itr i (j - i).toNat) H1
theorem Zil {a:Expr} {ta:TA} {p pos:Pos} (hg:Gl X "range") (hm:X.mg "range" = none) (ha:PA X [a] ta) (hs:starEach [a] X.env=[(false,eval a X.env)]:=by rfl):PI X tg (.Call (.Name "range" p) [a] [] pos) (iRng1 ta):=by
 intro pins s σ H R I h
 refine Call_ (Zbs I hg hm boot_range (PyProof.Rows.callWith_type1 (thn (ha pos pins s σ H _ I h) fun us s1 ⟨vs,H1,I1,r1,q1⟩=>?_) hs rfl))
 obtain ⟨j,e,q1,q2,q⟩:=q1
 subst e
 cases r1 with
 | cons r rr =>
  cases rr
  obtain ⟨t,rfl⟩:=r
  exact call_range_1 (Zf8 I1 (by omega) (by omega) q1 q2 (by simpa using q))
theorem Ziq {a b:Expr} {ta:TA} {p pos:Pos} (hg:Gl X "range") (hm:X.mg "range" = none) (ha:PA X [a,b] ta) (hs:starEach [a,b] X.env=[(false,eval a X.env),(false,eval b X.env)]:=by rfl) (hs2:starEach [b] X.env=[(false,eval b X.env)]:=by rfl) :
  PI X tg (.Call (.Name "range" p) [a,b] [] pos) (iRng2 ta):=by
 intro pins s σ H R I h
 refine Call_ (Zbs I hg hm boot_range (PyProof.Rows.callWith_type1 (thn (ha pos pins s σ H _ I h) fun us s1 ⟨vs,H1,I1,r1,q1⟩=>?_) (by rw [hs,hs2]) (by rw [hs2]; rfl)))
 obtain ⟨i,j,e,⟨q1,q2,q3,q4⟩,q⟩:=q1
 subst e
 cases r1 with
 | cons r rr =>
  cases rr with
  | cons r' rr =>
   cases rr
   obtain ⟨t,rfl⟩:=r
   obtain ⟨t',rfl⟩:=r'
   exact call_range_2 (Zf8 I1 q1 q2 q3 q4 q)
def tFor (wi:TI) (g:TG) (tb:TS):TS:=fun D σ H=>wi σ H fun J H1=>∃ W:Nat→Nat→St→Hp→Prop,(∃ m,W 0 m σ H1)∧∀ i m σ H,W i m σ H →
 (J.stop i H∧D.nx σ H)∨(J.go i H∧∃ N:St→Hp→Prop,(∀ σ' H',N σ' H'→∃ m',m' < m∧W (i + 1) m' σ' H')∧∀ x H',J.yld i H x H'→g x σ H' fun σ2 H2=>tb { D with nx:=N,ct:=N,bk:=D.nx } σ2 H2)
def Ze4 (fp:List Addr) (h:Heap):List (Addr×Obj):=fp.filterMap fun b=>(h.get? b).map fun o=>(b,o)
theorem Zbu {fp:List Addr} {h:Heap} {b:Addr} {o:Obj} (hb:b∈fp) (e:h.get? b=some o):(b,o)∈Ze4 fp h:=List.mem_filterMap.mpr ⟨b,hb,by rw [e]; rfl⟩
theorem Zi8 {fp:List Addr} {h:Heap} {p:Addr×Obj} (hp:p∈Ze4 fp h):p.1∈fp∧h.get? p.1=some p.2:=by
 obtain ⟨b,hb,e⟩:=List.mem_filterMap.mp hp
 cases q:h.get? b with
 | none=>rw [q] at e; cases e
 | some o =>
  rw [q] at e
  have e':(b,o)=p:=Option.some.inj e
  subst e'
  exact ⟨hb,q⟩
theorem Inv.pinned {pins:List (Addr×Obj)} {σ:St} {H:Hp} {s:Shared} {fp:List Addr} (I:Inv X pins σ H s) (hf:∀ b∈fp,FpOk X pins H b) (ho:∀ b∈fp,∃ o,s.heap.get? b=some o∧∀ v,o.data≠.cell v):Inv X (pins ++ Ze4 fp s.heap) σ H s :=
 I.pins_of fun p hp=>(List.mem_append.mp hp).elim (fun z=>I.pin p (List.mem_append_right _ z)) fun z=>by
  obtain ⟨hb,e⟩:=Zi8 z
  obtain ⟨f0,f1,f2,_⟩:=hf p.1 hb
  obtain ⟨o,e',d⟩:=ho p.1 hb
  rw [e] at e'; cases e'
  exact ⟨e,f0,f1,f2,d⟩
theorem Inv.unpinned {pins pl:List (Addr×Obj)} {σ:St} {H:Hp} {s:Shared} (I:Inv X (pins ++ pl) σ H s):Inv X pins σ H s:=I.pins_of fun p hp=>I.pin p (List.mem_append_right _ (List.mem_append_left _ hp))
theorem Zld {iter:Expr} {body:List Stmt} {wi:TI} {g:TG} {tb:TS} {pos:Pos} (hp:PassesOwn (model X.prog X.w) X.A X.env X.xe) (hc:X.calm=true) (hi:PI X tg iter wi) (hg:PG X tg g) (hb:PSs X body tb)
  (hs:∀ x,foldedSetIterable iter X.env x=pure x:=by intro _; rfl):PS X (.For tg iter body [] pos) (tFor wi g tb):=by
 intro pins s σ H D I h
 refine wpAny_For (thn (hi pins s σ H _ I h) fun v s1 h1=>thn h1 fun itv s2 h2=>?_) hs
 obtain ⟨it,fp,tn,J,H2,e,I2,T,st2,f2,W,⟨m0,w0⟩,turn⟩:=h2
 subst e
 have stat:∀ {H':Hp},(∀ b∈fp,H' b=none)→∀ b∈fp,FpOk X pins H' b:=fun hn b hb=>⟨hn b hb,(f2 b hb).2⟩
 refine codeAny_forLoop_any (fun n s'=>∃ i σ' H',Inv X pins σ' H' s'∧tn i s'.heap∧(∀ b∈fp,H' b=none)∧W i n σ' H') ?_ m0 ⟨0,σ,H2,I2,st2,fun b hb=>(f2 b hb).1,w0⟩
 rintro n s3 ⟨i,σ3,H3,I3,st3,fr3,w3⟩
 rcases turn i n σ3 H3 w3 with ⟨stop,qn⟩ | ⟨go,N,hN,step⟩
 ·refine wpAny_passesOwn hp (thn (T.done X rfl rfl rfl hc i pins s3 σ3 H3 X.xe I3 (stat fr3) st3 stop) fun r s4 ⟨hr,I4⟩=>?_)
  subst hr
  exact wpAny_execs_nil ⟨σ3,H3,I4,qn⟩
 ·refine wpAny_passesOwn hp (thn (T.item X rfl rfl rfl hc i pins s3 σ3 H3 X.xe I3 (stat fr3) st3 go) fun r s4 ⟨u,hr,h4⟩=>?_)
  subst hr
  refine wpAny_passesOwn hp (thn h4 fun _ s5 ⟨x,H5,I5,r5,y5,st5,fr5⟩=>?_)
  have I5':=I5.pinned (stat fr5) (T.obj _ _ st5)
  refine wpAny_passesOwn hp (thn (hg _ s5 σ3 H5 x u _ I5' r5 (step x H5 y5)) fun _ s6 ⟨σ6,H6,I6,q6⟩=>?_)
  refine wpAny_passesOwn hp (thn (hb _ s6 σ6 H6 _ I6 q6) fun f s7 q7=>?_)
  have again:∀ {σ7:St} {H7:Hp},Inv X (pins ++ Ze4 fp s5.heap) σ7 H7 s7→N σ7 H7→∃ m,m < n∧∃ i σ' H',Inv X pins σ' H' s7∧tn i s7.heap∧(∀ b∈fp,H' b=none)∧W i m σ' H':=fun {σ7 H7} I7 n7=>by
   obtain ⟨m',hm,w7⟩:=hN σ7 H7 n7
   refine ⟨m',hm,i + 1,σ7,H7,I7.unpinned,T.keep _ _ _ st5 fun b hb o e=>(I7.pin (b,o) (List.mem_append_right _ (List.mem_append_right _ (Zbu hb e)))).1,fun b hb=>?_,w7⟩
   obtain ⟨o,e,d⟩:=T.obj _ _ st5 b hb
   exact (I7.pin (b,o) (List.mem_append_right _ (List.mem_append_right _ (Zbu hb e)))).2.1
  cases f with
  | next=>obtain ⟨σ7,H7,I7,n7⟩:=q7; exact again I7 n7
  | cont=>obtain ⟨σ7,H7,I7,n7⟩:=q7; exact again I7 n7
  | brk=>obtain ⟨σ7,H7,I7,q7⟩:=q7; exact ⟨σ7,H7,I7.unpinned,q7⟩
  | ret v=>obtain ⟨x7,σ7,H7,I7,r7,q7⟩:=q7; exact ⟨x7,σ7,H7,I7.unpinned,r7,q7⟩
end
abbrev R2:=V→V→Hp→VK→Prop
def OpR (X:Cx) (f:Value→Value→Sem Value) (r:R2):Prop :=
 ∀ (pins:List (Addr×Obj)) (s:Shared) (σ:St) (H:Hp) (x y:V) (v u:Value) (Q:VK),Inv X pins σ H s→RelV x v→RelV y u→r x y H Q →
  wpAny (model X.prog X.w) X.A (f v u) (EP X pins σ Q) X.xe s
def UnR (X:Cx) (f:Value→Sem Value) (r:V→Hp→VK→Prop):Prop :=
 ∀ (pins:List (Addr×Obj)) (s:Shared) (σ:St) (H:Hp) (x:V) (v:Value) (Q:VK),Inv X pins σ H s→RelV x v→r x H Q →
  wpAny (model X.prog X.w) X.A (f v) (EP X pins σ Q) X.xe s
def ZeK (X:Cx) (f:Value) (r:List V→Hp→VK→Prop):Prop :=
 ∀ (pins:List (Addr×Obj)) (s:Shared) (σ:St) (H:Hp) (xs:List V) (us:List Value) (Q:VK),Inv X pins σ H s→Vals xs us→r xs H Q →
  wpAny (model X.prog X.w) X.A (call f us) (EP X pins σ Q) X.xe s
def tOp (r:R2) (ta tb:TE):TE:=fun σ H Q=>ta σ H fun x H1=>tb σ H1 fun y H2=>r x y H2 Q
def tUn (r:V→Hp→VK→Prop) (ta:TE):TE:=fun σ H Q=>ta σ H fun x H1=>r x H1 Q
def rI (C:Int→Int→Prop) (g:Int→Int→V):R2:=fun x y H Q=>∃ i j,x=.int i∧y=.int j∧C i j∧Q (g i j) H
def rI0 (g:Int→Int→V):R2:=fun x y H Q=>∃ i j,x=.int i∧y=.int j∧Q (g i j) H
def rU (g:Int→V):V→Hp→VK→Prop:=fun x H Q=>∃ i,x=.int i∧Q (g i) H
section
variable {X:Cx} {a b c:Expr} {ta tb tc:TE} {pos:Pos}
theorem binT (ha:PE X a ta) (hb:PE X b tb) {pins:List (Addr×Obj)} {s:Shared} {σ:St} {H:Hp} {R:V→V→Hp→Prop} (I:Inv X pins σ H s)
  (h:ta σ H fun x H1=>tb σ H1 fun y H2=>R x y H2) {Q:Value→Shared→Prop} {f:Value→Value→Sem Value}
  (hf:∀ v u s2 x y H2,Inv X pins σ H2 s2→RelV x v→RelV y u→R x y H2→wpAny (model X.prog X.w) X.A (f v u) Q X.xe s2) :
  wpAny (model X.prog X.w) X.A (eval a X.env) (fun v s₁=>wpAny (model X.prog X.w) X.A (eval b X.env) (fun u s₂=>wpAny (model X.prog X.w) X.A (f v u) Q X.xe s₂) X.xe s₁) X.xe s:=by
 refine thn (ha pins s σ H _ I h) fun v s1 ⟨x,H1,I1,r1,q1⟩=>?_
 refine thn (hb pins s1 σ H1 _ I1 q1) fun u s2 ⟨y,H2,I2,r2,q2⟩=>?_
 exact hf v u s2 x y H2 I2 r1 r2 q2
theorem ZaO {op:Operator} {r:R2} (ho:OpR X (binaryOp op) r) (ha:PE X a ta) (hb:PE X b tb):PE X (.BinOp a op b pos) (tOp r ta tb):=by
 intro pins s σ H Q I h
 exact wpAny_BinOp (binT ha hb I h fun v u s2 x y H2 I2 rx ry q=>ho pins s2 σ H2 x y v u Q I2 rx ry q)
theorem pe_un {op:UnaryOp} {r:V→Hp→VK→Prop} (ho:UnR X (unaryOp op) r) (ha:PE X a ta):PE X (.UnaryOp op a pos) (tUn r ta):=by
 intro pins s σ H Q I h
 exact UnaryOp_ (thn (ha pins s σ H _ I h) fun v s1 ⟨x,H1,I1,r1,q1⟩=>ho pins s1 σ H1 x v Q I1 r1 q1)
theorem opI {f:Value→Value→Sem Value} {C:Int→Int→Prop} {g:Int→Int→Int}
  (rule:∀ (i j:Int) (t u:Tok) (s:Shared) (Q:Value→Shared→Prop) (E:Value→Shared→Prop),C i j→Q (.int (g i j) s.toks) { s with toks:=s.toks + 1 }→wpAny (model X.prog X.w) X.A (f (.int i t) (.int j u)) Q E s) :
  OpR X f (rI C fun i j=>.int (g i j)):=by
 intro pins s σ H x y v u Q I rx ry h
 obtain ⟨i,j,rfl,rfl,hc,q⟩:=h
 obtain ⟨t,rfl⟩:=rx
 obtain ⟨t',rfl⟩:=ry
 exact rule i j t t' s _ _ hc ⟨.int (g i j),H,I.tok _,⟨_,rfl⟩,q⟩
theorem opI0 {f:Value→Value→Sem Value} {g:Int→Int→Int}
  (rule:∀ (i j:Int) (t u:Tok) (s:Shared) (Q:Value→Shared→Prop) (E:Value→Shared→Prop),Q (.int (g i j) s.toks) { s with toks:=s.toks + 1 }→wpAny (model X.prog X.w) X.A (f (.int i t) (.int j u)) Q E s) :
  OpR X f (rI0 fun i j=>.int (g i j)):=by
 intro pins s σ H x y v u Q I rx ry h
 obtain ⟨i,j,rfl,rfl,q⟩:=h
 obtain ⟨t,rfl⟩:=rx
 obtain ⟨t',rfl⟩:=ry
 exact rule i j t t' s _ _ ⟨.int (g i j),H,I.tok _,⟨_,rfl⟩,q⟩
theorem opB0 {f:Value→Value→Sem Value} {g:Int→Int→Bool}
  (rule:∀ (i j:Int) (t u:Tok) (s:Shared) (Q:Value→Shared→Prop) (E:Value→Shared→Prop),Q (.bool (g i j)) s→wpAny (model X.prog X.w) X.A (f (.int i t) (.int j u)) Q E s) :
  OpR X f (rI0 fun i j=>.bl (g i j)):=by
 intro pins s σ H x y v u Q I rx ry h
 obtain ⟨i,j,rfl,rfl,q⟩:=h
 obtain ⟨t,rfl⟩:=rx
 obtain ⟨t',rfl⟩:=ry
 exact rule i j t t' s _ _ ⟨.bl (g i j),H,I,rfl,q⟩
def CPow (i j:Int):Prop:=0≤j∧j≤1000000∧i.natAbs < 2 ^ 64
theorem Zf1:OpR X (binaryOp .Add) (rI0 fun i j=>.int (i + j)):=opI0 fun _ _ _ _ _ _ _ q=>add_int q
theorem op_sub:OpR X (binaryOp .Sub) (rI0 fun i j=>.int (i - j)):=opI0 fun _ _ _ _ _ _ _ q=>sub_int q
theorem ZbY:OpR X (binaryOp .Mod) (rI (fun _ j=>0 < j) fun i j=>.int (i % j)):=opI fun i j _ _ _ _ _ hc q=>by
 have h1:(0:Int) < j:=hc
 exact mod_int' (by omega) (by rw [Int.fmod_eq_emod_of_nonneg i (by omega)]; exact q)
theorem Zgb:OpR X (binaryOp .Pow) (rI CPow fun i j=>.int (i ^ j.toNat)):=opI fun _ _ _ _ _ _ _ hc q=>pow_int_small hc.1 hc.2.1 hc.2.2 q
theorem unI {f:Value→Sem Value} {g:Int→Int}
  (rule:∀ (i:Int) (t:Tok) (s:Shared) (Q:Value→Shared→Prop) (E:Value→Shared→Prop),Q (.int (g i) s.toks) { s with toks:=s.toks + 1 }→wpAny (model X.prog X.w) X.A (f (.int i t)) Q E s) :
  UnR X f (rU fun i=>.int (g i)):=by
 intro pins s σ H x v Q I rx h
 obtain ⟨i,rfl,q⟩:=h
 obtain ⟨t,rfl⟩:=rx
 exact rule i t s _ _ ⟨.int (g i),H,I.tok _,⟨_,rfl⟩,q⟩
theorem un_neg:UnR X (unaryOp .USub) (rU fun i=>.int (-i)):=unI fun _ _ _ _ _ q=>neg_int q
end
section
variable {X:Cx} {a b c:Expr} {ta tb tc:TE} {pos:Pos}
theorem Zll {pins:List (Addr×Obj)} {σ:St} {H:Hp} {s:Shared} {Q:VK} {k k':Bool} (I:Inv X pins σ H s) (q:Q (.bl k) H) (e:k=k'):EP X pins σ Q (.bool k') s:=by
 subst e
 exact ⟨.bl k,H,I,rfl,q⟩
theorem Zej:OpR X (compareOp .Lt) (rI0 fun i j=>.bl (decide (i < j))):=opB0 fun _ _ _ _ _ _ _ q=>lt_int q
theorem op_le:OpR X (compareOp .LtE) (rI0 fun i j=>.bl (decide (i≤j))):=opB0 fun _ _ _ _ _ _ _ q=>le_int q
theorem op_gt:OpR X (compareOp .Gt) (rI0 fun i j=>.bl (decide (j < i))):=opB0 fun _ _ _ _ _ _ _ q=>gt_int q
theorem op_ge:OpR X (compareOp .GtE) (rI0 fun i j=>.bl (decide (j≤i))):=opB0 fun _ _ _ _ _ _ _ q=>ge_int q
theorem op_isN:OpR X (compareOp .Is) (fun x y H Q=>y=.non∧Q (.bl (decide (x=.non))) H):=by
 intro pins s σ H x y v u Q I rx ry h
 obtain ⟨rfl,q⟩:=h
 cases ry
 refine is_none_gen (Zll I q ?_)
 cases x <;> first
  | (cases rx; rfl)
  | (obtain ⟨t,rfl⟩:=rx; rfl)
theorem Zno:OpR X (compareOp .IsNot) (fun x y H Q=>y=.non∧Q (.bl (!decide (x=.non))) H):=by
 intro pins s σ H x y v u Q I rx ry h
 obtain ⟨rfl,q⟩:=h
 cases ry
 refine isnot_none_gen (Zll I q ?_)
 cases x <;> first
  | (cases rx; rfl)
  | (obtain ⟨t,rfl⟩:=rx; rfl)
theorem Zaq (b:Expr) {op:CmpOp} (h:op≠.In:=by decide) (h2:op≠.NotIn:=by decide):behindInMarks op b=false:=by
 have e1:(op == CmpOp.In)=false:=by cases op <;> first | rfl | exact absurd rfl h
 have e2:(op == CmpOp.NotIn)=false:=by cases op <;> first | rfl | exact absurd rfl h2
 cases b <;> simp [behindInMarks,e1,e2]
theorem Zff {op:CmpOp} {r:R2} (ho:OpR X (compareOp op) r) (ha:PE X a ta) (hb:PE X b tb) (hm:behindInMarks op b=false):PE X (.Compare a [op] [b] pos) (tOp r ta tb):=by
 intro pins s σ H Q I h
 exact wpAny_Compare1 (binT ha hb I h fun v u s2 x y H2 I2 rx ry q=>ho pins s2 σ H2 x y v u Q I2 rx ry q) hm
def tTest (t:TE):TT:=fun σ H Q=>t σ H fun x H'=>∃ k,x=.bl k∧Q k H'
theorem ZbC {op:CmpOp} {r:R2} (ho:OpR X (compareOp op) r) (ha:PE X a ta) (hb:PE X b tb) (hm:behindInMarks op b=false):PT X (.Compare a [op] [b] pos) (tTest (tOp r ta tb)):=by
 intro pins s σ H Q I h
 refine wpAny_isTrue_Compare1 (thn (ha pins s σ H _ I h) fun v s1 ⟨x,H1,I1,r1,q1⟩=>thn (hb pins s1 σ H1 _ I1 q1) fun u s2 ⟨y,H2,I2,r2,q2⟩ =>
  thn (ho pins s2 σ H2 x y v u _ I2 r1 r2 q2) fun c s3 ⟨z,H3,I3,r3,k,e,q3⟩=>?_) hm
 subst e
 cases r3
 exact wpAny_truthy_bool ⟨H3,I3,q3⟩
theorem Zgc:(sizeLine:Nat) < 2 ^ 63:=by rw [sizeLine_eq]; decide
theorem ZeQ {x:V} {us:List Value} (r:Vals [x] us):∃ u,us=[u]∧RelV x u:=by
 cases r with
 | cons r1 r2=>cases r2; exact ⟨_,rfl,r1⟩
theorem vals2 {x y:V} {us:List Value} (r:Vals [x,y] us):∃ u w',us=[u,w']∧RelV x u∧RelV y w':=by
 cases r with
 | cons r1 r2 =>
  cases r2 with
  | cons r3 r4=>cases r4; exact ⟨_,_,rfl,r1,r3⟩
theorem ZjG:ZeK X (.builtin "abs") (fun xs H Q=>∃ i,xs=[.int i]∧Q (.int (if i < 0 then -i else i)) H):=by
 intro pins s σ H xs us Q I r h
 obtain ⟨i,rfl,q⟩:=h
 obtain ⟨u,rfl,t,rfl⟩:=ZeQ r
 exact call_abs_int fun u tk=>⟨.int (if i < 0 then -i else i),H,I.tok _,⟨_,rfl⟩,q⟩
end
theorem RelO.some_of {v:V} {o:Option Value} (r:RelO (some v) o):∃ u,o=some u∧RelV v u:=by
 cases o with
 | none=>exact (show False from r).elim
 | some u=>exact ⟨u,rfl,r⟩
structure Room (k:Nat) (A:Around):Prop where
 hd:A.handled=none
 dp:A.depth + 3 * k + 5 < recursionLimit
 un:A.units + 16 * k + 200 < cLine
theorem Room.mono {j k:Nat} {A:Around} (r:Room k A) (h:j≤k):Room j A:=⟨r.hd,by have:=r.dp; omega,by have:=r.un; omega⟩
theorem Room.deeper {k:Nat} {A:Around} (r:Room (k + 1) A) (env:Env):Room k (A.deeper env) :=
 ⟨r.hd,by have:=r.dp; show A.depth + 1 + 3 * k + 5 < _; omega,by have:=r.un; show A.units + 3 + 16 * k + 200 < _; omega⟩
theorem Room.depth {k:Nat} {A:Around} (r:Room k A):A.depth < recursionLimit:=by have:=r.dp; omega
theorem Room.units {k:Nat} {A:Around} (r:Room k A):A.units + 64 < cLine:=by have:=r.un; omega
def tNil:TA:=fun _ H Q=>Q [] H
def Znr (ta:TE) (tr:TA):TA:=fun σ H Q=>ta σ H fun x H1=>tr σ H1 fun xs H2=>Q (x :: xs) H2
section
variable {X:Cx} {e:Expr} {es:List Expr} {te:TE} {t:TA} {pos:Pos}
theorem ZaR:PA X [] tNil:=fun _ _ _ _ H Q I h=>Calls.spliced_nil ⟨[],H,I,.nil,h⟩
theorem Zau (ha:PE X e te) (hr:PA X es t) (hs:starEach (e :: es) X.env=(false,eval e X.env) :: starEach es X.env:=by rfl):PA X (e :: es) (Znr te t):=by
 intro pos pins s σ H Q I h
 rw [hs]
 show wpAny _ _ (spliced ((false,eval e X.env) :: backTo pos (starEach es X.env))) _ _ s
 refine Calls.spliced_cons (thn (ha pins s σ H _ I h) fun u s1 ⟨x,H1,I1,r1,q1⟩=>?_)
 exact thn (hr pos pins s1 σ H1 _ I1 q1) fun us s2 ⟨xs,H2,I2,r2,q2⟩=>⟨x :: xs,H2,I2,.cons r1 r2,q2⟩
def tTup (t:TA):TE:=fun σ H Q=>t σ H fun xs H1=>xs.length≤sizeLine∧∀ p,H1 p=none→Q (.ref p) (upd H1 p (.tup xs))
def tLst (t:TA):TE:=fun σ H Q=>t σ H fun xs H1=>xs.length≤sizeLine∧∀ p,H1 p=none→Q (.ref p) (upd H1 p (.lst xs))
theorem pe_tup {x1} (h:PA X es t):PE X (.Tuple es x1 pos) (tTup t):=by
 intro pins s σ H Q I hq
 refine wpAny_Tuple_spliced (thn (h pos pins s σ H _ I hq) fun us s1 ⟨xs,H1,I1,r,z,q⟩=>⟨by rw [← r.length]; exact z,?_⟩)
 have hf:H1 s1.heap.objs.size=none:=I1.hok.fresh (Nat.le_refl _)
 refine ⟨.ref s1.heap.objs.size,upd H1 s1.heap.objs.size (.tup xs),I1.laid (t':=s1.toks) (fun b u e=>Heap.get?_push_of_some _ e) (Nat.le_refl _) ?_,rfl,q _ hf⟩
 exact ⟨z,us,r,⟨_,Heap.get?_push_size _ rfl,rfl,_,rfl⟩⟩
theorem ZhS (h:PA X es t):PE X (.List es pos) (tLst t):=by
 intro pins s σ H Q I hq
 refine wpAny_List_spliced (thn (h pos pins s σ H _ I hq) fun us s1 ⟨xs,H1,I1,r,z,q⟩=>⟨by rw [← r.length]; exact z,?_⟩)
 have hf:H1 s1.heap.objs.size=none:=I1.hok.fresh (Nat.le_refl _)
 refine ⟨.ref s1.heap.objs.size,upd H1 s1.heap.objs.size (.lst xs),I1.laid (t':=s1.toks) (fun b u e=>Heap.get?_push_of_some _ e) (Nat.le_refl _) ?_,rfl,q _ hf⟩
 exact ⟨z,us,0,r,Heap.get?_push_size _ rfl⟩
end
abbrev Sp:=List V→Hp→VK→XK→Prop
abbrev CXT:=List Env→Hp→Shared→XK→Value→Shared→Prop
structure Env0 (P:Program) (w:World) (K:PySem.W.Frag) (mg:Str→Option Value) (base:Heap) (A:Around) (outer:List Env) (s:Shared) (H:Hp):Prop where
 frames:A.frames=some outer
 mod:Mod K mg base
 bs:∀ b o,base.get? b=some o→s.heap.get? b=some o∧H b=none
 bsz:base.objs.size≤s.heap.objs.size
 funs:s.heap.FunFrames base outer
 frf:∀ b∈frs outer,H b=none
 hok:HOk P w H s.heap
 bare:AllBare s.gens
def CE (outer:List Env) (P:Program) (w:World) (H:Hp) (s:Shared) (Q:VK) (u:Value) (s':Shared):Prop :=
 ∃ v H',s'.os=s.os∧AllBare s'.gens∧Un (frs outer) [] H H' s.heap s'.heap∧HOk P w H' s'.heap∧RelV v u∧Q v H'
def CR (CX:CXT) (outer:List Env) (P:Program) (w:World) (H:Hp) (s:Shared) (Q:VK) (E:XK) (r:Result) (s':Shared):Prop :=
 match r with
 | .ok (.ret u)=>CE outer P w H s Q u s'
 | .ok _=>False
 | .error e=>CX outer H s E e s'
structure FnOk (P:Program) (w:World) (K:PySem.W.Frag) (mg:Str→Option Value) (base:Heap) (CX:CXT) (k:Nat) (f:Addr) (fd:FuncData) (ps:List Str) (sp:Sp):Prop where
 len:∀ vs H Q E,sp vs H Q E→vs.length=ps.length
 run:∀ (A:Around) (outer:List Env) (s:Shared) (H:Hp) (args:Args) (us:List Value) (vs:List V) (Q:VK) (E:XK),Room k A→Env0 P w K mg base A outer s H→BindsTo s fd args (ps.zip us)→Vals vs us→sp vs H Q E →
  codeAny (model P w) A (.call (.ref f) args) (CR CX outer P w H s Q E) s
theorem FnOk.imp {P:Program} {w:World} {K:PySem.W.Frag} {mg:Str→Option Value} {base:Heap} {CX:CXT} {k:Nat} {f:Addr} {fd:FuncData} {ps:List Str} {sp sp':Sp} (F:FnOk P w K mg base CX k f fd ps sp)
  (h:∀ vs H Q E,sp' vs H Q E→sp vs H Q E):FnOk P w K mg base CX k f fd ps sp' :=
 ⟨fun vs H Q E q=>F.len vs H Q E (h _ _ _ _ q),fun A outer s H args us vs Q E hr he hb hv hs=>F.run A outer s H args us vs Q E hr he hb hv (h _ _ _ _ hs)⟩
section
variable {X:Cx} {pins:List (Addr×Obj)} {σ:St} {H:Hp} {s s':Shared}
theorem Inv.env0 (I:Inv X pins σ H s):Env0 X.prog X.w X.K X.mg X.base X.A X.stack s H :=
 ⟨I.ok.frames,I.ok.mod,I.bs,Nat.le_trans I.ok.bsz I.sz,I.stack,I.stkFree,I.hok,I.bare⟩
theorem Inv.after {Q:VK} {u:Value} (I:Inv X pins σ H s) (h:CE X.stack X.prog X.w H s Q u s'):EP X pins σ Q u s':=by
 obtain ⟨v,H',os,bare,un,hok,r,q⟩:=h
 obtain ⟨hh,g,d,t,os'⟩:=s'
 obtain rfl:os'=s.os:=os
 exact ⟨v,H',I.call (h':=hh) (g':=g) (d':=d) (t':=t) (ch:=[]) un hok bare (fun b z=>absurd z (by simp)),r,q⟩
end
def tCall (sp:Sp) (dvs:List V) (E:XK) (t:TA):TE:=fun σ H Q=>t σ H fun vs H1=>sp (vs ++ dvs) H1 Q E
def Binds (K:PySem.W.Frag) (fd:FuncData) (ps:List Str) (ds:List Value):Prop :=
 ∀ (s:Shared) (us:List Value),K.In s.heap→(us ++ ds).length=ps.length→BindsTo s fd ⟨us,[]⟩ (ps.zip (us ++ ds))
theorem Binds.all {K:PySem.W.Frag} {fd:FuncData} {ps:List Str} (h:∀ us:List Value,us.length=ps.length→bindArgs fd ⟨us,[]⟩=pure (ps.zip us)):Binds K fd ps []:=fun s us _ hl=>by
 rw [List.append_nil] at hl ⊢
 exact .of_eq (h us hl)
def Zhq (CX:CXT) (X:Cx) (E:XK):Prop:=∀ (pins:List (Addr×Obj)) (σ:St) (H:Hp) (s:Shared) (e:Value) (s':Shared),Inv X pins σ H s→CX X.stack H s E e s'→X.xe e s'
section
variable {X:Cx} {CX:CXT} {k:Nat} {f C:Addr} {fd:FuncData} {ps:List Str} {sp:Sp} {dvs:List V} {ds:List Value} {E:XK} {x m:Str} {p pos apos:Pos} {e o:Expr} {es:List Expr} {ta:TE} {t:TA}
theorem run_fn {pins:List (Addr×Obj)} {σ:St} {H:Hp} {s:Shared} {Q:VK} {us:List Value} {vs:List V} (F:FnOk X.prog X.w X.K X.mg X.base CX k f fd ps sp) (hr:Room k X.A) (hb:Binds X.K fd ps ds) (hd:Vals dvs ds) (hx:Zhq CX X E)
  (I:Inv X pins σ H s) (r:Vals vs us) (h:sp (vs ++ dvs) H Q E):wpAny (model X.prog X.w) X.A (call (.ref f) us) (EP X pins σ Q) X.xe s:=by
 have r2:Vals (vs ++ dvs) (us ++ ds):=r.append hd
 have hl:(us ++ ds).length=ps.length:=by rw [← r2.length]; exact F.len _ _ _ _ h
 refine wpAny_call (codeAny_mono (F.run X.A X.stack s H ⟨us,[]⟩ (us ++ ds) (vs ++ dvs) Q E hr I.env0 (hb s us I.kIn hl) r2 h) fun r s' hq=>?_)
 cases r with
 | error e=>exact hx pins σ H s e s' I hq
 | ok fl =>
  cases fl with
  | ret u=>exact I.after hq
  | next=>exact False.elim hq
  | brk=>exact False.elim hq
  | cont=>exact False.elim hq
theorem Zmb (F:FnOk X.prog X.w X.K X.mg X.base CX k f fd ps sp) (hr:Room k X.A) (hg:Gl X x) (hm:X.mg x=some (.ref f)) (hk:PySem.W.keepIn X.K (.ref f)=true) (hb:Binds X.K fd ps ds) (hd:Vals dvs ds) (hx:Zhq CX X E)
  (ha:PA X (e :: es) t) (hdb:(x == ("__debug__" : Str))=false:=by decide) (he:starEach (e :: es) X.env=(false,eval e X.env) :: starEach es X.env:=by rfl) (hpl:(backTo pos (starEach es X.env)).any (·.1)=false:=by rfl) :
  PE X (.Call (.Name x p) (e :: es) [] pos) (tCall sp dvs E t):=by
 intro pins s σ H Q I h
 refine wpAny_Call_Name_kw (Zml I hg hm ?_ hdb)
 refine PySem.W.callWith_K (h₀:=X.base) I.ok.mod.kin hk (thn (ha pos pins s σ H _ I h) fun us s1 ⟨vs,H1,I1,r,q⟩=>⟨I1.kIn,?_⟩) he hpl
 exact run_fn F hr hb hd hx I1 r q
end
structure FnScope (N P:List Str) (sc:Scope):Prop where
 kind:sc.kind=.function
 co:sc.isCoroutine=false
 gen:sc.isGenerator=false
 nd:N.Nodup
 pre:N.take P.length=P
 par:∀ x∈P,sc.names.lookup x=some .local∨sc.names.lookup x=some .cell
 nofree:∀ y∈sc.names,y.2≠.free
theorem Zey {kindOf:Str→Option NameKind} {x:Str}:∀ {binds:List (Str×Value)} {m:Str→Option Value},(∀ v,(x,v) ∉ binds)→bindL kindOf binds m x=m x
 | [],_,_=>rfl
 | (n,v) :: r,m,h=>by
  unfold bindL
  rw [Zey fun w hw=>h w (List.mem_cons_of_mem _ hw)]
  split
  ·have:x≠n:=by rintro rfl; exact h v List.mem_cons_self
   simp [this]
  ·rfl
theorem ZeE {kindOf:Str→Option NameKind} {x:Str}:∀ {binds:List (Str×Value)} {m:Str→Option Value},(∀ v,(x,v) ∉ binds)→bindC kindOf binds m x=m x
 | [],_,_=>rfl
 | (n,v) :: r,m,h=>by
  unfold bindC
  rw [ZeE fun w hw=>h w (List.mem_cons_of_mem _ hw)]
  split
  ·rfl
  ·have:x≠n:=by rintro rfl; exact h v List.mem_cons_self
   simp [this]
theorem ZeG {kindOf:Str→Option NameKind} {x:Str} {v:Value}:∀ {P:List Str} {vs:List Value} {i:Nat} {m:Str→Option Value},P.Nodup→P[i]?=some x→vs[i]?=some v→kindOf x=some .local →
  bindL kindOf (P.zip vs) m x=some v
 | [],_,_,_,_,h,_,_=>by simp at h
 | _ :: _,[],_,_,_,_,h,_=>by simp at h
 | p :: P,w :: vs,0,m,nd,h1,h2,hk=>by
  simp at h1 h2; subst h1; subst h2
  show bindL kindOf ((p,w) :: P.zip vs) m p=_
  unfold bindL
  rw [Zey fun v hv=>(List.nodup_cons.mp nd).1 (List.of_mem_zip hv).1,if_pos hk]
  simp
 | p :: P,w :: vs,i + 1,m,nd,h1,h2,hk=>by
  show bindL kindOf ((p,w) :: P.zip vs) m x=_
  unfold bindL
  exact ZeG (i:=i) (List.nodup_cons.mp nd).2 (by simpa using h1) (by simpa using h2) hk
theorem ZeH {kindOf:Str→Option NameKind} {x:Str} {v:Value}:∀ {P:List Str} {vs:List Value} {i:Nat} {m:Str→Option Value},P.Nodup→P[i]?=some x→vs[i]?=some v→kindOf x≠some .local →
  bindC kindOf (P.zip vs) m x=some v
 | [],_,_,_,_,h,_,_=>by simp at h
 | _ :: _,[],_,_,_,_,h,_=>by simp at h
 | p :: P,w :: vs,0,m,nd,h1,h2,hk=>by
  simp at h1 h2; subst h1; subst h2
  show bindC kindOf ((p,w) :: P.zip vs) m p=_
  unfold bindC
  rw [ZeE fun v hv=>(List.nodup_cons.mp nd).1 (List.of_mem_zip hv).1,if_neg hk]
  simp
 | p :: P,w :: vs,i + 1,m,nd,h1,h2,hk=>by
  show bindC kindOf ((p,w) :: P.zip vs) m x=_
  unfold bindC
  exact ZeH (i:=i) (List.nodup_cons.mp nd).2 (by simpa using h1) (by simpa using h2) hk
def start (N:List Str) (vs:List V):St:=vs.map some ++ List.replicate (N.length - vs.length) none
def cxOf (CX:CXT) (P:Program) (w:World) (K:PySem.W.Frag) (mg:Str→Option Value) (base:Heap) (N:List Str) (qual:Str) (scope:Scope) (f:Addr) (cd:Value) (A:Around) (outer:List Env) (s:Shared) (H:Hp) (E:XK):Cx where
 prog:=P
 w:=w
 K:=K
 mg:=mg
 base:=base
 A:=A.deeper (envOfC qual scope s.heap.objs.size f cd)
 N:=N
 s₀:=s
 H₀:=H
 env:=envOfC qual scope s.heap.objs.size f cd
 outer:=outer
 stack:=envOfC qual scope s.heap.objs.size f cd :: outer
 ex:=[]
 calm:=true
 fn:=fun _=>true
 pn:=[]
 xe:=fun e s'=>wpAny (model P w) (A.deeper (envOfC qual scope s.heap.objs.size f cd)) (leaving (envOfC qual scope s.heap.objs.size f cd) e) (fun _ s''=>CX outer H s E e s'') (fun e' s''=>CX outer H s E e' s'') s'
theorem Zgi {sc:Scope} {n:Nat} {x:Str} (h:sc.names.lookup x=some .cell):∃ c,(cellsFrom n sc.names []).lookup x=some c:=by
 have q:=PySem.W.cellsFrom_some sc.names n [] (.inl h)
 exact Option.isSome_iff_exists.mp q
theorem Zh4 {CX:CXT} {P:Program} {w:World} {K:PySem.W.Frag} {mg:Str→Option Value} {base:Heap} {N ps:List Str} {qual:Str} {scope:Scope} {f:Addr} {cd:Value} {A:Around} {outer:List Env} {s s1:Shared} {H:Hp} {E:XK} {us:List Value} {vs:List V}
  (S:FnScope N ps scope) (hd:A.handled=none) (e0:Env0 P w K mg base A outer s H) (hl:vs.length=ps.length) (r:Vals vs us)
  (x:InCallC s s.heap.objs.size (bindL (envOfC qual scope s.heap.objs.size f cd).kindOf (ps.zip us) fun _=>none) (cellsFrom (s.heap.objs.size + 1) scope.names []) (bindC (envOfC qual scope s.heap.objs.size f cd).kindOf (ps.zip us) fun _=>none) s1) :
  Inv (cxOf CX P w K mg base N qual scope f cd A outer s H E) [] (start N vs) H s1:=by
 have hpl:ps.length≤N.length:=by have:=congrArg List.length S.pre; rw [List.length_take] at this; omega
 obtain ⟨h1,tk,rfl,hk⟩:=x.done
 have noA:∀ b:Addr,b ∉ (cxOf CX P w K mg base N qual scope f cd A outer s H E).ex:=fun b z=>absurd (show b∈([]:List Addr) from z) (by simp)
 refine ⟨⟨e0.mod,S.kind,rfl,rfl,Nat.le_refl _,fun y z c h1 h2=>?_,fun y hy=>?_,fun y c _ h=>?_,fun _=>hd,Around.frames_deeper e0.frames,.inr ⟨rfl,rfl⟩,fun b z=>absurd z (noA b),e0.bs,e0.bsz,fun b _ _=>noA b,fun b z=>absurd z (noA b),e0.funs,e0.frf⟩,
  rfl,e0.bare,Un.kept hk,⟨_,x.toInCall.ns,fun i y v h1 h2 h3=>?_⟩,fun y c h=>⟨_,x.cell y c h⟩,e0.hok.fresh (Nat.le_refl _),fun y c h=>?_,fun p hp=>absurd (show p∈([]:List (Addr×Obj)) from hp) (by simp),e0.hok.kept hk,?_⟩
 ·exact name_of_addr x.apart (PySem.mem_of_lookup h1) (PySem.mem_of_lookup h2)
 ·have hy:scope.names.lookup y=some .cell∨scope.names.lookup y=some .free:=hy
  rcases hy with hy | hy
  ·exact Zgi hy
  ·exact absurd rfl (S.nofree _ (PySem.mem_of_lookup hy))
 ·exact Nat.le_of_lt (x.above y c (PySem.mem_of_lookup h))
 ·have hi:i < vs.length:=by
   unfold start at h2
   by_cases hi:i < vs.length
   ·exact hi
   ·rw [List.getElem?_append_right (by simpa using hi)] at h2
    rw [List.getElem?_replicate] at h2
    split at h2 <;> cases h2
  have ha:vs[i]?=some v:=by
   unfold start at h2
   rw [List.getElem?_append_left (by simpa using hi),List.getElem?_map] at h2
   cases e:vs[i]? with
   | none=>rw [e] at h2; cases h2
   | some a=>rw [e] at h2; cases h2; rfl
  obtain ⟨u,hu,rv⟩:=r.get ha
  have hp:ps[i]?=some y:=by
   rw [← S.pre,List.getElem?_take_of_lt (by omega)]; exact h1
  have ndP:ps.Nodup:=by rw [← S.pre]; exact S.nd.sublist (List.take_sublist _ _)
  refine ⟨u,rv,?_⟩
  rcases S.par y (List.mem_of_getElem? hp) with k | k
  ·exact .inl ⟨k,ZeG ndP hp hu k⟩
  ·obtain ⟨c,e⟩:=Zgi (n:=s.heap.objs.size + 1) k
   refine .inr ⟨.inl k,c,e,?_⟩
   have q:=x.cell y c e
   rw [ZeH ndP hp hu (by show scope.names.lookup y≠_; rw [k]; decide)] at q
   exact q
 ·exact e0.hok.fresh (Nat.le_of_lt (x.above y c (PySem.mem_of_lookup h)))
 ·unfold start
  show _=N.length
  rw [List.length_append,List.length_map,List.length_replicate]
  omega
theorem fn_of {CX:CXT} {P:Program} {w:World} {K:PySem.W.Frag} {mg:Str→Option Value} {base:Heap} {k:Nat} {f:Addr} {name qual:Str} {params:Arguments} {body:List Stmt} {scope:Scope} {dV kV doc pm cdv ct oc:Value} {an od:Option Addr}
  {osl:Array (Option Value)} {N ps:List Str} {sp:Sp} (lk:K.lookup f=some ⟨oc,od,.func (PySem.W.fnOf name qual params body scope dV kV doc pm an cdv ct),osl⟩) (hcd:PySem.W.codeIn K cdv qual=true) (S:FnScope N ps scope)
  (len:∀ vs H Q E,sp vs H Q E→vs.length=ps.length)
  (hbody:∀ (A:Around) (outer:List Env) (s:Shared) (H:Hp) (vs:List V) (Q:VK) (E:XK),Room k (A.deeper (envOfC qual scope s.heap.objs.size f cdv))→sp vs H Q E →
   ∃ t,PSs (cxOf CX P w K mg base N qual scope f cdv A outer s H E) body t∧t { nx:=fun _ H'=>Q .non H',rt:=Q } (start N vs) H) :
  FnOk P w K mg base CX (k + 1) f (PySem.W.fnOf name qual params body scope dV kV doc pm an cdv ct) ps sp:=by
 refine ⟨len,fun A outer s H args us vs Q E hr e0 hb r hsp=>?_⟩
 have hl:=len _ _ _ _ hsp
 have KX:K.In s.heap:=e0.mod.kin.keeps fun b o e=>(e0.bs b o e).1
 have lim:s.heap.NoLimit:=e0.mod.nolimit.keeps fun b o e=>(e0.bs b o e).1
 have hkind:∀ y∈ps.zip us,scope.names.lookup y.1=some .local∨(scope.names.lookup y.1=some .cell∧((cellsFrom (s.heap.objs.size + 1) scope.names []).lookup y.1).isSome=true):=fun ⟨n,v⟩ hy=>by
  rcases S.par n (List.of_mem_zip hy).1 with q | q
  ·exact .inl q
  ·exact .inr ⟨q,PySem.W.cellsFrom_some _ _ _ (.inl q)⟩
 refine codeAny_call_function hr.depth (KX _ _ lk) rfl S.co S.gen rfl (PySem.W.codeRec_of KX hcd) (hb _ _ _ _ ?_)
 refine wpAny_newFunctionEnv_cells S.kind hkind fun env he s1 x=>?_
 subst he
 refine ⟨lim.keeps x.toInCall.keep,codeAny_func ?_⟩
 obtain ⟨t,ht,hq⟩:=hbody A outer s H vs Q E (hr.deeper _) hsp
 have I:Inv (cxOf CX P w K mg base N qual scope f cdv A outer s H E) [] (start N vs) H s1:=Zh4 S hr.hd e0 hl r x
 refine wpAny_mono (ht [] s1 (start N vs) H _ I hq) (fun fl s' hs=>?_) fun e s' hs=>hs
 have fin:∀ {σ':St} {H':Hp} {v:V} {u:Value},Inv (cxOf CX P w K mg base N qual scope f cdv A outer s H E) [] σ' H' s'→RelV v u→Q v H'→CE outer P w H s Q u s' :=
  fun {σ' H' v u} J rv q=>⟨v,H',J.os,J.bare,J.base,J.hok,rv,q⟩
 cases fl with
 | ret u =>
  obtain ⟨v,σ',H',J,rv,q⟩:=hs
  exact fin J rv q
 | next =>
  obtain ⟨σ',H',J,q⟩:=hs
  exact fin (v:=V.non) (u:=Value.none) J rfl q
 | brk =>
  obtain ⟨_,_,_,q⟩:=hs
  exact False.elim q
 | cont =>
  obtain ⟨_,_,_,q⟩:=hs
  exact False.elim q
section
variable {X:Cx} {x:Str} {p pos:Pos} {e:Expr} {es:List Expr} {t:TA} {id T:String} {r:List V→Hp→VK→Prop}
def tCB (r:List V→Hp→VK→Prop) (t:TA):TE:=fun σ H Q=>t σ H fun vs H1=>r vs H1 Q
theorem Zbv (hc:ZeK X (.builtin id) r) (hg:Gl X x) (hm:X.mg x=none) (hv:bootBuiltins x=some (.builtin id)) (ha:PA X (e :: es) t) (hn:x ≠ "__name__" := by decide) (hdb:(x == ("__debug__" : Str))=false:=by decide)
  (he:starEach (e :: es) X.env=(false,eval e X.env) :: starEach es X.env:=by rfl) (hpl:(backTo pos (starEach es X.env)).any (·.1)=false:=by rfl):PE X (.Call (.Name x p) (e :: es) [] pos) (tCB r t):=by
 intro pins s σ H Q I h
 refine wpAny_Call_Name_kw (Zbs I hg hm hv ?_ hn hdb)
 exact PyProof.Rows.callWith_builtin1 (thn (ha pos pins s σ H _ I h) fun us s1 ⟨vs,H1,I1,r1,q1⟩=>hc pins s1 σ H1 vs us Q I1 r1 q1) he hpl
theorem ZhN (hc:ZeK X (.type T) r) (hg:Gl X x) (hm:X.mg x=none) (hv:bootBuiltins x=some (.type T)) (ha:PA X (e :: es) t) (hn:x ≠ "__name__" := by decide) (hdb:(x == ("__debug__" : Str))=false:=by decide)
  (he:starEach (e :: es) X.env=(false,eval e X.env) :: starEach es X.env:=by rfl) (hpl:(backTo pos (starEach es X.env)).any (·.1)=false:=by rfl):PE X (.Call (.Name x p) (e :: es) [] pos) (tCB r t):=by
 intro pins s σ H Q I h
 refine wpAny_Call_Name_kw (Zbs I hg hm hv ?_ hn hdb)
 exact PyProof.Rows.callWith_type1 (thn (ha pos pins s σ H _ I h) fun us s1 ⟨vs,H1,I1,r1,q1⟩=>hc pins s1 σ H1 vs us Q I1 r1 q1) he hpl
end
end L2
namespace HT
open PySem PyProof.Rows
section
open PySem.SeqAt
open PySem.AutoSeq1 (wpAny_loadPart')
open PySem.MeetsSeq PySem.MeetsSeq2 PySem.MeetsSeq3
end
section
variable {prog:Program} {w:World} {A:Around} {E:Value→Shared→Prop} {s:Shared}
def sIx (n d:Nat):Option Int→Nat
 | none=>d
 | some v=>if v < 0 then (v + (n:Int)).toNat else min v.toNat n
end
end HT
namespace L2
open PySem PySem.Spec PyProof.Rows
abbrev TO:=St→Hp→(Option Int→Hp→Prop)→Prop
def PO (X:Cx) (e:Option Expr) (t:TO):Prop :=
 ∀ (pins:List (Addr×Obj)) (s:Shared) (σ:St) (H:Hp) (Q:Option Int→Hp→Prop),Inv X pins σ H s→t σ H Q →
  wpAny (model X.prog X.w) X.A (evalPart e X.env) (fun u s'=>∃ o H',Inv X pins σ H' s'∧IsPart u o∧Q o H') X.xe s
def ZmR:TO:=fun _ H Q=>Q none H
def tPart (t:TE):TO:=fun σ H Q=>t σ H fun x H1=>∃ i,x=.int i∧Q (some i) H1
theorem Zdz {ns:List Int}:∀ {us:List Value},Vals (ns.map V.int) us→IntsAre us ns:=by
 induction ns with
 | nil=>intro us r; rw [List.map_nil] at r; cases r; exact .nil
 | cons n ns ih =>
  intro us r
  rw [List.map_cons] at r
  cases r with
  | cons r1 r2 =>
   obtain ⟨t,e⟩:=r1
   subst e
   exact .cons n t (ih r2)
section
variable {X:Cx} {e:Expr} {te:TE} {lo hi:Option Expr} {tl th:TO} {pos p2:Pos}
theorem Zm4:PO X none ZmR:=by
 intro pins s σ H Q I h
 rw [evalPart_none]
 exact wpAny_pure ⟨none,H,I,.none,h⟩
theorem ZmK (h:PE X e te):PO X (some e) (tPart te):=by
 intro pins s σ H Q I hw
 rw [evalPart_some]
 refine thn (h pins s σ H _ I hw) fun u s1 ⟨x,H1,I1,r1,q1⟩=>?_
 obtain ⟨i,rfl,q⟩:=q1
 obtain ⟨t,rfl⟩:=r1
 exact ⟨some i,H1,I1,.int i t,q⟩
def SlR (X:Cx) (r:V→Option Int→Option Int→Hp→VK→Prop):Prop :=
 ∀ (pins:List (Addr×Obj)) (s:Shared) (σ:St) (H:Hp) (x:V) (v vl vu:Value) (lo hi:Option Int) (sl:Addr) (Q:VK),Inv X pins σ H s→RelV x v→s.heap.IsSliceOf sl vl vu .none→IsPart vl lo→IsPart vu hi→r x lo hi H Q →
  ∃ T id,typeLookup (.type T) "__getitem__" = pure (some (.builtin id))∧s.TypeIs v T∧wpAny (model X.prog X.w) X.A (getItem v (.ref sl)) (EP X pins σ Q) X.xe s
def tSl (r:V→Option Int→Option Int→Hp→VK→Prop) (te:TE) (tl th:TO):TE:=fun σ H Q=>te σ H fun x H1=>tl σ H1 fun l H2=>th σ H2 fun u H3=>r x l u H3 Q
theorem Zj0 {r:V→Option Int→Option Int→Hp→VK→Prop} (hr:SlR X r) (he:PE X e te) (hl:PO X lo tl) (hu:PO X hi th):PE X (.Subscript e (.Slice lo hi none p2) pos) (tSl r te tl th):=by
 intro pins s σ H Q I h
 refine Subscript_ (thn (he pins s σ H _ I h) fun v s1 ⟨x,H1,I1,r1,q1⟩=>?_)
 refine wpAny_Slice (thn (hl pins s1 σ H1 _ I1 q1) fun vl s2 ⟨l,H2,I2,pl,q2⟩=>thn (hu pins s2 σ H2 _ I2 q2) fun vu s3 ⟨u,H3,I3,pu,q3⟩=>?_)
 rw [evalPart_none]
 refine wpAny_pure ?_
 have I4:Inv X pins σ H3 { s3 with heap:=s3.heap.push { cls:=.type "slice", data:=.fields #[vl,vu,.none] } }:=I3.kept (t':=s3.toks) fun b ob q=>Heap.get?_push_of_some _ q
 obtain ⟨T,id,hT,ht,hg⟩:=hr pins { s3 with heap:=s3.heap.push { cls:=.type "slice", data:=.fields #[vl,vu,.none] } } σ H3 x v vl vu l u s3.heap.objs.size Q I4 r1 (Heap.IsSliceOf.new ..) pl pu q3
 show wpAny (model X.prog X.w) X.A (subscriptTail e (.Slice lo hi none p2) v (.ref s3.heap.objs.size)) (EP X pins σ Q) X.xe { s3 with heap:=s3.heap.push { cls:=.type "slice", data:=.fields #[vl,vu,.none] } }
 exact tail_any (ops:=[.ref s3.heap.objs.size,v]) ht hT hg (by with_unfolding_all rfl)
def cutV (xs:List V) (lo hi:Option Int):List V:=(xs.drop (HT.sIx xs.length 0 lo)).take (HT.sIx xs.length xs.length hi - HT.sIx xs.length 0 lo)
theorem ZfG (xs:List V) (lo hi:Option Int):(cutV xs lo hi).length≤xs.length:=by
 unfold cutV
 rw [List.length_take,List.length_drop]
 omega
end
def ixN (n:Nat) (i:Int):Option Nat:=if 0≤i then (if i < n then some i.toNat else none) else if -(n:Int)≤i then some (i + n).toNat else none
def atI {α:Type} (xs:List α) (i:Int):Option α:=(ixN xs.length i).bind fun j=>xs[j]?
theorem Zin {n:Nat} {i:Int} {j:Nat} (h:ixN n i=some j):seqIndex? i n=some j∧j < n ∧ -(n:Int)≤i∧i < n:=by
 unfold ixN at h
 by_cases h0:0≤i
 ·rw [if_pos h0] at h
  by_cases h1:i < n
  ·rw [if_pos h1] at h
   have e:i.toNat=j:=Option.some.inj h
   exact ⟨by rw [seqIndex_of h0 h1,e],by omega,by omega,h1⟩
  ·rw [if_neg h1] at h; cases h
 ·rw [if_neg h0] at h
  by_cases h1 : -(n:Int)≤i
  ·rw [if_pos h1] at h
   have e:(i + n).toNat=j:=Option.some.inj h
   exact ⟨by rw [seqIndex_neg (by omega) h1,e],by omega,h1,by omega⟩
  ·rw [if_neg h1] at h; cases h
theorem Zjp {α:Type} {xs:List α} {i:Int} {v:α} (h:atI xs i=some v):∃ j,seqIndex? i xs.length=some j∧xs[j]?=some v∧j < xs.length ∧ -(xs.length:Int)≤i∧i < xs.length:=by
 unfold atI at h
 cases e:ixN xs.length i with
 | none=>rw [e] at h; cases h
 | some j =>
  rw [e] at h
  obtain ⟨h1,h2,h3,h4⟩:=Zin e
  exact ⟨j,h1,h,h2,h3,h4⟩
def Zfy (b:Expr):Prop:=∀ o i,subscripted b false o i=operate [o,i] (getItem o i)
def IxR (X:Cx) (r:R2):Prop :=
 ∀ (value slice:Expr) (pins:List (Addr×Obj)) (s:Shared) (σ:St) (H:Hp) (x y:V) (v u:Value) (Q:VK),Inv X pins σ H s→RelV x v→RelV y u→r x y H Q →
  subscripted slice false v u=operate [v,u] (getItem v u)→wpAny (model X.prog X.w) X.A (subscriptTail value slice v u) (EP X pins σ Q) X.xe s
def MtR (X:Cx) (id:String) (r:V→List V→Hp→VK→Prop):Prop :=
 ∀ (pins:List (Addr×Obj)) (s:Shared) (σ:St) (H:Hp) (x:V) (xs:List V) (v:Value) (us:List Value) (Q:VK),Inv X pins σ H s→RelV x v→Vals xs us→r x xs H Q →
  wpAny (model X.prog X.w) X.A (call (.builtin id) (v :: us)) (EP X pins σ Q) X.xe s
section
variable {X:Cx} {a b:Expr} {ta tb:TE} {pos:Pos}
theorem Zee {r:R2} (hr:IxR X r) (ha:PE X a ta) (hb:PE X b tb) (hs:Zfy b):PE X (.Subscript a b pos) (tOp r ta tb):=by
 intro pins s σ H Q I h
 exact Subscript_ (binT ha hb I h fun v u s2 x y H2 I2 rx ry q=>hr a b pins s2 σ H2 x y v u Q I2 rx ry q (hs _ _))
def rIxL (K:PySem.W.Frag):R2:=fun x y H Q=>∃ p xs i v,x=.ref p∧y=.int i∧SqL K H p xs∧atI xs i=some v∧Q v H
def rIxT (K:PySem.W.Frag):R2:=fun x y H Q=>∃ p xs i v,x=.ref p∧y=.int i∧SqT K H p xs∧atI xs i=some v∧Q v H
theorem ZhQ:IxR X (rIxL X.K):=by
 intro value slice pins s σ H x y v u Q I rx ry h hs
 obtain ⟨p,xs,i,z,rfl,rfl,hq,he,q⟩:=h
 cases rx
 obtain ⟨t,rfl⟩:=ry
 obtain ⟨its,r,pl,hz⟩:=I.list hq
 obtain ⟨j,h1,h2,h3,h4,h5⟩:=Zjp he
 obtain ⟨w,ew,rw'⟩:=r.get h2
 have hl:=r.length
 have hn:=Zgc
 have fin:EP X pins σ Q w s:=⟨z,H,I,rw',q⟩
 by_cases h0:0≤i
 ·have hj:i.toNat=j:=by
   rw [seqIndex_of h0 h5] at h1
   exact Option.some.inj h1
  exact item_listR pl.isList h0 (by omega) (by rw [hj]; simpa using ew) fin hs
 ·have hj:(i + (its.toArray.size:Int)).toNat=j:=by
   rw [seqIndex_neg (by omega) h4] at h1
   rw [List.size_toArray,← hl]
   exact Option.some.inj h1
  exact subscriptTail_builtinR (x:=w) pl.isList.typeIs slot_list_getitem.lookup
   (wpAny_getItem_list_neg (Q:=fun r s'=>r=w∧EP X pins σ Q r s') pl.isList (by omega) (by rw [List.size_toArray] <;> omega) (by omega) (by rw [hj]; simpa using ew) ⟨rfl,fin⟩) hs
theorem ix_tup:IxR X (rIxT X.K):=by
 intro value slice pins s σ H x y v u Q I rx ry h hs
 obtain ⟨p,xs,i,z,rfl,rfl,hq,he,q⟩:=h
 cases rx
 obtain ⟨t,rfl⟩:=ry
 obtain ⟨its,r,pl,hz⟩:=I.tuple hq
 obtain ⟨j,h1,h2,h3,h4,h5⟩:=Zjp he
 obtain ⟨w,ew,rw'⟩:=r.get h2
 have hl:=r.length
 have hn:=Zgc
 have fin:EP X pins σ Q w s:=⟨z,H,I,rw',q⟩
 exact subscriptTail_builtinR (x:=w) pl.typeIs slot_tuple_getitem.lookup
  (getItem_tuple (j:=j) (Q:=fun r s'=>r=w∧EP X pins σ Q r s') pl (by omega) (by omega) (by rw [List.size_toArray,← hl]; exact h1) (by simpa using ew) ⟨rfl,fin⟩) hs
theorem Zhk (its:List Value) (n j:Nat) (u:Value):Obj.mapSeq (·.setIfInBounds j u) { cls:=.type "list", data:=.seq its.toArray n }={ cls:=.type "list", data:=.seq (its.set j u).toArray n }:=by
 simp [Obj.mapSeq]
theorem Inv.lst {pins:List (Addr×Obj)} {σ:St} {H:Hp} {s:Shared} {p:Addr} {xs:List V} (I:Inv X pins σ H s) (h:H p=some (.lst xs)) :
  ∃ (its:List Value) (n:Nat),Vals xs its∧s.heap.get? p=some { cls:=.type "list", data:=.seq its.toArray n }∧xs.length≤sizeLine:=by
 obtain ⟨z,its,n,r,e⟩:=I.hok p _ h
 exact ⟨its,n,r,e,z⟩
theorem Inv.lstUpd {pins:List (Addr×Obj)} {σ:St} {H:Hp} {s:Shared} {p:Addr} {xs ys:List V} {its its':List Value} {n n':Nat} {f:Obj→Obj} (I:Inv X pins σ H s) (h:H p=some (.lst xs))
  (ho:s.heap.get? p=some { cls:=.type "list", data:=.seq its.toArray n }) (hf:f { cls:=.type "list", data:=.seq its.toArray n }={ cls:=.type "list", data:=.seq its'.toArray n' }) (r:Vals ys its') (hz:ys.length≤sizeLine) (t:Nat) :
  Inv X pins σ (upd H p (.lst ys)) { s with heap:=s.heap.update p f,toks:=t }:=by
 have e:(s.heap.update p f).get? p=some { cls:=.type "list", data:=.seq its'.toArray n' }:=by
  rw [Heap.get?_update_self f ho (by rw [hf] <;> rfl),hf]
 refine I.write (x:=p) (e:=p) (by rw [h]; trivial) (.inl rfl) (fun b u hb q=>(Heap.get?_update_other _ _ (Ne.symm hb)).trans q) ⟨_,e⟩ ?_
 exact ⟨hz,its',n',r,e⟩
def rSetL:V→V→V→Hp→(Hp→Prop)→Prop:=fun o i v H Q=>∃ p xs k j,o=.ref p∧i=.int k∧H p=some (.lst xs)∧ixN xs.length k=some j∧Q (upd H p (.lst (xs.set j v)))
theorem Zea:PSet X rSetL:=by
 intro pins s σ H o i v ov iv u Q I ro ri rv h
 obtain ⟨p,xs,k,j,rfl,rfl,hp,hj,q⟩:=h
 cases ro
 obtain ⟨t,rfl⟩:=ri
 obtain ⟨its,n,r,ho,hz⟩:=I.lst hp
 obtain ⟨h1,h2,h3,h4⟩:=Zin hj
 have hl:=r.length
 have hn:=Zgc
 have I':Inv X pins σ (upd H p (.lst (xs.set j v))) { s with heap:=s.heap.update p (Obj.mapSeq (·.setIfInBounds j u)) } :=
  I.lstUpd hp ho (Zhk its n j u) (r.set rv j) (by rw [List.length_set]; exact hz) s.toks
 by_cases h0:0≤k
 ·have hk:k.toNat=j:=by
   rw [seqIndex_of h0 h4] at h1
   exact Option.some.inj h1
  exact PySem.W.ki_setAt ho h0 (by omega) (by rw [List.size_toArray,← hl]; exact h4) (by rw [hk]; exact ⟨_,I',q⟩)
 ·have hk:(k + (its.toArray.size:Int)).toNat=j:=by
   rw [seqIndex_neg (by omega) h3] at h1
   rw [List.size_toArray,← hl]
   exact Option.some.inj h1
  exact PySem.W.ki_setBack ho (by omega) (by rw [List.size_toArray,← hl]; exact h3) (by omega) (by rw [hk]; exact ⟨_,I',q⟩)
theorem Ze8 (lo hi:Option Int) (n:Nat):(sliceBounds lo hi none n).1=((HT.sIx n 0 lo:Nat):Int)∧(sliceBounds lo hi none n).2.1=((HT.sIx n n hi:Nat):Int)∧(sliceBounds lo hi none n).2.2=1:=by
 refine ⟨?_,?_,rfl⟩
 ·cases lo with
  | none=>simp [sliceBounds,HT.sIx]
  | some i =>
   simp only [sliceBounds,HT.sIx,Option.getD_none,show (1:Int) > 0 by decide,if_true]
   by_cases h:i < 0
   ·simp only [h,if_true] <;> omega
   ·simp only [h,if_false] <;> omega
 ·cases hi with
  | none=>simp [sliceBounds,HT.sIx]
  | some i =>
   simp only [sliceBounds,HT.sIx,Option.getD_none,show (1:Int) > 0 by decide,if_true]
   by_cases h:i < 0
   ·simp only [h,if_true] <;> omega
   ·simp only [h,if_false] <;> omega
theorem ZdR (its:List Value) (lo hi:Option Int):slicePick its.toArray lo hi none=((its.drop (HT.sIx its.length 0 lo)).take (HT.sIx its.length its.length hi - HT.sIx its.length 0 lo)).toArray:=by
 obtain ⟨h1,h2,h3⟩:=Ze8 lo hi its.toArray.size
 unfold slicePick
 rw [h1,h2,h3]
 simp only [sliceRange_one,pick_run,List.size_toArray] <;> rfl
def rSlL (K:PySem.W.Frag):V→Option Int→Option Int→Hp→VK→Prop:=fun x lo hi H Q=>∃ a xs,x=.ref a∧SqL K H a xs∧∀ p,H p=none→Q (.ref p) (upd H p (.lst (cutV xs lo hi)))
theorem Zl8:SlR X (rSlL X.K):=by
 intro pins s σ H x v vl vu lo hi sl Q I rx hs pl pu h
 obtain ⟨a,xs,rfl,hx,q⟩:=h
 cases rx
 obtain ⟨its,r,ht,hz⟩:=I.list hx
 have hlen:=r.length
 refine ⟨"list", _,slot_list_getitem.lookup,ht.isList.typeIs,?_⟩
 refine wpAny_getItem_list_slice ht.isList hs pl pu .none (by simp) ?_ (by rw [List.size_toArray] <;> omega)
 rw [ZdR,← hlen]
 refine ⟨.ref s.heap.objs.size,_,I.laid (t':=s.toks) (o:=.lst (cutV xs lo hi)) (fun b ob q=>Heap.get?_push_of_some _ q) (Nat.le_refl _) ?_,rfl,q _ (I.hok.fresh (Nat.le_refl _))⟩
 exact ⟨Nat.le_trans (ZfG xs lo hi) hz,_,0,(r.drop (HT.sIx xs.length 0 lo)).take (HT.sIx xs.length xs.length hi - HT.sIx xs.length 0 lo),Heap.get?_push_size _ rfl⟩
theorem Zct:ZeK X (.builtin "len") (fun xs H Q=>∃ p ys,xs=[.ref p]∧(SqL X.K H p ys∨SqT X.K H p ys)∧Q (.int ys.length) H):=by
 intro pins s σ H xs us Q I r h
 obtain ⟨p,ys,rfl,hq,q⟩:=h
 obtain ⟨u,rfl,rx⟩:=ZeQ r
 cases rx
 have hn:=Zgc
 rcases hq with hq | hq
 ·obtain ⟨its,r',pl,hz⟩:=I.list hq
  have hlen:=r'.length
  exact Calls.call_len_list pl.isList (by simp only [List.size_toArray] <;> omega) ⟨.int ys.length,H,I.tok _,⟨s.toks + 1,by rw [List.size_toArray,hlen]⟩,q⟩
 ·obtain ⟨its,r',pl,hz⟩:=I.tuple hq
  have hlen:=r'.length
  exact len_tuple pl (by simp only [List.size_toArray] <;> omega) ⟨.int ys.length,H,I.tok _,⟨s.toks + 1,by rw [List.size_toArray,hlen]⟩,q⟩
def tyV (K:PySem.W.Frag) (T:String) (x:V) (H:Hp):Prop:=match x with
 | .str _=>T = "str"
 | .int _=>T = "int"
 | .ref p=>(T = "list" ∧ ∃ xs,SqL K H p xs)∨(T = "tuple" ∧ ∃ o,K.lookup p=some o∧o.cls=.type "tuple" ∧ o.dict=none) ∨
   (T = "dict" ∧ ((∃ kvs,H p=some (.dK kvs))∨∃ kvs,H p=some (.dT kvs)))∨(T = "set" ∧ ∃ S n,H p=some (.set S n))
 | _=>False
theorem tyV_is {pins:List (Addr×Obj)} {σ:St} {H:Hp} {s:Shared} {T:String} {x:V} {v:Value} (I:Inv X pins σ H s) (r:RelV x v) (ty:tyV X.K T x H) :
  s.TypeIs v T∧∀ a,v=.ref a→∃ ob,s.heap.get? a=some ob∧ob.dict=none:=by
 cases x with
 | str z =>
  obtain ⟨t,rfl⟩:=r
  cases (show T = "str" from ty)
  exact ⟨typeIs_str s z t,fun _ e=>nomatch e⟩
 | int i =>
  obtain ⟨t,rfl⟩:=r
  cases (show T = "int" from ty)
  exact ⟨typeIs_int s i t,fun _ e=>nomatch e⟩
 | ref p =>
  cases r
  rcases ty with ⟨rfl,xs,hq⟩ | ⟨rfl,o,hk,hc,hd⟩ | ⟨rfl,hk⟩ | ⟨rfl,S,n,hk⟩
  ·obtain ⟨its,_,pl,_⟩:=I.list hq
   refine ⟨pl.isList.typeIs,fun a e=>?_⟩
   cases e
   obtain ⟨o,n,e,c,hd,_⟩:=pl
   exact ⟨o,e,hd⟩
  ·refine ⟨⟨o,I.kIn p o hk,hc⟩,fun a e=>?_⟩
   cases e
   exact ⟨o,I.kIn _ o hk,hd⟩
  ·have z:∃ o,s.heap.get? p=some o∧o.ExactDict:=by
    rcases hk with ⟨kvs,hk⟩ | ⟨kvs,hk⟩
    ·obtain ⟨_,_,_,_,o,_,_,e,ex,_⟩:=I.hok p _ hk
     exact ⟨o,e,ex⟩
    ·obtain ⟨_,_,_,_,o,_,_,e,ex,_⟩:=I.hok p _ hk
     exact ⟨o,e,ex⟩
   obtain ⟨o,e,ex⟩:=z
   refine ⟨⟨o,e,ex.1⟩,fun a e2=>?_⟩
   cases e2
   exact ⟨o,e,ex.2.1⟩
  ·obtain ⟨o,_,_,_,e,ex,_⟩:=I.hok p _ hk
   refine ⟨⟨o,e,ex.1⟩,fun a e2=>?_⟩
   cases e2
   exact ⟨o,e,ex.2.1⟩
 | _=>exact False.elim ty
def tBM (K:PySem.W.Frag) (T:String) (r:V→List V→Hp→VK→Prop) (to:TE) (t:TA):TE:=fun σ H Q=>to σ H fun x H1=>tyV K T x H1∧t σ H1 fun xs H2=>r x xs H2 Q
variable {o e:Expr} {es:List Expr} {to:TE} {t:TA} {name:Str} {apos cpos:Pos} {T id:String} {r:V→List V→Hp→VK→Prop}
theorem pe_bm (pa:PlainAttrs T) (slot:Slot T name id) (hty:typeOf (.builtin id)=pure (.type "method_descriptor")) (hm:MtR X id r) (ho:PE X o to) (ha:PA X (e :: es) t)
  (hbase:attributeBase o name X.env (eval o X.env)=eval o X.env:=by rfl)
  (hfew:((backTo cpos (starEach (e :: es) X.env)).all (fun x => !x.1) && (backToKw cpos (keywordEach [] X.env)).all (fun x=>x.1.isSome)
   && decide ((e :: es).length + ([]:List Keyword).length + (if ([]:List Keyword).isEmpty then 0 else 1) < 30))=true:=by rfl)
  (hline:(apos.endLine == cpos.line)=true:=by rfl) (hs:starEach (e :: es) X.env=(false,eval e X.env) :: starEach es X.env:=by rfl) (hplain:(backTo cpos (starEach es X.env)).any (·.1)=false:=by rfl) :
  PE X (.Call (.Attribute o name apos) (e :: es) [] cpos) (tBM X.K T r to t):=by
 intro pins s σ H Q I h
 refine wpAny_Call_method_late hbase hfew hline rfl (thn (ho pins s σ H _ I h) fun v s1 ⟨x,H1,I1,r1,ty,q1⟩=>?_)
 obtain ⟨h1,h2⟩:=tyV_is I1 r1 ty
 refine ⟨T,id,pa,slot,hty,h1,h2,?_⟩
 have hA:=ha cpos pins s1 σ H1 _ I1 q1
 rw [hs] at hA ⊢
 refine Calls.callWith_builtin (by show (false || (backTo cpos (starEach es X.env)).any (·.1))=false; rw [hplain] <;> rfl) (Calls.evalArgs_plain ?_)
 exact thn hA fun us s2 ⟨vs,H2,I2,r2,q2⟩=>hm pins s2 σ H2 x vs v us Q I2 r1 r2 q2
end
def MtM (X:Cx) (id:String) (r:V→List V→Hp→VK→Prop):Prop :=
 ∀ (pins:List (Addr×Obj)) (s:Shared) (σ:St) (H:Hp) (x:V) (xs:List V) (v:Value) (us:List Value) (Q:VK),Inv X pins σ H s→RelV x v→Vals xs us→r x xs H Q →
  wpAny (model X.prog X.w) X.A (call (.builtin id) (v :: us)) (EP X pins σ Q) X.xe s
theorem Vals.one:∀ {x:V} {us:List Value},Vals [x] us→∃ u,us=[u]∧RelV x u
 | _,_,.cons r .nil=>⟨_,rfl,r⟩
section
variable {X:Cx} {pins:List (Addr×Obj)} {σ:St} {H:Hp} {s:Shared} {l b:Addr} {xs ys zs:List V}
theorem Inv.lset {its its':List Value} {n:Nat} {f:Array Value→Array Value} {t':Nat} (I:Inv X pins σ H s) (hH:H l=some (.lst xs))
  (e:s.heap.get? l=some { cls:=.type "list", data:=.seq its.toArray n }) (hf:f its.toArray=its'.toArray) (hv:Vals ys its') (hz:ys.length≤sizeLine) :
  Inv X pins σ (upd H l (.lst ys)) { s with heap:=s.heap.update l (Obj.mapSeq f),toks:=t' }:=by
 have q:=PySem.IsL.update e f
 rw [hf] at q
 refine I.write (x:=l) (e:=l) (by rw [hH]; exact trivial) (.inl rfl) (fun b' u hb hu=>(Heap.get?_update_other s.heap (Obj.mapSeq f) (Ne.symm hb)).trans hu) ⟨_,q⟩ ?_
 exact ⟨hz,its',_,hv,q⟩
theorem Inv.lnew {its:List Value} {t':Nat} (I:Inv X pins σ H s) (hv:Vals ys its) (hz:ys.length≤sizeLine) :
  Inv X pins σ (upd H s.heap.objs.size (.lst ys)) { s with heap:=s.heap.push { cls:=.type "list", data:=.seq its.toArray },toks:=t' } :=
 I.laid (fun _ _ q=>Heap.get?_push_of_some _ q) (Nat.le_refl _) ⟨hz,its,0,hv,Heap.get?_push_size _ rfl⟩
theorem Inv.fresh (I:Inv X pins σ H s):H s.heap.objs.size=none:=I.hok.fresh (Nat.le_refl _)
theorem Inv.lstM (I:Inv X pins σ H s) (hH:H l=some (.lst xs)):xs.length≤sizeLine∧∃ (its:List Value) (n:Nat),Vals xs its∧xs.length=its.length∧s.heap.get? l=some { cls:=.type "list", data:=.seq its.toArray n }:=by
 obtain ⟨z,its,n,r,e⟩:=I.hok l _ hH
 exact ⟨z,its,n,r,r.length,e⟩
end
section
variable {X:Cx}
def ZlU:V→List V→Hp→VK→Prop:=fun x vs H Q=>∃ l xs y,x=.ref l∧vs=[y]∧H l=some (.lst xs)∧xs.length < sizeLine∧Q .non (upd H l (.lst (xs ++ [y])))
theorem ZeD:MtM X "list.append" ZlU:=by
 intro pins s σ H x vs v us Q I rx rv h
 obtain ⟨l,xs,y,rfl,rfl,hH,hz,q⟩:=h
 cases rx
 obtain ⟨u,rfl,ru⟩:=rv.one
 obtain ⟨z,its,n,r,hl,e⟩:=I.lstM hH
 refine call_meets F.slot_list_append ⟨_,e,rfl⟩ F.entry_list_append (F.args_list_append_2 _ _) (PySem.list_append l its.toArray n u (by rw [List.size_toArray]; omega)) ⟨e,?_⟩
 refine ⟨.non,_,I.lset (its':=its ++ [u]) hH e (by simp) (r.append (.cons ru .nil)) ?_,rfl,q⟩
 rw [List.length_append,List.length_singleton]
 omega
def rCat:R2:=fun x y H Q=>∃ l b xs zs,x=.ref l∧y=.ref b∧H l=some (.lst xs)∧H b=some (.lst zs)∧xs.length + zs.length≤sizeLine∧∀ p,H p=none→Q (.ref p) (upd H p (.lst (xs ++ zs)))
theorem op_cat:OpR X (binaryOp .Add) rCat:=by
 intro pins s σ H x y v u Q I rx ry h
 obtain ⟨l,b,xs,zs,rfl,rfl,hH,hB,hz,q⟩:=h
 cases rx
 cases ry
 obtain ⟨z,its,n,r,hl,e⟩:=I.lstM hH
 obtain ⟨z2,its2,n2,r2,hl2,e2⟩:=I.lstM hB
 refine PySem.P.add_list e e2 ?_ (by rw [List.size_toArray,List.size_toArray]; omega)
 have ea:its.toArray ++ its2.toArray=(its ++ its2).toArray:=by simp
 rw [ea]
 exact ⟨.ref _,_,I.lnew (t':=s.toks) (r.append r2) (by rw [List.length_append]; omega),rfl,q _ I.fresh⟩
end
section
variable {prog:Program} {w:World} {A:Around} {E:Value→Shared→Prop} {s:Shared}
set_option maxRecDepth 100000 in
end
end L2
namespace Att
open PySem PySem.W PySem.Calls PyProof.Rows
theorem ZcW {P:Params} {h:Heap}:∀ (ns:List Int) (vs:List Value),WellAll P h vs (ns.map WData.int)→IntsAre vs ns:=by
 intro ns
 induction ns with
 | nil =>
  intro vs w
  rw [List.map_nil] at w
  cases w
  exact .nil
 | cons n ns ih =>
  intro vs w
  rw [List.map_cons] at w
  cases w with
  | cons a b =>
   cases a
   exact .cons _ _ (ih _ b)
theorem ZiP {l:OpenLaw} {n:Nat} (hn:l.most=some n) {P:Params} {h:Heap} {args:List WData} {vals:List Value}
  (hpre:l.row.toRowW.claim.pre args=true) (hwl:WellAll P h vals args) :
  ∃ a vs ns,vals=[Value.ref a]∧args=[WData.list (ns.map WData.int)]∧h.get? a=some { cls:=.type "list", data:=.seq vs.toArray }∧IntsAre vs ns∧ns.length≤n:=by
 have hsh:WShape.hasAll [] args [.list .int]=true:=(pre_splitW hpre).1
 have hc:l.pre.holds [] { args:=args }=true:=(pre_splitW hpre).2
 obtain ⟨d,r,rfl,h1,h2⟩:=hasAllW_cons hsh
 obtain rfl:=hasAllW_nil h2
 obtain ⟨xs,rfl,h3⟩:=hasW_list h1
 obtain ⟨ns,rfl⟩:=items_int h3
 have hlen:ns.length≤n:=by
  unfold OpenLaw.pre at hc
  have h4:(WTm.not (.lt (.lit (.int (n:Int))) (.len (.arg 0)))).holds [] { args:=[.list (ns.map .int)] }=true:=by
   have h4:=(holds_andW hc).1
   rw [hn] at h4
   exact h4
  have h5:=condW_of h4 (w_not (w_lt w_lit (w_len_list (w_arg rfl))))
  rw [List.length_map] at h5
  refine Nat.le_of_not_lt fun q=>?_
  have q':(n:Int) < ((ns.length:Nat):Int):=by omega
  first
   | (rw [decide_eq_true q'] at h5; exact absurd h5 (by decide))
   | (simp at h5; omega)
 cases hwl with
 | cons w1 w2 =>
  cases w2
  cases w1 with
  | list ho hall=>exact ⟨_,_,ns,rfl,rfl,ho,ZcW ns _ hall,hlen⟩
theorem ZjD (l:OpenLaw) (args:List WData):l.row.toRowW.claim.post args (.bool true) args=true :=
 postW_of (r:=l.row.toRowW) (X:=(true == true))
  (show WShape.has [] (.bool true) .bool=true by first | rfl | decide | simp [WShape.has,WShape.arms,WShape.armsAll])
  (show (WTm.eq .res (.lit (.bool true))).value [] { args:=args,res:=some (.bool true),after:=args }=some (.bool (true == true)) from w_eq_bool (w_res rfl) w_lit) rfl
theorem attach_call {l:OpenLaw} {n:Nat} {q:Program} {loose:List Str} {XP:(Str→Option Value)→Heap→Prop} {YP:World→Heap→Prop} {d:DefRec}
  (hn:l.most=some n) (hdf:d.params.defaults=[])
  (call:∀ (w:World) (s₀ s₁:Shared) (mg mb:Str→Option Value) (fa:Addr) (o:Obj) (pm cd doc:Value) (a:Addr) (vs:List Value) (ns:List Int),
   Ground q loose [] XP w s₀ mg mb s₁.heap→YP w s₁.heap →
   s₁.heap.get? fa=some o→o.data=.func (docDef d.name d.params d.body d.scope pm cd doc)→s₁.heap.CodeRec cd d.name→mg d.name=some (.ref fa) →
   s₁.heap.get? a=some { cls:=.type "list", data:=.seq vs.toArray }→IntsAre vs ns→ns.length≤n→s₁.gens = #[] →
   codeAny (model l.prog w) callerA (.call (.ref fa) ⟨[.ref a],[]⟩) (fun r s'=>r=.ok (.ret (.bool true))∧OldK s₁.heap s'.heap∧s'.os=s₁.os∧AllBare s'.gens) s₁) :
  WalkO q loose XP YP l.row.toRowW d [] (fun f vs=>PySem.call f vs):=by
 intro w s₀ s₁ mg mb G Y fa o pm cd doc dV kV ho hd hcd hD hmg hg args vals as hpre hlay hrd hwl hlo
 obtain rfl:dV=.none:=Dflts.none hD hdf
 obtain rfl:kV=.none:=Dflts.noKw hD
 obtain ⟨a,vs,ns,rfl,rfl,hobj,hints,hlen⟩:=ZiP hn hpre hwl
 refine enter_call (codeAny_mono (call w s₀ s₁ mg mb fa o pm cd doc a vs ns G Y ho (fd_plain hd) hcd hmg hobj hints hlen hg) fun r s' hq=>?_)
 obtain ⟨rfl,h2,h3,h4⟩:=hq
 exact ⟨.inl ⟨.bool true,.bool true,[],rfl,fun _=>rfl,.bool true,ZjD l _,fun _=>⟨List.Pairwise.nil,fun _ hm=>(nomatch hm)⟩⟩,h2,h3,h4⟩
end Att
namespace L2
open PySem PySem.Spec PyProof.Rows
theorem ZcF:∀ {vs:List Value} {ns:List Int},IntsAre vs ns→Vals (ns.map V.int) vs
 | _,_,.nil=>.nil
 | _,_,.cons n t h=>.cons ⟨t,rfl⟩ (ZcF h)
def Only (H:Hp):Prop:=∀ b,H b=none∨∃ o xs,H b=some (.frz o (.lst xs))
theorem ZjN {P:Program} {w:World} {K:PySem.W.Frag} {mg mb:Str→Option Value} {CX:CXT} {k:Nat} {fa a:Addr} {fd:FuncData} {x:Str} {sp:Sp} {s₁:Shared} {vs:List Value} {ns:List Int}
  (KX:K.In s₁.heap) (hns:s₁.heap.Ns mainGlobals mg) (hb:s₁.heap.Ns builtinsNs mb) (hbb:∀ x:Str,x ≠ "__name__" → mb x=bootBuiltins x) (hlim:s₁.heap.NoLimit) (hg:s₁.gens = #[])
  (ha:s₁.heap.get? a=some { cls:=.type "list", data:=.seq vs.toArray }) (hi:IntsAre vs ns) (hl:ns.length≤sizeLine) (hr:Room k callerA)
  (F:∀ base:Heap,K.In base→base.Ns mainGlobals mg→FnOk P w K mg base CX k fa fd [x] sp) (hbind:∀ (s:Shared) (u:Value),BindsTo s fd ⟨[u],[]⟩ [(x,u)])
  (hsp:∀ H:Hp,Only H→SqL K H a (ns.map V.int)→sp [.ref a] H (fun v _=>v=.bl true) fun _ _ _=>False)
  (hCX:∀ H e s',CX [] H s₁ (fun _ _ _=>False) e s'→False) :
  codeAny (model P w) callerA (.call (.ref fa) ⟨[.ref a],[]⟩) (fun r s'=>r=.ok (.ret (.bool true))∧OldK s₁.heap s'.heap∧s'.os=s₁.os∧AllBare s'.gens) s₁:=by
 have rv:=ZcF hi
 have lenV:=hi.length
 have core:∀ H:Hp,Only H→SqL K H a (ns.map V.int)→HOk P w H s₁.heap→(∀ b,H b≠none→b=a)→(H a≠none→K.lookup a=none) →
   codeAny (model P w) callerA (.call (.ref fa) ⟨[.ref a],[]⟩) (fun r s'=>r=.ok (.ret (.bool true))∧OldK s₁.heap s'.heap∧s'.os=s₁.os∧AllBare s'.gens) s₁:=by
  intro H hO hS hok hA hK
  have base_of:∀ {b:Addr} {o:Obj},s₁.heap.get? b=some o→H b=none→(hidT s₁.heap H).get? b=some o:=fun e n=>ZkN e n
  have noA:∀ {b:Addr} {o:Obj} {es:Array DictEntry} {ep:Nat},s₁.heap.get? b=some o→o.data=.dict es ep→H b=none:=fun {b o es ep} e d=>by
   cases q:H b with
   | none=>rfl
   | some u =>
    have e':b=a:=hA b (by rw [q]; simp)
    subst e'
    rw [ha] at e; cases e
    have d':Data.seq vs.toArray _=Data.dict es ep:=d
    cases d'
  have nsK:∀ {b:Addr} {m:Str→Option Value},s₁.heap.Ns b m→(hidT s₁.heap H).Ns b m:=fun {b m} ⟨o,es,ep,e,d,r⟩=>⟨o,es,ep,base_of e (noA e d),d,r⟩
  have hKb:K.In (hidT s₁.heap H):=fun b o e=>base_of (KX b o e) (by
   cases q:H b with
   | none=>rfl
   | some u =>
    have e':b=a:=hA b (by rw [q]; simp)
    subst e'
    rw [hK (by rw [q]; simp)] at e; cases e)
  have hM:Mod K mg (hidT s₁.heap H):=⟨hKb,nsK hns,⟨mb,nsK hb,hbb⟩,let ⟨mc,h1,h2⟩:=hlim; ⟨mc,nsK h1,h2⟩⟩
  have e0:Env0 P w K mg (hidT s₁.heap H) callerA [] s₁ H:=⟨rfl,hM,fun b o e=>ZmC e,Nat.le_of_eq (ZiQ _ _),trivial,fun b hb=>absurd (show b∈([]:List Addr) from hb) (by simp),hok,.of_eq hg⟩
  refine codeAny_mono ((F _ hKb (nsK hns)).run callerA [] s₁ H ⟨[.ref a],[]⟩ [.ref a] [.ref a] _ _ hr e0 (hbind s₁ (.ref a)) (.cons rfl .nil) (hsp H hO hS)) fun r s' h=>?_
  cases r with
  | error e=>exact (hCX H e s' h).elim
  | ok fl =>
   cases fl with
   | next=>exact False.elim h
   | brk=>exact False.elim h
   | cont=>exact False.elim h
   | ret u =>
    obtain ⟨v,H',os,bare,un,hok',r',q⟩:=h
    have q':v=.bl true:=q
    subst q'
    obtain rfl:u=Value.bool true:=r'
    refine ⟨rfl,OldK.of_keep fun b o e=>?_,os,bare⟩
    cases q:H b with
    | none=>exact un.keep b o e q (by intro z; exact absurd (show b∈([]:List Addr) from z) (by simp)) (by simp)
    | some u =>
     rcases hO b with z | ⟨ob,xs,z⟩
     ·rw [q] at z; cases z
     ·have z2:=un.frzs b ob _ z
      obtain ⟨e1,_⟩:=hok b _ z
      obtain ⟨e2,_⟩:=hok' b _ z2
      rw [e] at e1; cases e1
      exact e2
 cases hk:K.lookup a with
 | some o =>
  have e:=KX a o hk
  rw [ha] at e
  cases e
  refine core (fun _=>none) (fun _=>.inl rfl) (.inr ⟨_,vs.toArray,_,hk,rfl,rfl,rfl,by rw [List.size_toArray,lenV]; exact hl,by simpa using rv⟩) (fun b u z=>by have z':(none:Option HO)=some u:=z; cases z') (fun b z=>absurd rfl z) fun z=>absurd rfl z
 | none =>
  refine core (fun b=>if b=a then some (.frz { cls:=.type "list", data:=.seq vs.toArray } (.lst (ns.map V.int))) else none) (fun b=>?_) (.inl (.inr ⟨{ cls:=.type "list", data:=.seq vs.toArray },if_pos rfl⟩)) (fun b u z=>?_) (fun b z=>?_) fun _=>hk
  ·by_cases hb:b=a
   ·exact .inr ⟨_,_,if_pos hb⟩
   ·exact .inl (if_neg hb)
  ·by_cases hb:b=a
   ·have z':=(if_pos hb).symm.trans z
    cases z'
    subst hb
    exact ⟨ha,by rw [List.length_map]; exact hl,vs,_,rv,ha⟩
   ·have z':=(if_neg hb).symm.trans z
    cases z'
  ·by_cases hb:b=a
   ·exact hb
   ·exact absurd (if_neg hb) z
def ZcS (s:Stmt):Arguments:=match s with
 | .FunctionDef _ a _ _ _ _ _ _ _ _=>a
 | _=>{ posonlyargs:=[],args:=[],vararg:=none,kwonlyargs:=[],kw_defaults:=[],kwarg:=none,defaults:=[] }
def Zbm (s:Stmt):List Stmt:=match s with
 | .FunctionDef _ _ b _ _ _ _ _ _ _=>b
 | _=>[]
def Zad (s:Stmt):Scope:=match s with
 | .FunctionDef _ _ _ _ _ _ sc _ _ _=>sc
 | _=>{ kind:=.function,names:=[],isGenerator:=false,isCoroutine:=false }
abbrev CX0:CXT:=fun _ _ _ _ _ _=>False
abbrev E0:XK:=fun _ _ _=>False
theorem pass0 {X:Cx}:Zhq CX0 X E0:=fun _ _ _ _ _ _ _ h=>h.elim
structure Fun (K:PySem.W.Frag) (x qual:Str) (st:Stmt) (f:Addr) (fd:FuncData):Prop where
 ex:∃ (oc:Value) (od:Option Addr) (kV doc pm:Value) (an:Option Addr) (cdv ct:Value) (osl:Array (Option Value)),
  fd=PySem.W.fnOf x qual (ZcS st) (Zbm st) (Zad st) .none kV doc pm an cdv ct∧K.lookup f=some ⟨oc,od,.func fd,osl⟩∧PySem.W.codeIn K cdv qual=true
 kp:PySem.W.keepIn K (.ref f)=true
section
variable {P:Program} {w:World} {K:PySem.W.Frag} {mg:Str→Option Value} {base:Heap}
theorem Fun.ok {x qual:Str} {st:Stmt} {f:Addr} {fd:FuncData} {N ps:List Str} {k:Nat} {sp:Sp} (F:Fun K x qual st f fd) (S:FnScope N ps (Zad st)) (len:∀ vs H Q E,sp vs H Q E→vs.length=ps.length)
  (hbody:∀ (cdv:Value) (A:Around) (outer:List Env) (s:Shared) (H:Hp) (vs:List V) (Q:VK) (E:XK),Room k (A.deeper (envOfC qual (Zad st) s.heap.objs.size f cdv))→sp vs H Q E →
   ∃ t,PSs (cxOf CX0 P w K mg base N qual (Zad st) f cdv A outer s H E).nox (Zbm st) t∧t { nx:=fun _ H'=>Q .non H',rt:=Q } (start N vs) H):FnOk P w K mg base CX0 (k + 1) f fd ps sp:=by
 obtain ⟨oc,od,kV,doc,pm,an,cdv,ct,osl,rfl,lk,hcd⟩:=F.ex
 refine fn_of lk hcd S len fun A outer s H vs Q E hr hsp=>?_
 obtain ⟨t,h,q⟩:=hbody cdv A outer s H vs Q E hr hsp
 exact ⟨t,h.nox,q⟩
theorem Fun.binds {x qual:Str} {st:Stmt} {f:Addr} {fd:FuncData} {ps:List Str} (F:Fun K x qual st f fd)
  (h:∀ (kV doc pm:Value) (an:Option Addr) (cdv ct:Value) (us:List Value),us.length=ps.length→bindArgs (PySem.W.fnOf x qual (ZcS st) (Zbm st) (Zad st) .none kV doc pm an cdv ct) ⟨us,[]⟩=pure (ps.zip us)):Binds K fd ps []:=by
 obtain ⟨oc,od,kV,doc,pm,an,cdv,ct,osl,rfl,lk,hcd⟩:=F.ex
 exact .all (h kV doc pm an cdv ct)
theorem fun_mk {x qual:Str} {st:Stmt} {f:Addr} {oc:Value} {od an:Option Addr} {osl:Array (Option Value)} {kV doc pm cdv ct:Value} (l:K.lookup f=some ⟨oc,od,.func (PySem.W.fnOf x qual (ZcS st) (Zbm st) (Zad st) .none kV doc pm an cdv ct),osl⟩)
  (c:PySem.W.codeIn K cdv qual=true) (k:PySem.W.keepIn K (.ref f)=true):Fun K x qual st f (PySem.W.fnOf x qual (ZcS st) (Zbm st) (Zad st) .none kV doc pm an cdv ct):=⟨⟨oc,od,kV,doc,pm,an,cdv,ct,osl,rfl,l,c⟩,k⟩
end
section
variable {X:Cx}
theorem pv (i:Nat) {x:Str} {pos:Pos} (hN:X.N[i]?=some x:=by rfl) (hv:Vis X.env.scope x:=by first | exact Or.inl rfl | exact Or.inr (Or.inl rfl) | exact Or.inr (Or.inr rfl)) (hd:(x == ("__debug__" : Str))=false:=by decide)
  (hcd:(x == ("__classdict__" : Str))=false:=by decide):PE X (.Name x pos) (tVar i):=ZdM hN hv hd hcd
end
theorem iteF {A B:Prop} (h:B):if false=true then A else B:=by
 rw [if_neg Bool.false_ne_true]
 exact h
def Same (H H':Hp):Prop:=∀ b o,H b=some o→H' b=some o
theorem Same.refl (H:Hp):Same H H:=fun _ _ h=>h
theorem Same.trans {H H1 H2:Hp} (a:Same H H1) (b:Same H1 H2):Same H H2:=fun c o h=>b c o (a c o h)
theorem Same.free {H H':Hp} (e:Same H H') {l:Addr} (h:H' l=Option.none):H l=Option.none:=by
 cases q:H l with
 | none=>rfl
 | some o =>
  rw [e l o q] at h
  cases h
theorem Same.seq {K:PySem.W.Frag} {H H':Hp} {a:Addr} {xs:List V} (e:Same H H') (h:SqL K H a xs):SqL K H' a xs:=by
 rcases h with (h | ⟨o,h⟩) | h
 ·exact .inl (.inl (e _ _ h))
 ·exact .inl (.inr ⟨o,e _ _ h⟩)
 ·exact .inr h
end L2
set_option maxHeartbeats 4000000
namespace L2
open PySem PySem.Spec PyProof.Rows
open PySem.Builtin.Int (intBits)
def Zie (i j:Int):Prop:=intBits i≤9000∧intBits j≤9000
def Zm5 (_ j:Int):Prop:=j≠0∧intBits j≤9000
theorem Zig {x y:Int} (h:intBits y≤9000):Builtin.divisionGoesByPylong x y=false:=by
 by_cases h0:y=0
 ·subst h0; exact PyProof.noPylong_small (by decide)
 ·refine PyProof.noPylong_of_log2 ?_
  have q:=intBits_le_iff.mp h
  have hn:y.natAbs≠0:=by omega
  exact (Nat.log2_lt hn).mpr q
section
variable {X:Cx} {a b:Expr} {ta tb:TE} {pos:Pos}
theorem Zdd:OpR X (binaryOp .Mult) (rI Zie fun i j=>.int (i * j)):=opI fun _ _ _ _ _ _ _ hc q=>mul_int q (IntMulOk.of_le hc.1 hc.2 (by decide))
theorem ZcD:OpR X (binaryOp .FloorDiv) (rI Zm5 fun i j=>.int (i.fdiv j)):=opI fun _ _ _ _ _ _ _ hc q=>floordiv_int hc.1 q (.inl (Zig hc.2))
theorem Zez:OpR X (compareOp .Eq) (rI0 fun i j=>.bl (decide (i=j))):=opB0 fun _ _ _ _ _ _ _ q=>eq_int (by rw [Bool.beq_eq_decide_eq]; exact q)
theorem Zjy:OpR X (compareOp .NotEq) (rI0 fun i j=>.bl (!decide (i=j))):=opB0 fun _ _ _ _ _ _ _ q=>ne_int (by rw [bne,Bool.beq_eq_decide_eq]; exact q)
def ItsAt (H:Hp) (p:Addr) (xs:List V):Prop:=H p=some (.tup xs)∨H p=some (.lst xs)
def rIxF:R2:=fun x y H Q=>∃ p xs i v,x=.ref p∧y=.int i∧ItsAt H p xs∧atI xs i=some v∧Q v H
theorem Zc6:IxR X rIxF:=by
 intro value slice pins s σ H x y v u Q I rx ry h hs
 obtain ⟨p,xs,i,z,e1,e2,hq,he,q⟩:=h
 rcases hq with hq | hq
 ·exact ix_tup value slice pins s σ H x y v u Q I rx ry ⟨p,xs,i,z,e1,e2,SqT.of hq,he,q⟩ hs
 ·exact ZhQ value slice pins s σ H x y v u Q I rx ry ⟨p,xs,i,z,e1,e2,SqL.of hq,he,q⟩ hs
structure Cal (P:Program) (w:World) (K:PySem.W.Frag) (mg:Str→Option Value) (base:Heap) (x:Str) (ps:List Str) (k:Nat) (sp:Sp):Prop where
 ex:∃ f fd,mg x=some (.ref f)∧PySem.W.keepIn K (.ref f)=true∧Binds K fd ps []∧FnOk P w K mg base CX0 k f fd ps sp
structure Fnd (K:PySem.W.Frag) (mg:Str→Option Value) (x:Str) (st:Stmt) (ps:List Str):Prop where
 ex:∃ f fd,mg x=some (.ref f)∧Fun K x x st f fd∧Binds K fd ps []
theorem Cal.imp {P:Program} {w:World} {K:PySem.W.Frag} {mg:Str→Option Value} {base:Heap} {x:Str} {ps:List Str} {k:Nat} {sp sp':Sp} (c:Cal P w K mg base x ps k sp) (h:∀ vs H Q E,sp' vs H Q E→sp vs H Q E):Cal P w K mg base x ps k sp':=by
 obtain ⟨f,fd,m,kp,b,F⟩:=c.ex
 exact ⟨f,fd,m,kp,b,F.imp h⟩
theorem Zk5 {x:Str} {ps:List Str} {j k:Nat} {sp:Sp} {p:Pos} {e:Expr} {es:List Expr} {t:TA} (c:Cal X.prog X.w X.K X.mg X.base x ps j sp) (hr:Room k X.A) (hg:Gl X x) (ha:PA X (e :: es) t) (hjk:j≤k:=by decide)
  (hdb:(x == ("__debug__" : Str))=false:=by decide) (he:starEach (e :: es) X.env=(false,eval e X.env) :: starEach es X.env:=by rfl) (hpl:(backTo pos (starEach es X.env)).any (·.1)=false:=by rfl) :
  PE X (.Call (.Name x p) (e :: es) [] pos) (tCall sp [] E0 t):=by
 obtain ⟨f,fd,m,kp,b,F⟩:=c.ex
 exact Zmb F (hr.mono hjk) hg m kp b .nil pass0 ha hdb he hpl
theorem Fnd.ok {P:Program} {w:World} {K:PySem.W.Frag} {mg:Str→Option Value} {base:Heap} {x:Str} {st:Stmt} {N ps:List Str} {k:Nat} {sp:Sp} (F:Fnd K mg x st ps) (S:FnScope N ps (Zad st)) (len:∀ vs H Q E,sp vs H Q E→vs.length=ps.length)
  (hbody:∀ (f:Addr) (cdv:Value) (A:Around) (outer:List Env) (s:Shared) (H:Hp) (vs:List V) (Q:VK) (E:XK),Room k (A.deeper (envOfC x (Zad st) s.heap.objs.size f cdv))→sp vs H Q E →
   ∃ t,PSs (cxOf CX0 P w K mg base N x (Zad st) f cdv A outer s H E).nox (Zbm st) t∧t { nx:=fun _ H'=>Q .non H',rt:=Q } (start N vs) H):Cal P w K mg base x ps (k + 1) sp:=by
 obtain ⟨f,fd,m,Fu,b⟩:=F.ex
 exact ⟨f,fd,m,Fu.kp,b,Fu.ok S len (hbody f)⟩
end
theorem iteD {p:Prop} [Decidable p] {A B:Prop} (h1:p→A) (h2:¬ p→B):if decide p=true then A else B:=by
 by_cases h:p
 ·rw [decide_eq_true h]; exact h1 h
 ·rw [decide_eq_false h]; exact h2 h
theorem iteDn {p:Prop} [Decidable p] {A B:Prop} (h1:¬ p→A) (h2:p→B):if (!decide p)=true then A else B:=by
 by_cases h:p
 ·rw [decide_eq_true h]; exact h2 h
 ·rw [decide_eq_false h]; exact h1 h
def Ext (b:Addr) (H H':Hp):Prop:=∀ a o,a≠b→H a=some o→H' a=some o
theorem Ext.trans {b:Addr} {H H1 H2:Hp} (e:Ext b H H1) (f:Ext b H1 H2):Ext b H H2:=fun a o n h=>f a o n (e a o n h)
theorem Ext.upd (b:Addr) (H:Hp) (o:HO):Ext b H (L2.upd H b o):=fun a u n h=>by rw [Zak n]; exact h
theorem Zcy {H:Hp} {p:Addr} (h:H p=none) (o:HO):Same H (L2.upd H p o):=fun b u q=>by rw [Zak (ZaJ q h)]; exact q
end L2
namespace L2
open PySem PySem.Spec PyProof.Rows
theorem HOk.but {P:Program} {w:World} {H:Hp} {h h':Heap} {C:Addr} (x:HOk P w H h) (n:H C=none) (k:∀ b u,b≠C→h.get? b=some u→h'.get? b=some u):HOk P w H h':=fun a o e =>
 (x a o e).stay (fun b u hb q=>k b u (by rcases hb with rfl | hb; exact ZaJ e n; exact ZaJ hb n) q) (fun _ q=>q) fun _ _ q=>q
theorem Un.but {fs ex:List Addr} {H H':Hp} {h h1 h2:Heap} {C:Addr} (u:Un fs ex H H' h h1) (hC:h.get? C=none) (k:∀ b u,b≠C→h1.get? b=some u→h2.get? b=some u):Un fs ex H H' h h2 where
 keep:=fun b o q n f e=>k b o (by rintro rfl; rw [hC] at q; cases q) (u.keep b o q n f e)
 slot:=fun b o q n f e=>by
  obtain ⟨sl,z⟩:=u.slot b o q n f e
  exact ⟨sl,k b _ (by rintro rfl; rw [hC] at q; cases q) z⟩
 free:=u.free
 there:=fun b o q e=>by
  obtain ⟨o',z⟩:=u.there b o q e
  exact ⟨o',k b _ (by rintro rfl; rw [hC] at q; cases q) z⟩
 tups:=u.tups
 frzs:=u.frzs
 tbls:=u.tbls
def ZaA (X:Cx) (N:List Str) (scope:Scope) (cl:List (Str×Addr)) (C:Addr) (s:Shared) (H:Hp) (ex:List Addr):Cx :=
 { X with N:=N,s₀:=s,H₀:=H,env:=compEnvC scope cl C X.env,outer:=X.stack,ex:=ex,fn:=fun _=>false,pn:=[],xe:=fun _ _=>False }
def Zby (σ:St) (js:List Nat):St:=js.map fun j=>(σ[j]?).join
theorem Vals.getR:∀ {xs:List V} {us:List Value} {i:Nat} {u:Value},Vals xs us→us[i]?=some u→∃ x,xs[i]?=some x∧RelV x u
 | _,_,_,_,.nil,e=>by simp at e
 | _,_,0,_,.cons r _,e=>by simp at e; subst e; exact ⟨_,rfl,r⟩
 | _,_,i + 1,u,.cons _ t,e=>by
  obtain ⟨x,h1,h2⟩:=Vals.getR (i:=i) (u:=u) t (by simpa using e)
  exact ⟨x,by simpa using h1,h2⟩
end L2
namespace Cut
open PySem
open PySem.Builtin.Int (intBits)
theorem ZaC {x:Int} (h1 : -(2 ^ 64) < x) (h2:x < 2 ^ 64):intBits x≤64:=intBits_le_64 h1 h2
theorem Zai {x t:Int} {n:Nat} (h:x.natAbs≤t.natAbs) (ht:intBits t≤n):intBits x≤n:=intBits_le_of_natAbs h ht
def Low (x y:Int):Prop:=0 < y∧Int.gcd x y=1
theorem Zf4 {x y:Int} (hx:0≤x) (hy:0 < y):Int.gcd y (x % y)=Int.gcd x y:=by
 obtain ⟨m,rfl⟩:=Int.eq_ofNat_of_zero_le hx
 obtain ⟨n,rfl⟩:=Int.eq_ofNat_of_zero_le (Int.le_of_lt hy)
 have e:((m:Int) % (n:Int))=((m % n:Nat):Int):=rfl
 rw [e]
 show Nat.gcd n (m % n)=Nat.gcd m n
 rw [Nat.gcd_comm m n,Nat.gcd_rec n m,Nat.gcd_comm]
theorem ZiZ (a b:Int):Int.gcd (if a < 0 then -a else a) (if b < 0 then -b else b)=Int.gcd a b:=by
 have e:∀ z:Int,(if z < 0 then -z else z).natAbs=z.natAbs:=fun z=>by split <;> omega
 unfold Int.gcd
 rw [e,e]
theorem ZbW {x:Int} (h:0≤x):((Int.gcd x 0:Nat):Int)=x:=by
 rw [Int.gcd_zero_right]; omega
theorem ZbF {t b:Int} (hb:b≠0):0 < ((Int.gcd t b:Nat):Int):=by
 have:0 < Int.gcd t b:=Int.gcd_pos_of_ne_zero_right t hb
 omega
theorem Zls {t b g s:Int} (hb:b≠0) (hg:g=(Int.gcd t b:Nat)) (hs:s=g∧0 < b∨s = -g∧b < 0) :
  Low (t.fdiv s) (b.fdiv s)∧t.fdiv s * b=t * b.fdiv s∧(t.fdiv s).natAbs≤t.natAbs∧(b.fdiv s).natAbs≤b.natAbs:=by
 have gp:0 < g:=by rw [hg]; exact ZbF hb
 have d1:g ∣ t:=by rw [hg]; exact Int.gcd_dvd_left t b
 have d2:g ∣ b:=by rw [hg]; exact Int.gcd_dvd_right t b
 have s1:s ∣ t:=by rcases hs with ⟨h,_⟩ | ⟨h,_⟩ <;> rw [h]; exact d1; exact Int.neg_dvd.mpr d1
 have s2:s ∣ b:=by rcases hs with ⟨h,_⟩ | ⟨h,_⟩ <;> rw [h]; exact d2; exact Int.neg_dvd.mpr d2
 have s0:s≠0:=by rcases hs with ⟨h,_⟩ | ⟨h,_⟩ <;> omega
 obtain ⟨x,hx⟩:=s1
 obtain ⟨y,hy⟩:=s2
 have ex:t.fdiv s=x:=by rw [hx]; exact Int.mul_fdiv_cancel_left x s0
 have ey:b.fdiv s=y:=by rw [hy]; exact Int.mul_fdiv_cancel_left y s0
 have e1:(t.fdiv s).natAbs≤t.natAbs:=natAbs_fdiv_le t s
 have e2:(b.fdiv s).natAbs≤b.natAbs:=natAbs_fdiv_le b s
 refine ⟨⟨?_,?_⟩,?_,e1,e2⟩
 ·rw [ey]
  rcases hs with ⟨h,hp⟩ | ⟨h,hp⟩
  ·rw [hy,h] at hp
   exact Int.pos_of_mul_pos_right hp gp
  ·rw [hy,h] at hp
   have:0 < g * y:=by rw [Int.neg_mul] at hp; omega
   exact Int.pos_of_mul_pos_right this gp
 ·rw [ex,ey]
  have q:Int.gcd t b=s.natAbs * Int.gcd x y:=by
   rw [hx,hy,Int.gcd_mul_left]
  have sn:s.natAbs=g.toNat:=by rcases hs with ⟨h,_⟩ | ⟨h,_⟩ <;> omega
  have gn:g.toNat=Int.gcd t b:=by omega
  rw [sn,gn] at q
  have pos:0 < Int.gcd t b:=Int.gcd_pos_of_ne_zero_right t hb
  have:Int.gcd t b * Int.gcd x y=Int.gcd t b * 1:=by omega
  exact Nat.eq_of_mul_eq_mul_left pos this
 ·rw [ex,ey]
  have:x * b=x * (s * y):=by rw [← hy]
  have h2:t * y=s * x * y:=by rw [← hx]
  rw [this,h2,← Int.mul_assoc,Int.mul_comm x s]
theorem Zcn {k n m:Int} (h:k ∣ n * m) (g:Int.gcd k n=1):k ∣ m:=by
 have q:=Int.dvd_gcd_mul_iff_dvd_mul.mpr h
 rw [g] at q
 simpa using q
theorem Zeb {x y x' y':Int} (h:Low x y) (h':Low x' y') (e:x * y'=x' * y):x=x'∧y=y':=by
 obtain ⟨p,g⟩:=h
 obtain ⟨p',g'⟩:=h'
 have d1:y ∣ y':=by
  have:y ∣ x * y':=⟨x',by rw [e,Int.mul_comm]⟩
  exact Zcn this (by rw [Int.gcd_comm]; exact g)
 have d2:y' ∣ y:=by
  have:y' ∣ x' * y:=⟨x,by rw [← e,Int.mul_comm]⟩
  exact Zcn this (by rw [Int.gcd_comm]; exact g')
 have ey:y=y':=Int.dvd_antisymm (Int.le_of_lt p) (Int.le_of_lt p') d1 d2
 refine ⟨?_,ey⟩
 rw [ey] at e
 exact Int.eq_of_mul_eq_mul_right (by omega) e
end Cut
namespace Cut
def Pt (x y z:Int):Prop:=0 < z∧Int.gcd (Int.gcd x y:Nat) z=1
theorem gcd3 (a b n:Int):Int.gcd (Int.gcd a n:Nat) b=Nat.gcd (Nat.gcd a.natAbs b.natAbs) n.natAbs:=by
 show Nat.gcd (Nat.gcd a.natAbs n.natAbs) b.natAbs=_
 rw [Nat.gcd_assoc,Nat.gcd_comm n.natAbs,← Nat.gcd_assoc]
theorem Zmc (a b n:Int):Int.gcd (Int.gcd a b:Nat) n=Nat.gcd (Nat.gcd a.natAbs b.natAbs) n.natAbs:=rfl
theorem Zgh {a b n:Int} (hn:n≠0):0 < ((Int.gcd (Int.gcd a n:Nat) b:Nat):Int):=by
 rw [gcd3]
 have:0 < Nat.gcd (Nat.gcd a.natAbs b.natAbs) n.natAbs:=Nat.gcd_pos_of_pos_right _ (by omega)
 omega
theorem Zgz (a b n:Int):((Int.gcd (Int.gcd a n:Nat) b:Nat):Int) ∣ a∧((Int.gcd (Int.gcd a n:Nat) b:Nat):Int) ∣ b∧((Int.gcd (Int.gcd a n:Nat) b:Nat):Int) ∣ n:=by
 rw [gcd3]
 have h1:=Nat.gcd_dvd_left (Nat.gcd a.natAbs b.natAbs) n.natAbs
 have h2:=Nat.gcd_dvd_right (Nat.gcd a.natAbs b.natAbs) n.natAbs
 refine ⟨?_,?_,?_⟩
 ·exact Int.ofNat_dvd_left.mpr (Nat.dvd_trans h1 (Nat.gcd_dvd_left _ _))
 ·exact Int.ofNat_dvd_left.mpr (Nat.dvd_trans h1 (Nat.gcd_dvd_right _ _))
 ·exact Int.ofNat_dvd_left.mpr h2
theorem pt_of {a b n g s:Int} (hn:n≠0) (hg:g=(Int.gcd (Int.gcd a n:Nat) b:Nat)) (hs:s=g∧0 < n∨s = -g∧n < 0) :
  Pt (a.fdiv s) (b.fdiv s) (n.fdiv s)∧a.fdiv s * n=a * n.fdiv s∧b.fdiv s * n=b * n.fdiv s∧(a.fdiv s).natAbs≤a.natAbs∧(b.fdiv s).natAbs≤b.natAbs∧(n.fdiv s).natAbs≤n.natAbs:=by
 have gp:0 < g:=by rw [hg]; exact Zgh hn
 obtain ⟨d1,d2,d3⟩:=Zgz a b n
 rw [← hg] at d1 d2 d3
 have s0:s≠0:=by rcases hs with ⟨h,_⟩ | ⟨h,_⟩ <;> omega
 have dv:∀ z:Int,g ∣ z→s ∣ z:=fun z hz=>by
  rcases hs with ⟨h,_⟩ | ⟨h,_⟩ <;> rw [h]
  ·exact hz
  ·exact Int.neg_dvd.mpr hz
 obtain ⟨x,hx⟩:=dv a d1
 obtain ⟨y,hy⟩:=dv b d2
 obtain ⟨z,hz⟩:=dv n d3
 have ex:a.fdiv s=x:=by rw [hx]; exact Int.mul_fdiv_cancel_left x s0
 have ey:b.fdiv s=y:=by rw [hy]; exact Int.mul_fdiv_cancel_left y s0
 have ez:n.fdiv s=z:=by rw [hz]; exact Int.mul_fdiv_cancel_left z s0
 refine ⟨⟨?_,?_⟩,?_,?_,PySem.natAbs_fdiv_le a s,PySem.natAbs_fdiv_le b s,PySem.natAbs_fdiv_le n s⟩
 ·rw [ez]
  rcases hs with ⟨h,hp⟩ | ⟨h,hp⟩
  ·rw [hz,h] at hp
   exact Int.pos_of_mul_pos_right hp gp
  ·rw [hz,h] at hp
   have:0 < g * z:=by rw [Int.neg_mul] at hp; omega
   exact Int.pos_of_mul_pos_right this gp
 ·rw [ex,ey,ez,Zmc]
  rw [gcd3,hx,hy,hz,Int.natAbs_mul,Int.natAbs_mul,Int.natAbs_mul,Nat.gcd_mul_left,Nat.gcd_mul_left] at hg
  have sn:s.natAbs=g.toNat:=by rcases hs with ⟨h,_⟩ | ⟨h,_⟩ <;> omega
  have pos:0 < s.natAbs:=by omega
  have q:s.natAbs * Nat.gcd (Nat.gcd x.natAbs y.natAbs) z.natAbs=s.natAbs * 1:=by omega
  exact Nat.eq_of_mul_eq_mul_left pos q
 ·rw [ex,ez]
  have h1:x * n=x * (s * z):=by rw [← hz]
  have h2:a * z=s * x * z:=by rw [← hx]
  rw [h1,h2,← Int.mul_assoc,Int.mul_comm x s]
 ·rw [ey,ez]
  have h1:y * n=y * (s * z):=by rw [← hz]
  have h2:b * z=s * y * z:=by rw [← hy]
  rw [h1,h2,← Int.mul_assoc,Int.mul_comm y s]
theorem Zlq {x y z x' y' z':Int} (g:Int.gcd (Int.gcd x y:Nat) z=1) (e1:x * z'=x' * z) (e2:y * z'=y' * z):z ∣ z':=by
 have d1:z.natAbs ∣ x.natAbs * z'.natAbs:=⟨x'.natAbs,by rw [← Int.natAbs_mul,e1,Int.natAbs_mul,Nat.mul_comm]⟩
 have d2:z.natAbs ∣ y.natAbs * z'.natAbs:=⟨y'.natAbs,by rw [← Int.natAbs_mul,e2,Int.natAbs_mul,Nat.mul_comm]⟩
 have d3:z.natAbs ∣ z.natAbs * z'.natAbs:=⟨z'.natAbs,rfl⟩
 have q:=Nat.dvd_gcd (Nat.dvd_gcd d1 d2) d3
 rw [Nat.gcd_mul_right,Nat.gcd_mul_right] at q
 rw [Zmc] at g
 rw [g,Nat.one_mul] at q
 exact Int.natAbs_dvd_natAbs.mp q
theorem ZmJ {x y z x' y' z':Int} (h:Pt x y z) (h':Pt x' y' z') (e1:x * z'=x' * z) (e2:y * z'=y' * z):x=x'∧y=y'∧z=z':=by
 have d1:=Zlq h.2 e1 e2
 have d2:=Zlq h'.2 e1.symm e2.symm
 have ez:z=z':=Int.dvd_antisymm (Int.le_of_lt h.1) (Int.le_of_lt h'.1) d1 d2
 subst ez
 have nz:z≠0:=Int.ne_of_gt h.1
 exact ⟨Int.eq_of_mul_eq_mul_right nz e1,Int.eq_of_mul_eq_mul_right nz e2,rfl⟩
theorem ZiM {a b n:Int} {k:Nat} (hn:n≠0) (h:PySem.Builtin.Int.intBits n≤k):PySem.Builtin.Int.intBits ((Int.gcd (Int.gcd a n:Nat) b:Nat):Int)≤k:=by
 refine PySem.intBits_le_of_natAbs ?_ h
 exact Nat.le_of_dvd (by omega) (Int.natAbs_dvd_natAbs.mpr (Zgz a b n).2.2)
theorem Zlb {u v:Int} (hu:0 < u) (hv:0 < v):u * v≠0:=Int.ne_of_gt (Int.mul_pos hu hv)
theorem pt_neg {x y z:Int} (h:Pt x y z):Pt (-x) (-y) z:=by
 refine ⟨h.1,?_⟩
 have g:=h.2
 rw [Zmc] at g ⊢
 rw [Int.natAbs_neg,Int.natAbs_neg]
 exact g
end Cut
namespace L3
open PySem L2
open PySem.Builtin.Int (intBits)
inductive D where
 | non | bl (b:Bool) | int (i:Int) | str (x:Str) | ty (n:String) | tup (xs:List D) | lst (xs:List D) | scr (ns:List Int) | ktup (xs:List D) | dct (b:Bool) (ks:List (List (List Int))) (ds:List D)
inductive Cn where
 | l (ds:List D) | d (b:Bool) (t:Option Addr) (ks:List (List (List Int))) (ds:List D)
instance:Coe (List D) Cn:=⟨Cn.l⟩
inductive Dp where
 | ll (a:Addr) (as:List Addr) (dss:List (List D)) | dl (b:Bool) (a:Addr) (ks:List (List (List Int))) (as:List Addr) (dss:List (List D))
def Dp.adr:Dp→Addr
 | .ll a _ _=>a
 | .dl _ a _ _ _=>a
def Dp.ins:Dp→List Addr
 | .ll _ as _=>as
 | .dl _ _ _ as _=>as
inductive Sl where
 | no | val (d:D) | own (c:Cn) | bag | new (d:D) | pin (v:V) (d:D) | deep (c:Dp)
def ZfE (b:Bool) (k:List (List Int)):Int :=
 if b then reduceHash (Builtin.Tuple.tupleHashOf (k.map fun ks=>reduceHash (Builtin.Tuple.tupleHashOf (ks.map hashInt)))) else reduceHash (Builtin.Tuple.tupleHashOf ((k.headD []).map hashInt))
def keyD (b:Bool) (k:List (List Int)):D:=if b then .tup (k.map fun ks=>.tup (ks.map D.int)) else .tup ((k.headD []).map D.int)
def entK (b:Bool):List (List (List Int))→List Addr→List Value→List DictEntry
 | k :: ks,a :: as,u :: us=>⟨ZfE b k,.ref a,u⟩ :: entK b ks as us
 | _,_,_=>[]
def DicO (b:Bool) (a:Addr) (ep:Nat) (ks:List (List (List Int))) (as:List Addr) (vs:List V):HO:=.ext fun h=>ks.length≤sizeLine∧as.length=ks.length∧vs.length=ks.length∧(a == sysModules)=false ∧
 ∃ us:List Value,Vals vs us∧∃ o es,h.get? a=some o∧o.ExactDict∧o.data=.dict es ep∧es.toList=entK b ks as us∧ks.Nodup
mutual
inductive Rep (K:PySem.W.Frag) (B:Hp):V→D→Prop where
 | non:Rep K B .non .non
 | bl (b:Bool):Rep K B (.bl b) (.bl b)
 | int (i:Int):Rep K B (.int i) (.int i)
 | str (x:Str):Rep K B (.str x) (.str x)
 | ty (n:String):Rep K B (.ty n) (.ty n)
 | tup {a:Addr} {vs:List V} {ds:List D} (h:B a=some (.tup vs)) (r:Reps K B vs ds):Rep K B (.ref a) (.tup ds)
 | lst {a:Addr} {vs:List V} {ds:List D} (h:B a=some (.lst vs)) (r:Reps K B vs ds):Rep K B (.ref a) (.lst ds)
 | scr {a:Addr} {ns:List Int} (h:SqL K B a (ns.map V.int)):Rep K B (.ref a) (.scr ns)
 | ktup {a:Addr} {vs:List V} {ds:List D} (h:SqT K B a vs) (r:Reps K B vs ds):Rep K B (.ref a) (.ktup ds)
 | dct {a:Addr} {b:Bool} {ep:Nat} {ks:List (List (List Int))} {as:List Addr} {vs:List V} {ds:List D} (h:B a=some (DicO b a ep ks as vs)) (hk:Reps K B (as.map V.ref) (ks.map (keyD b))) (hb:b=false→∀ k∈ks,∃ l,k=[l]) (r:Reps K B vs ds):Rep K B (.ref a) (.dct b ks ds)
inductive Reps (K:PySem.W.Frag) (B:Hp):List V→List D→Prop where
 | nil:Reps K B [] []
 | cons {v:V} {d:D} {vs:List V} {ds:List D} (h:Rep K B v d) (r:Reps K B vs ds):Reps K B (v :: vs) (d :: ds)
end
theorem sameT {K:PySem.W.Frag} {H H':Hp} {a:Addr} {xs:List V} (e:Same H H') (h:SqT K H a xs):SqT K H' a xs:=by
 rcases h with (h | ⟨o,h⟩) | h
 ·exact .inl (.inl (e _ _ h))
 ·exact .inl (.inr ⟨o,e _ _ h⟩)
 ·exact .inr h
section
variable {K:PySem.W.Frag} {B B':Hp}
mutual
theorem Rep.mono (s:Same B B'):∀ {v:V} {d:D},Rep K B v d→Rep K B' v d
 | _,_,.non=>.non
 | _,_,.bl b=>.bl b
 | _,_,.int i=>.int i
 | _,_,.str x=>.str x
 | _,_,.ty n=>.ty n
 | _,_,.tup h r=>.tup (s _ _ h) (Reps.mono s r)
 | _,_,.lst h r=>.lst (s _ _ h) (Reps.mono s r)
 | _,_,.scr h=>.scr (s.seq h)
 | _,_,.ktup h r=>.ktup (sameT s h) (Reps.mono s r)
 | _,_,.dct h hk hb r=>.dct (s _ _ h) (Reps.mono s hk) hb (Reps.mono s r)
theorem Reps.mono (s:Same B B'):∀ {vs:List V} {ds:List D},Reps K B vs ds→Reps K B' vs ds
 | _,_,.nil=>.nil
 | _,_,.cons h r=>.cons (Rep.mono s h) (Reps.mono s r)
end
theorem Reps.length:∀ {vs:List V} {ds:List D},Reps K B vs ds→vs.length=ds.length
 | _,_,.nil=>rfl
 | _,_,.cons _ r=>by rw [List.length_cons,List.length_cons,r.length]
theorem Reps.get:∀ {vs:List V} {ds:List D} {i:Nat} {d:D},Reps K B vs ds→ds[i]?=some d→∃ v,vs[i]?=some v∧Rep K B v d
 | _,_,_,_,.nil,e=>by simp at e
 | _,_,0,_,.cons h _,e=>by simp at e; subst e; exact ⟨_,rfl,h⟩
 | _,_,i + 1,d,.cons _ r,e=>by
  obtain ⟨v,h1,h2⟩:=Reps.get (i:=i) (d:=d) r (by simpa using e)
  exact ⟨v,by simpa using h1,h2⟩
theorem Reps.getV:∀ {vs:List V} {ds:List D} {i:Nat} {v:V},Reps K B vs ds→vs[i]?=some v→∃ d,ds[i]?=some d∧Rep K B v d
 | _,_,_,_,.nil,e=>by simp at e
 | _,_,0,_,.cons h _,e=>by simp at e; subst e; exact ⟨_,rfl,h⟩
 | _,_,i + 1,v,.cons _ r,e=>by
  obtain ⟨d,h1,h2⟩:=Reps.getV (i:=i) (v:=v) r (by simpa using e)
  exact ⟨d,by simpa using h1,h2⟩
theorem Reps.append:∀ {vs ws:List V} {ds es:List D},Reps K B vs ds→Reps K B ws es→Reps K B (vs ++ ws) (ds ++ es)
 | _,_,_,_,.nil,s=>s
 | _,_,_,_,.cons h r,s=>.cons h (Reps.append r s)
theorem Reps.take:∀ {vs:List V} {ds:List D} (n:Nat),Reps K B vs ds→Reps K B (vs.take n) (ds.take n)
 | _,_,0,_=>.nil
 | _,_,_ + 1,.nil=>.nil
 | _,_,n + 1,.cons h r=>.cons h (Reps.take n r)
theorem Reps.drop:∀ {vs:List V} {ds:List D} (n:Nat),Reps K B vs ds→Reps K B (vs.drop n) (ds.drop n)
 | _,_,0,r=>r
 | _,_,_ + 1,.nil=>.nil
 | _,_,n + 1,.cons _ r=>Reps.drop n r
theorem Reps.ints:∀ (ns:List Int),Reps K B (ns.map V.int) (ns.map D.int)
 | []=>.nil
 | n :: r=>.cons (.int n) (Reps.ints r)
end
def Bag (H:Hp) (b:Addr):Prop:=∃ x y:Int,H b=some (.lst [.int x,.int y])∧0≤x∧0≤y∧y < 2147483647
def Zat (σ:St) (ρ:List Sl) (i:Nat) (a:Addr):Prop:=(σ[i]?=some (some (.ref a))∧(ρ[i]?=some .bag∨∃ ds,ρ[i]?=some (.own ds)))∨∃ c,ρ[i]?=some (.deep c)∧a∈c.adr :: c.ins
structure Wd (R:Hp) (W:Addr→Prop) (B H:Hp):Prop where
 fr:∀ a o,R a=some o→¬ W a→H a=some o
 bh:Same B H
 wb:∀ a,W a→B a=none
 wh:∀ a,W a→Bag H a
 wr:∀ a,W a→R a≠none
open Classical in
noncomputable def mixB (R:Hp) (W:Addr→Prop) (B:Hp):Hp:=fun a=>match R a with
 | some (.lst vs)=>if W a then B a else some (.lst vs)
 | _=>B a
theorem Zb0 {R:Hp} {W:Addr→Prop} {B B':Hp} (s:Same B B'):Same (mixB R W B) (mixB R W B'):=fun a o h=>by
 unfold mixB at h ⊢
 split at h
 ·split at h
  ·rename_i z; rw [if_pos z]; exact s a o h
  ·rename_i z; rw [if_neg z]; exact h
 ·exact s a o h
def CnOk (K:PySem.W.Frag) (B H:Hp) (a:Addr):Cn→Prop
 | .l ds=>∃ vs,H a=some (.lst vs)∧Reps K B vs ds
 | .d b t ks ds=>∃ ep as vs,(∀ c,t=some c→c=a)∧H a=some (DicO b a ep ks as vs)∧Reps K B (as.map V.ref) (ks.map (keyD b))∧(b=false→∀ k∈ks,∃ l,k=[l])∧Reps K B vs ds
theorem CnOk.mono {K:PySem.W.Frag} {B B' H H':Hp} {a:Addr} {c:Cn} (h:CnOk K B H a c) (s:Same B B') (e:H' a=H a):CnOk K B' H' a c:=by
 cases c with
 | l ds=>obtain ⟨vs,h1,h2⟩:=h; exact ⟨vs,by rw [e]; exact h1,h2.mono s⟩
 | d b t ks ds=>obtain ⟨ep,as,vs,h0,h1,h2,h3,h4⟩:=h; exact ⟨ep,as,vs,h0,by rw [e]; exact h1,h2.mono s,h3,h4.mono s⟩
theorem CnOk.ne {K:PySem.W.Frag} {B H:Hp} {a:Addr} {c:Cn} (h:CnOk K B H a c):H a≠none:=by
 cases c with
 | l ds=>obtain ⟨vs,h1,h2⟩:=h; rw [h1]; simp
 | d b t ks ds=>obtain ⟨ep,as,vs,_,h1,_⟩:=h; rw [h1]; simp
structure InOk (K:PySem.W.Frag) (B H:Hp) (as:List Addr) (dss:List (List D)):Prop where
 len:as.length=dss.length
 at_:∀ (i:Nat) (a:Addr) (ds:List D),as[i]?=some a→dss[i]?=some ds→∃ vs,H a=some (.lst vs)∧Reps K B vs ds
theorem InOk.mono {K:PySem.W.Frag} {B B' H H':Hp} {as:List Addr} {dss:List (List D)} (h:InOk K B H as dss) (s:Same B B') (e:∀ a∈as,H' a=H a):InOk K B' H' as dss :=
 ⟨h.len,fun i a ds h1 h2=>by
  obtain ⟨vs,q1,q2⟩:=h.at_ i a ds h1 h2
  exact ⟨vs,by rw [e a (List.mem_of_getElem? h1)]; exact q1,q2.mono s⟩⟩
theorem InOk.ne {K:PySem.W.Frag} {B H:Hp} {as:List Addr} {dss:List (List D)} (h:InOk K B H as dss) {a:Addr} (m:a∈as):H a≠none:=by
 obtain ⟨i,hi⟩:=List.getElem?_of_mem m
 have lt:i < as.length:=by
  by_cases z:i < as.length
  ·exact z
  ·rw [List.getElem?_eq_none (by omega)] at hi; cases hi
 obtain ⟨vs,q1,_⟩:=h.at_ i a _ hi (List.getElem?_eq_getElem (by rw [← h.len]; exact lt))
 rw [q1]; simp
def DpO (K:PySem.W.Frag) (B H:Hp):Dp→Prop
 | .ll a as dss=>H a=some (.lst (as.map V.ref))∧InOk K B H as dss
 | .dl b a ks as dss=>∃ ep kas,H a=some (DicO b a ep ks kas (as.map V.ref))∧Reps K B (kas.map V.ref) (ks.map (keyD b))∧(b=false→∀ k∈ks,∃ l,k=[l])∧InOk K B H as dss
structure DpOk (K:PySem.W.Frag) (R B H:Hp) (c:Dp):Prop where
 fr:∀ a∈c.adr :: c.ins,R a=none∧B a=none
 nd:(c.adr :: c.ins).Nodup
 ok:DpO K B H c
theorem DpO.mono {K:PySem.W.Frag} {B B' H H':Hp} {c:Dp} (h:DpO K B H c) (s:Same B B') (e:∀ a∈c.adr :: c.ins,H' a=H a):DpO K B' H' c:=by
 cases c with
 | ll a as dss=>exact ⟨by rw [e a List.mem_cons_self]; exact h.1,h.2.mono s fun x m=>e x (List.mem_cons_of_mem _ m)⟩
 | dl b a ks as dss =>
  obtain ⟨ep,kas,h1,h2,h3,h4⟩:=h
  exact ⟨ep,kas,by rw [e a List.mem_cons_self]; exact h1,h2.mono s,h3,h4.mono s fun x m=>e x (List.mem_cons_of_mem _ m)⟩
theorem DpO.ne {K:PySem.W.Frag} {B H:Hp} {c:Dp} (h:DpO K B H c) {a:Addr} (m:a∈c.adr :: c.ins):H a≠none:=by
 cases c with
 | ll b as dss =>
  rcases List.mem_cons.mp m with e | m
  ·rw [show a=b from e,h.1]; simp
  ·exact h.2.ne m
 | dl b p ks as dss =>
  obtain ⟨ep,kas,h1,h2,h3,h4⟩:=h
  rcases List.mem_cons.mp m with e | m
  ·rw [show a=p from e,h1]; simp
  ·exact h4.ne m
def SlOk (K:PySem.W.Frag) (R:Hp) (W:Addr→Prop) (B H:Hp) (o:Option V):Sl→Prop
 | .no=>True
 | .val d=>∃ v,o=some v∧Rep K B v d
 | .own c=>∃ a,o=some (.ref a)∧R a=none∧B a=none∧CnOk K B H a c
 | .bag=>∃ b,o=some (.ref b)∧(W b∨R b=none)∧B b=none∧Bag H b
 | .new d=>∃ v,o=some v∧Rep K (mixB R W B) v d
 | .pin v d=>o=some v∧Rep K (mixB R W B) v d
 | .deep c=>o=some (.ref c.adr)∧DpOk K R B H c
structure Ev (K:PySem.W.Frag) (R:Hp) (W:Addr→Prop) (B H:Hp) (σ:St) (ρ:List Sl):Prop extends Wd R W B H where
 len:σ.length=ρ.length
 ok:∀ (i:Nat) (k:Sl),ρ[i]?=some k→SlOk K R W B H (σ[i]?).join k
 sep:∀ (i j:Nat) (a:Addr),Zat σ ρ i a→Zat σ ρ j a→i=j
structure Grow (R B B':Hp):Prop where
 s:Same B B'
 n:∀ a o,B' a=some o→B a=some o∨R a=none
theorem Grow.refl (R B:Hp):Grow R B B:=⟨Same.refl _,fun _ _ h=>.inl h⟩
theorem Grow.trans {R B B' B'':Hp} (g:Grow R B B') (h:Grow R B' B''):Grow R B B'':=⟨g.s.trans h.s,fun a o e=>(h.n a o e).elim (g.n a o) .inr⟩
theorem Wd.fresh {R:Hp} {W:Addr→Prop} {B H:Hp} (w:Wd R W B H) {p:Addr} (h:H p=none):R p=none∧¬ W p∧B p=none:=by
 have nw:¬ W p:=fun z=>by
  obtain ⟨x,y,e,_⟩:=w.wh p z
  rw [h] at e; cases e
 refine ⟨?_,nw,w.bh.free h⟩
 cases q:R p with
 | none=>rfl
 | some o=>rw [w.fr p o q nw] at h; cases h
theorem Zas {α:Type} {o:Option (Option α)} {v:α} (h:o.join=some v):o=some (some v):=by
 cases o with
 | none=>cases h
 | some x=>exact congrArg some h
section
variable {K:PySem.W.Frag} {R:Hp} {W:Addr→Prop} {B B' H H':Hp} {σ:St} {ρ:List Sl}
theorem Ev.val (e:Ev K R W B H σ ρ) {i:Nat} {d:D} (h:ρ[i]?=some (.val d)):∃ v,σ[i]?=some (some v)∧Rep K B v d:=by
 obtain ⟨v,h1,h2⟩:=e.ok i _ h
 exact ⟨v,Zas h1,h2⟩
theorem Ev.ownAt (e:Ev K R W B H σ ρ) {i:Nat} {ds:List D} (h:ρ[i]?=some (.own ds)):∃ a vs,σ[i]?=some (some (.ref a))∧R a=none∧B a=none∧H a=some (.lst vs)∧Reps K B vs ds:=by
 obtain ⟨a,h1,h2,h3,vs,h4,h5⟩:=e.ok i _ h
 exact ⟨a,vs,Zas h1,h2,h3,h4,h5⟩
theorem Ev.ownC (e:Ev K R W B H σ ρ) {i:Nat} {c:Cn} (h:ρ[i]?=some (.own c)):∃ a,σ[i]?=some (some (.ref a))∧R a=none∧B a=none∧CnOk K B H a c:=by
 obtain ⟨a,h1,h2⟩:=e.ok i _ h
 exact ⟨a,Zas h1,h2⟩
theorem Ev.bagAt (e:Ev K R W B H σ ρ) {i:Nat} (h:ρ[i]?=some .bag):∃ b,σ[i]?=some (some (.ref b))∧(W b∨R b=none)∧B b=none∧Bag H b:=by
 obtain ⟨a,h1,h2⟩:=e.ok i _ h
 exact ⟨a,Zas h1,h2⟩
theorem Ev.deepAt (e:Ev K R W B H σ ρ) {i:Nat} {c:Dp} (h:ρ[i]?=some (.deep c)):σ[i]?=some (some (.ref c.adr))∧DpOk K R B H c:=by
 obtain ⟨h1,h2⟩:=e.ok i _ h
 exact ⟨Zas h1,h2⟩
theorem Ev.mutOk (e:Ev K R W B H σ ρ) {i:Nat} {a:Addr} (m:Zat σ ρ i a):B a=none∧H a≠none:=by
 rcases m with ⟨h1,h2 | ⟨ds,h2⟩⟩ | ⟨c,h1,h2⟩
 ·obtain ⟨b,e1,_,e3,x,y,e4,_⟩:=e.bagAt h2
  rw [h1] at e1; cases e1
  exact ⟨e3,by rw [e4]; simp⟩
 ·obtain ⟨b,e1,_,e3,e4⟩:=e.ownC h2
  rw [h1] at e1; cases e1
  exact ⟨e3,e4.ne⟩
 ·have q:=(e.deepAt h1).2
  exact ⟨(q.fr a h2).2,q.ok.ne h2⟩
theorem mut_in {i:Nat} {a:Addr} (m:Zat σ ρ i a) (n:∀ c,ρ[i]?≠some (.deep c)):σ[i]?=some (some (.ref a))∧(ρ[i]?=some .bag∨∃ ds,ρ[i]?=some (.own ds)):=by
 rcases m with m | ⟨c,h,_⟩
 ·exact m
 ·exact absurd h (n c)
theorem Zdl {i:Nat} {a:Addr} (m:Zat σ ρ i a) (h:ρ[i]?=some .bag):σ[i]?=some (some (.ref a)):=(mut_in m fun c z=>by rw [h] at z; cases z).1
theorem Ev.move (e:Ev K R W B H σ ρ) (w:Wd R W B' H') (s:Same B B') (m:∀ i a,Zat σ ρ i a→B' a=none∧(ρ[i]?=some .bag→Bag H' a)∧(ρ[i]?≠some .bag→H' a=H a)):Ev K R W B' H' σ ρ:=by
 refine ⟨w,e.len,fun i k h=>?_,e.sep⟩
 cases k with
 | no=>trivial
 | new d =>
  obtain ⟨v,h1,h2⟩:=e.ok i _ h
  exact ⟨v,h1,h2.mono (Zb0 s)⟩
 | pin v d =>
  obtain ⟨h1,h2⟩:=e.ok i _ h
  exact ⟨h1,h2.mono (Zb0 s)⟩
 | val d =>
  obtain ⟨v,h1,h2⟩:=e.ok i _ h
  exact ⟨v,h1,h2.mono s⟩
 | own ds =>
  obtain ⟨a,h1,h2,h3,h4⟩:=e.ok i _ h
  obtain ⟨m1,m2,m3⟩:=m i a (.inl ⟨Zas h1,.inr ⟨ds,h⟩⟩)
  exact ⟨a,h1,h2,m1,h4.mono s (m3 (by rw [h]; simp))⟩
 | deep c =>
  obtain ⟨h1,h2⟩:=e.ok i _ h
  have mm:∀ a∈c.adr :: c.ins,B' a=none∧H' a=H a:=fun a ma=>by
   obtain ⟨m1,m2,m3⟩:=m i a (.inr ⟨c,h,ma⟩)
   exact ⟨m1,m3 (by rw [h]; simp)⟩
  exact ⟨h1,fun a ma=>⟨(h2.fr a ma).1,(mm a ma).1⟩,h2.nd,h2.ok.mono s fun a ma=>(mm a ma).2⟩
 | bag =>
  obtain ⟨b,h1,h2,h3,h4⟩:=e.ok i _ h
  obtain ⟨m1,m2,m3⟩:=m i b (.inl ⟨Zas h1,.inl h⟩)
  exact ⟨b,h1,h2,m1,m2 h⟩
theorem Bag.upd {H:Hp} {b p:Addr} {o:HO} (h:Bag H b) (n:b≠p):Bag (L2.upd H p o) b:=by
 obtain ⟨x,y,e,q⟩:=h
 exact ⟨x,y,by rw [Zak n]; exact e,q⟩
theorem Wd.alloc (w:Wd R W B H) {p:Addr} (h:H p=none) (o:HO):Wd R W (upd B p o) (upd H p o):=by
 obtain ⟨f1,f2,f3⟩:=w.fresh h
 refine ⟨fun a u q nw=>?_,fun a u q=>?_,fun a z=>?_,fun a z=>?_,w.wr⟩
 ·rw [Zak (by rintro rfl; rw [f1] at q; cases q)]; exact w.fr a u q nw
 ·unfold L2.upd at q ⊢
  split
  ·rename_i z; rw [if_pos z] at q; exact q
  ·rename_i z; rw [if_neg z] at q; exact w.bh a u q
 ·rw [Zak (by rintro rfl; exact f2 z)]; exact w.wb a z
 ·exact (w.wh a z).upd (by rintro rfl; exact f2 z)
theorem Wd.allocH (w:Wd R W B H) {p:Addr} (h:H p=none) (o:HO):Wd R W B (upd H p o):=by
 obtain ⟨f1,f2,f3⟩:=w.fresh h
 refine ⟨fun a u q nw=>?_,fun a u q=>?_,w.wb,fun a z=>?_,w.wr⟩
 ·rw [Zak (by rintro rfl; rw [f1] at q; cases q)]; exact w.fr a u q nw
 ·rw [Zak (by rintro rfl; rw [f3] at q; cases q)]; exact w.bh a u q
 ·exact (w.wh a z).upd (by rintro rfl; exact f2 z)
theorem Ev.notNew (e:Ev K R W B H σ ρ) {p:Addr} (h:H p=none) {i:Nat} {a:Addr} (m:Zat σ ρ i a):a≠p:=by
 rintro rfl
 exact (e.mutOk m).2 h
theorem Ev.alloc (e:Ev K R W B H σ ρ) {p:Addr} (h:H p=none) (o:HO):Ev K R W (upd B p o) (upd H p o) σ ρ:=by
 obtain ⟨f1,f2,f3⟩:=e.toWd.fresh h
 refine e.move (e.toWd.alloc h o) (Zcy f3 o) fun i a m=>?_
 have n:=e.notNew h m
 refine ⟨by rw [Zak n]; exact (e.mutOk m).1,fun z=>?_,fun _=>Zak n⟩
 obtain ⟨b,e1,_,_,e4⟩:=e.bagAt z
 rw [Zdl m z] at e1; cases e1
 exact e4.upd n
theorem Ev.allocH (e:Ev K R W B H σ ρ) {p:Addr} (h:H p=none) (o:HO):Ev K R W B (upd H p o) σ ρ:=by
 refine e.move (e.toWd.allocH h o) (Same.refl _) fun i a m=>?_
 have n:=e.notNew h m
 refine ⟨(e.mutOk m).1,fun z=>?_,fun _=>Zak n⟩
 obtain ⟨b,e1,_,_,e4⟩:=e.bagAt z
 rw [Zdl m z] at e1; cases e1
 exact e4.upd n
theorem Ev.grow (e:Ev K R W B H σ ρ) {p:Addr} (h:H p=none) (o:HO):Grow R B (upd B p o):=by
 obtain ⟨f1,f2,f3⟩:=e.toWd.fresh h
 refine ⟨Zcy f3 o,fun a u q=>?_⟩
 by_cases z:a=p
 ·subst z; exact .inr f1
 ·rw [Zak z] at q; exact .inl q
theorem Ev.freezeO (e:Ev K R W B H σ ρ) {a:Addr} {o:HO} (h:H a=some o) (hr:R a=none) (hb:B a=none) (hm:∀ i,¬ Zat σ ρ i a):Ev K R W (upd B a o) H σ ρ∧Grow R B (upd B a o):=by
 have nw:¬ W a:=fun z=>e.wr a z hr
 refine ⟨e.move ⟨e.fr,fun b u q=>?_,fun b z=>?_,e.wh,e.wr⟩ (Zcy hb _) (fun i b m=>?_),⟨Zcy hb _,fun b u q=>?_⟩⟩
 ·by_cases z:b=a
  ·subst z; rw [Zal] at q; cases q; exact h
  ·rw [Zak z] at q; exact e.bh b u q
 ·rw [Zak (by rintro rfl; exact nw z)]; exact e.wb b z
 ·have n:b≠a:=by rintro rfl; exact hm i m
  refine ⟨by rw [Zak n]; exact (e.mutOk m).1,fun z=>?_,fun _=>rfl⟩
  obtain ⟨c,e1,_,_,e4⟩:=e.bagAt z
  rw [Zdl m z] at e1; cases e1
  exact e4
 ·by_cases z:b=a
  ·subst z; exact .inr hr
  ·rw [Zak z] at q; exact .inl q
theorem Ev.freeze (e:Ev K R W B H σ ρ) {a:Addr} {vs:List V} (h:H a=some (.lst vs)) (hr:R a=none) (hb:B a=none) (hm:∀ i,¬ Zat σ ρ i a):Ev K R W (upd B a (.lst vs)) H σ ρ∧Grow R B (upd B a (.lst vs)):=e.freezeO h hr hb hm
theorem getElem?_set_some {α:Type} {l:List α} {i j:Nat} {x y:α} (h:(l.set i x)[j]?=some y):(j=i∧y=x)∨(j≠i∧l[j]?=some y):=by
 by_cases e:i=j
 ·subst e
  rw [List.getElem?_set_self'] at h
  cases q:l[i]? with
  | none=>rw [q] at h; cases h
  | some z=>rw [q] at h; exact .inl ⟨rfl,(Option.some.inj h).symm⟩
 ·rw [List.getElem?_set_ne e] at h
  exact .inr ⟨fun z=>e z.symm,h⟩
def Sl.adrs:Sl→List Addr
 | .deep c=>c.adr :: c.ins
 | _=>[]
theorem Zeo {i j:Nat} {v:V} {k:Sl} {a:Addr} (m:Zat (σ.set i (some v)) (ρ.set i k) j a):(j=i∧((v=.ref a∧(k=.bag∨∃ ds,k=.own ds))∨a∈k.adrs))∨(j≠i∧Zat σ ρ j a):=by
 rcases m with ⟨h1,h2⟩ | ⟨c,h1,h2⟩
 ·rcases getElem?_set_some h1 with ⟨e,h1⟩ | ⟨e,h1⟩
  ·refine .inl ⟨e,.inl ⟨(Option.some.inj h1).symm,?_⟩⟩
   rcases h2 with h2 | ⟨ds,h2⟩
   ·rcases getElem?_set_some h2 with ⟨_,h2⟩ | ⟨n,_⟩
    ·exact .inl h2.symm
    ·exact absurd e n
   ·rcases getElem?_set_some h2 with ⟨_,h2⟩ | ⟨n,_⟩
    ·exact .inr ⟨ds,h2.symm⟩
    ·exact absurd e n
  ·refine .inr ⟨e,.inl ⟨h1,?_⟩⟩
   rcases h2 with h2 | ⟨ds,h2⟩
   ·rcases getElem?_set_some h2 with ⟨n,_⟩ | ⟨_,h2⟩
    ·exact absurd n e
    ·exact .inl h2
   ·rcases getElem?_set_some h2 with ⟨n,_⟩ | ⟨_,h2⟩
    ·exact absurd n e
    ·exact .inr ⟨ds,h2⟩
 ·rcases getElem?_set_some h1 with ⟨e,h1⟩ | ⟨e,h1⟩
  ·exact .inl ⟨e,.inr (by rw [← h1]; exact h2)⟩
  ·exact .inr ⟨e,.inr ⟨c,h1,h2⟩⟩
theorem Zeu {i j:Nat} {v:V} {k:Sl} {a:Addr} (m:Zat (σ.set i (some v)) (ρ.set i k) j a) (n1:k≠.bag) (n2:∀ c,k≠.own c) (n3:k.adrs=[]):j≠i∧Zat σ ρ j a:=by
 rcases Zeo m with ⟨_,⟨_,z | ⟨c,z⟩⟩ | z⟩ | m
 ·exact absurd z n1
 ·exact absurd z (n2 c)
 ·rw [n3] at z; cases z
 ·exact m
theorem Ev.set (e:Ev K R W B H σ ρ) (i:Nat) {v:V} {k:Sl} (hk:SlOk K R W B H (some v) k) (hm:∀ a,v=.ref a→(k=.bag∨∃ ds,k=.own ds)→∀ j,j≠i→¬ Zat σ ρ j a) (hd:∀ a∈k.adrs,∀ j,j≠i→¬ Zat σ ρ j a:=by intro _ z; cases z):Ev K R W B H (σ.set i (some v)) (ρ.set i k):=by
 refine ⟨e.toWd,by rw [List.length_set,List.length_set]; exact e.len,fun j k' h=>?_,fun x y a hx hy=>?_⟩
 ·rcases getElem?_set_some h with ⟨rfl,rfl⟩ | ⟨n,h⟩
  ·have lt:j < σ.length:=by
    rw [e.len]
    by_cases z:j < ρ.length
    ·exact z
    ·rw [List.getElem?_eq_none (by rw [List.length_set]; omega)] at h; cases h
   have q:((σ.set j (some v))[j]?).join=some v:=by rw [List.getElem?_set_self lt]; rfl
   rw [q]; exact hk
  ·rw [List.getElem?_set_ne (fun z=>n z.symm)]
   exact e.ok j k' h
 ·rcases Zeo hx with ⟨e1,z1⟩ | ⟨n1,m1⟩
  ·rcases Zeo hy with ⟨e2,_⟩ | ⟨n2,m2⟩
   ·rw [e1,e2]
   ·rcases z1 with ⟨v1,k1⟩ | z1
    ·exact absurd m2 (hm a v1 k1 y n2)
    ·exact absurd m2 (hd a z1 y n2)
  ·rcases Zeo hy with ⟨e2,z2⟩ | ⟨n2,m2⟩
   ·rcases z2 with ⟨v2,k2⟩ | z2
    ·exact absurd m1 (hm a v2 k2 x n1)
    ·exact absurd m1 (hd a z2 x n1)
   ·exact e.sep x y a m1 m2
theorem Ev.setV (e:Ev K R W B H σ ρ) (i:Nat) {v:V} {d:D} (r:Rep K B v d):Ev K R W B H (σ.set i (some v)) (ρ.set i (.val d)) :=
 e.set i ⟨v,rfl,r⟩ fun _ _ z=>by rcases z with z | ⟨_,z⟩ <;> cases z
theorem Ev.setO (e:Ev K R W B H σ ρ) (i:Nat) {a:Addr} {vs:List V} {ds:List D} (hr:R a=none) (hb:B a=none) (hh:H a=some (.lst vs)) (r:Reps K B vs ds) (hm:∀ j,j≠i→¬ Zat σ ρ j a):Ev K R W B H (σ.set i (some (.ref a))) (ρ.set i (.own ds)) :=
 e.set i ⟨a,rfl,hr,hb,vs,hh,r⟩ fun b z _=>by cases z; exact hm
theorem Ev.setC (e:Ev K R W B H σ ρ) (i:Nat) {a:Addr} {c:Cn} (hr:R a=none) (hb:B a=none) (hh:CnOk K B H a c) (hm:∀ j,j≠i→¬ Zat σ ρ j a):Ev K R W B H (σ.set i (some (.ref a))) (ρ.set i (.own c)) :=
 e.set i ⟨a,rfl,hr,hb,hh⟩ fun b z _=>by cases z; exact hm
theorem Ev.writeC (e:Ev K R W B H σ ρ) {i:Nat} {a:Addr} {c c':Cn} {o:HO} (h:σ[i]?=some (some (.ref a))) (ho:ρ[i]?=some (.own c)) (r:CnOk K B (upd H a o) a c'):Ev K R W B (upd H a o) σ (ρ.set i (.own c')):=by
 obtain ⟨a',e1,e2,e3,e4⟩:=e.ownC ho
 rw [h] at e1; cases e1
 have nw:¬ W a:=fun z=>e.wr a z e2
 have me:Zat σ ρ i a:=.inl ⟨h,.inr ⟨c,ho⟩⟩
 refine ⟨⟨fun b u q z=>?_,fun b u q=>?_,e.wb,fun b z=>?_,e.wr⟩,by rw [List.length_set]; exact e.len,fun j k q=>?_,fun x y b hx hy=>?_⟩
 ·rw [Zak (by rintro rfl; rw [e2] at q; cases q)]; exact e.fr b u q z
 ·rw [Zak (by rintro rfl; rw [e3] at q; cases q)]; exact e.bh b u q
 ·exact (e.wh b z).upd (by rintro rfl; exact nw z)
 ·rcases getElem?_set_some q with ⟨rfl,rfl⟩ | ⟨n,q⟩
  ·exact ⟨a,by rw [h]; rfl,e2,e3,r⟩
  ·have z:=e.ok j k q
   cases k with
   | no=>trivial
   | new d=>exact z
   | pin v d=>exact z
   | val d=>exact z
   | own es =>
    obtain ⟨b,z1,z2,z3,z4⟩:=z
    exact ⟨b,z1,z2,z3,z4.mono (Same.refl _) (Zak (by rintro rfl; exact n (e.sep j i b (.inl ⟨Zas z1,.inr ⟨es,q⟩⟩) me)))⟩
   | deep d =>
    exact ⟨z.1,z.2.fr,z.2.nd,z.2.ok.mono (Same.refl _) fun b mb=>Zak (by rintro rfl; exact n (e.sep j i b (.inr ⟨d,q,mb⟩) me))⟩
   | bag =>
    obtain ⟨b,z1,z2,z3,z4⟩:=z
    exact ⟨b,z1,z2,z3,z4.upd (by rintro rfl; exact n (e.sep j i b (.inl ⟨Zas z1,.inl q⟩) me))⟩
 ·have back:∀ x,Zat σ (ρ.set i (.own c')) x b→Zat σ ρ x b:=fun x m=>by
   rcases m with ⟨m1,m2⟩ | ⟨d,m1,m2⟩
   ·by_cases z:x=i
    ·subst z; exact .inl ⟨m1,.inr ⟨c,ho⟩⟩
    ·refine .inl ⟨m1,?_⟩
     rw [List.getElem?_set_ne (fun w=>z w.symm)] at m2
     exact m2
   ·rcases getElem?_set_some m1 with ⟨_,z⟩ | ⟨_,m1⟩
    ·cases z
    ·exact .inr ⟨d,m1,m2⟩
  exact e.sep x y b (back x hx) (back y hy)
theorem Ev.write (e:Ev K R W B H σ ρ) {i:Nat} {a:Addr} {ds ds':List D} {vs:List V} (h:σ[i]?=some (some (.ref a))) (ho:ρ[i]?=some (.own ds)) (r:Reps K B vs ds'):Ev K R W B (upd H a (.lst vs)) σ (ρ.set i (.own ds')) :=
 e.writeC h ho ⟨vs,Zal,r⟩
theorem Ev.fz (e:Ev K R W B H σ ρ) {i:Nat} {ds:List D} (ho:ρ[i]?=some (.own ds)):∃ B',Ev K R W B' H σ (ρ.set i (.val (.lst ds)))∧Grow R B B':=by
 obtain ⟨a,vs,e1,e2,e3,e4,e5⟩:=e.ownAt ho
 have me:Zat σ ρ i a:=.inl ⟨e1,.inr ⟨ds,ho⟩⟩
 have f:=(e.setV (d:=.non) i (v:=.non) .non)
 have f2:=f.freeze e4 e2 e3 (fun j m=>by
  obtain ⟨n,m⟩:=Zeu m (by simp) (by simp) rfl
  exact n (e.sep j i a m me))
 refine ⟨_,?_,f2.2⟩
 have g:=f2.1.setV i (v:=.ref a) (d:=.lst ds) (.lst Zal (e5.mono f2.2.s))
 rw [List.set_set,List.set_set] at g
 have q:σ.set i (some (.ref a))=σ:=by
  apply List.ext_getElem?
  intro j
  by_cases z:i=j
  ·subst z
   have lt:i < σ.length:=by
    by_cases z:i < σ.length
    ·exact z
    ·rw [List.getElem?_eq_none (by omega)] at e1; cases e1
   rw [List.getElem?_set_self lt,e1]
  ·rw [List.getElem?_set_ne z]
 rw [q] at g
 exact g
theorem Ev.fzD (e:Ev K R W B H σ ρ) {i:Nat} {b:Bool} {t:Option Addr} {ks:List (List (List Int))} {ds:List D} (ho:ρ[i]?=some (.own (.d b t ks ds))):∃ B',Ev K R W B' H σ (ρ.set i (.val (.dct b ks ds)))∧Grow R B B':=by
 obtain ⟨a,e1,e2,e3,ep,as,vs,_,e4,e5,e6,e7⟩:=e.ownC ho
 have me:Zat σ ρ i a:=.inl ⟨e1,.inr ⟨_,ho⟩⟩
 have f:=(e.setV (d:=.non) i (v:=.non) .non)
 have f2:=f.freezeO e4 e2 e3 (fun j m=>by
  obtain ⟨n,m⟩:=Zeu m (by simp) (by simp) rfl
  exact n (e.sep j i a m me))
 refine ⟨_,?_,f2.2⟩
 have g:=f2.1.setV i (v:=.ref a) (d:=.dct b ks ds) (.dct Zal (e5.mono f2.2.s) e6 (e7.mono f2.2.s))
 rw [List.set_set,List.set_set] at g
 have q:σ.set i (some (.ref a))=σ:=by
  apply List.ext_getElem?
  intro j
  by_cases z:i=j
  ·subst z
   have lt:i < σ.length:=by
    by_cases z:i < σ.length
    ·exact z
    ·rw [List.getElem?_eq_none (by omega)] at e1; cases e1
   rw [List.getElem?_set_self lt,e1]
  ·rw [List.getElem?_set_ne z]
 rw [q] at g
 exact g
end
end L3
namespace L3
open PySem L2
open PySem.Builtin.Int (intBits)
abbrev UE:=List Sl→(D→Prop)→Prop
abbrev UL:=List Sl→(List D→Prop)→Prop
abbrev UT:=List Sl→(Bool→Prop)→Prop
inductive Arg where
 | val (d:D) | bag (i:Nat)
abbrev UA:=List Sl→(List Arg→Prop)→Prop
structure UEnds where
 nx:List Sl→Prop
 rt:Sl→Prop
 bk:List Sl→Prop:=fun _=>False
 ct:List Sl→Prop:=fun _=>False
abbrev US:=UEnds→List Sl→Prop
abbrev UG:=D→List Sl→(List Sl→Prop)→Prop
abbrev UGs:=List D→List Sl→(List Sl→Prop)→Prop
section
variable (K:PySem.W.Frag)
def RefE (t:TE) (u:UE):Prop:=∀ (ρ:List Sl) (k:D→Prop),u ρ k→∀ (R:Hp) (W:Addr→Prop) (B H:Hp) (σ:St) (Q:VK),Ev K R W B H σ ρ →
 (∀ d v B' H',k d→Ev K R W B' H' σ ρ→Grow R B B'→Rep K B' v d→Q v H')→t σ H Q
def RefO (t:TE) (u:UL):Prop:=∀ (ρ:List Sl) (k:List D→Prop),u ρ k→∀ (R:Hp) (W:Addr→Prop) (B H:Hp) (σ:St) (Q:VK),Ev K R W B H σ ρ →
 (∀ ds a vs B' H',k ds→Ev K R W B' H' σ ρ→Grow R B B'→R a=none→B' a=none→H' a=some (.lst vs)→Reps K B' vs ds→(∀ i,¬ Zat σ ρ i a)→Q (.ref a) H')→t σ H Q
def RefT (t:TT) (u:UT):Prop:=∀ (ρ:List Sl) (k:Bool→Prop),u ρ k→∀ (R:Hp) (W:Addr→Prop) (B H:Hp) (σ:St) (Q:Bool→Hp→Prop),Ev K R W B H σ ρ →
 (∀ b B' H',k b→Ev K R W B' H' σ ρ→Grow R B B'→Q b H')→t σ H Q
def RefL (t:TA) (u:UL):Prop:=∀ (ρ:List Sl) (k:List D→Prop),u ρ k→∀ (R:Hp) (W:Addr→Prop) (B H:Hp) (σ:St) (Q:List V→Hp→Prop),Ev K R W B H σ ρ →
 (∀ ds vs B' H',k ds→Ev K R W B' H' σ ρ→Grow R B B'→Reps K B' vs ds→Q vs H')→t σ H Q
inductive ArgsOk (B:Hp) (σ:St) (ρ:List Sl):List V→List Arg→Prop where
 | nil:ArgsOk B σ ρ [] []
 | val {v:V} {d:D} {vs:List V} {as:List Arg} (h:Rep K B v d) (r:ArgsOk B σ ρ vs as):ArgsOk B σ ρ (v :: vs) (.val d :: as)
 | bag {v:V} {i:Nat} {vs:List V} {as:List Arg} (h:σ[i]?=some (some v)) (hb:ρ[i]?=some .bag) (r:ArgsOk B σ ρ vs as):ArgsOk B σ ρ (v :: vs) (.bag i :: as)
def RefA (t:TA) (u:UA):Prop:=∀ (ρ:List Sl) (k:List Arg→Prop),u ρ k→∀ (R:Hp) (W:Addr→Prop) (B H:Hp) (σ:St) (Q:List V→Hp→Prop),Ev K R W B H σ ρ →
 (∀ as vs B' H',k as→Ev K R W B' H' σ ρ→Grow R B B'→ArgsOk K B' σ ρ vs as→Q vs H')→t σ H Q
def newL (R B:Hp):Hp:=fun a=>match B a with
 | some (.lst vs)=>if (R a).isNone then some (.lst vs) else none
 | o=>o
def Zmv (R:Hp) (B H:Hp) (v:V):Sl→Prop
 | .no=>False
 | .val d=>Rep K B v d
 | .own c=>∃ a,v=.ref a∧R a=none∧B a=none∧CnOk K B H a c
 | .bag=>∃ b,v=.ref b∧R b=none∧B b=none∧Bag H b
 | .new d=>Rep K (newL R B) v d
 | .pin _ _=>False
 | .deep _=>False
structure Sim (R:Hp) (W:Addr→Prop) (B:Hp) (U:UEnds) (D:Ends):Prop where
 nx:∀ ρ σ B' H',U.nx ρ→Ev K R W B' H' σ ρ→Grow R B B'→D.nx σ H'
 bk:∀ ρ σ B' H',U.bk ρ→Ev K R W B' H' σ ρ→Grow R B B'→D.bk σ H'
 ct:∀ ρ σ B' H',U.ct ρ→Ev K R W B' H' σ ρ→Grow R B B'→D.ct σ H'
 rt:∀ r v B' H',U.rt r→Wd R W B' H'→Grow R B B'→Zmv K R B' H' v r→D.rt v H'
def RefS (t:TS) (u:US):Prop:=∀ (U:UEnds) (ρ:List Sl),u U ρ→∀ (R:Hp) (W:Addr→Prop) (B H:Hp) (σ:St) (D:Ends),Ev K R W B H σ ρ→Sim K R W B U D→t D σ H
def RefG (g:TG) (u:UG):Prop:=∀ (d:D) (ρ:List Sl) (k:List Sl→Prop),u d ρ k→∀ (R:Hp) (W:Addr→Prop) (B H:Hp) (σ:St) (v:V) (Q:St→Hp→Prop),Ev K R W B H σ ρ→Rep K B v d →
 (∀ ρ' σ',k ρ'→Ev K R W B H σ' ρ'→(∀ j a,Zat σ' ρ' j a→Zat σ ρ j a)→Q σ' H)→g v σ H Q
def RefGs (g:TGs) (u:UGs):Prop:=∀ (ds:List D) (ρ:List Sl) (k:List Sl→Prop),u ds ρ k→∀ (R:Hp) (W:Addr→Prop) (B H:Hp) (σ:St) (vs:List V) (Q:St→Hp→Prop),Ev K R W B H σ ρ→Reps K B vs ds →
 (∀ ρ' σ',k ρ'→Ev K R W B H σ' ρ'→(∀ j a,Zat σ' ρ' j a→Zat σ ρ j a)→Q σ' H)→g vs σ H Q
def ItOk (B:Hp) (J:It) (ds:List D):Prop:=∀ (H:Hp),Same B H→∀ i,(i < ds.length→J.go i H)∧(ds.length≤i→J.stop i H)∧∀ x H',i < ds.length→J.yld i H x H'→H'=H∧∃ d,ds[i]?=some d∧Rep K B x d
def RefI (t:TI) (u:UL):Prop:=∀ (ρ:List Sl) (k:List D→Prop),u ρ k→∀ (R:Hp) (W:Addr→Prop) (B H:Hp) (σ:St) (Q:It→Hp→Prop),Ev K R W B H σ ρ →
 (∀ ds J B' H',k ds→Ev K R W B' H' σ ρ→Grow R B B'→ItOk K B' J ds→Q J H')→t σ H Q
end
theorem Zks {R B:Hp}:Same (newL R B) B:=fun a o h=>by
 unfold newL at h
 split at h
 ·rename_i vs e
  split at h
  ·rw [e]; exact h
  ·cases h
 ·exact h
theorem Sim.grow {K:PySem.W.Frag} {R:Hp} {W:Addr→Prop} {B B':Hp} {U:UEnds} {D:Ends} (s:Sim K R W B U D) (g:Grow R B B'):Sim K R W B' U D :=
 ⟨fun ρ σ C H h e q=>s.nx ρ σ C H h e (g.trans q),fun ρ σ C H h e q=>s.bk ρ σ C H h e (g.trans q),fun ρ σ C H h e q=>s.ct ρ σ C H h e (g.trans q),fun r v C H h e q z=>s.rt r v C H h e (g.trans q) z⟩
section
variable (X:Cx)
def PE3 (e:Expr) (u:UE):Prop:=∃ t,PE X e t∧RefE X.K t u
def PO3 (e:Expr) (u:UL):Prop:=∃ t,PE X e t∧RefO X.K t u
def PT3 (e:Expr) (u:UT):Prop:=∃ t,PT X e t∧RefT X.K t u
def PW3 (e:Expr) (u:UT):Prop:=∃ t,PW X e t∧RefT X.K t u
def PL3 (es:List Expr) (u:UL):Prop:=∃ t,PA X es t∧RefL X.K t u
def PA3 (es:List Expr) (u:UA):Prop:=∃ t,PA X es t∧RefA X.K t u
def PS3 (s:Stmt) (u:US):Prop:=∃ t,PS X s t∧RefS X.K t u
def PSs3 (s:List Stmt) (u:US):Prop:=∃ t,PSs X s t∧RefS X.K t u
def PG3 (e:Expr) (u:UG):Prop:=∃ t,PG X e t∧RefG X.K t u
def PGs3 (e:List Expr) (u:UGs):Prop:=∃ t,PGs X e t∧RefGs X.K t u
def PI3 (tg e:Expr) (u:UL):Prop:=∃ t,PI X tg e t∧RefI X.K t u
end
def uVar (i:Nat):UE:=fun ρ k=>∃ d,ρ[i]?=some (.val d)∧k d
def uC (d:D):UE:=fun _ k=>k d
def uI (C:Int→Int→Prop) (g:Int→Int→D) (ua ub:UE):UE:=fun ρ k=>ua ρ fun x=>ub ρ fun y=>∃ i j,x=.int i∧y=.int j∧C i j∧k (g i j)
def uI0 (g:Int→Int→D) (ua ub:UE):UE:=fun ρ k=>ua ρ fun x=>ub ρ fun y=>∃ i j,x=.int i∧y=.int j∧k (g i j)
def uNeg (ua:UE):UE:=fun ρ k=>ua ρ fun x=>∃ i,x=.int i∧k (.int (-i))
section
variable {K:PySem.W.Frag} {X:Cx}
theorem refVar (i:Nat):RefE K (tVar i) (uVar i):=by
 intro ρ k h R W B H σ Q e q
 obtain ⟨d,h,z⟩:=h
 obtain ⟨v,e1,r⟩:=e.val h
 exact ⟨v,e1,q d v B H z e (Grow.refl _ _) r⟩
theorem refC {v:V} {d:D} (h:∀ B,Rep K B v d):RefE K (tC v) (uC d):=fun ρ k z R W B H σ Q e q=>q d v B H z e (Grow.refl _ _) (h B)
theorem ref2 {ta tb:TE} {ua ub:UE} {r:R2} {f:D→D→(D→Prop)→Prop} (ha:RefE K ta ua) (hb:RefE K tb ub)
  (hr:∀ (x y:D) (k:D→Prop),f x y k→∀ (R:Hp) (W:Addr→Prop) (B H:Hp) (σ:St) (ρ:List Sl) (v w:V) (Q:VK),Ev K R W B H σ ρ→Rep K B v x→Rep K B w y→(∀ d v B' H',k d→Ev K R W B' H' σ ρ→Grow R B B'→Rep K B' v d→Q v H')→r v w H Q) :
  RefE K (tOp r ta tb) (fun ρ k=>ua ρ fun x=>ub ρ fun y=>f x y k):=by
 intro ρ k h R W B H σ Q e q
 refine ha ρ _ h R W B H σ _ e fun x v B1 H1 h1 e1 g1 r1=>?_
 refine hb ρ _ h1 R W B1 H1 σ _ e1 fun y w B2 H2 h2 e2 g2 r2=>?_
 exact hr x y k h2 R W B2 H2 σ ρ v w Q e2 (r1.mono g2.s) r2 fun d u B3 H3 h3 e3 g3 r3=>q d u B3 H3 h3 e3 ((g1.trans g2).trans g3) r3
theorem ref1 {ta:TE} {ua:UE} {r:V→Hp→VK→Prop} {f:D→(D→Prop)→Prop} (ha:RefE K ta ua)
  (hr:∀ (x:D) (k:D→Prop),f x k→∀ (R:Hp) (W:Addr→Prop) (B H:Hp) (σ:St) (ρ:List Sl) (v:V) (Q:VK),Ev K R W B H σ ρ→Rep K B v x→(∀ d v B' H',k d→Ev K R W B' H' σ ρ→Grow R B B'→Rep K B' v d→Q v H')→r v H Q) :
  RefE K (tUn r ta) (fun ρ k=>ua ρ fun x=>f x k):=by
 intro ρ k h R W B H σ Q e q
 refine ha ρ _ h R W B H σ _ e fun x v B1 H1 h1 e1 g1 r1=>?_
 exact hr x k h1 R W B1 H1 σ ρ v Q e1 r1 fun d u B3 H3 h3 e3 g3 r3=>q d u B3 H3 h3 e3 (g1.trans g3) r3
theorem Rep.intV {B:Hp} {v:V} {i:Int} (r:Rep K B v (.int i)):v=.int i:=by cases r; rfl
theorem Rep.blV {B:Hp} {v:V} {b:Bool} (r:Rep K B v (.bl b)):v=.bl b:=by cases r; rfl
theorem Rep.nonV {B:Hp} {v:V} (r:Rep K B v .non):v=.non:=by cases r; rfl
theorem Rep.tupV {B:Hp} {v:V} {ds:List D} (r:Rep K B v (.tup ds)):∃ a vs,v=.ref a∧B a=some (.tup vs)∧Reps K B vs ds:=by
 cases r with | tup h r=>exact ⟨_,_,rfl,h,r⟩
theorem Rep.lstV {B:Hp} {v:V} {ds:List D} (r:Rep K B v (.lst ds)):∃ a vs,v=.ref a∧B a=some (.lst vs)∧Reps K B vs ds:=by
 cases r with | lst h r=>exact ⟨_,_,rfl,h,r⟩
theorem Rep.scrV {B:Hp} {v:V} {ns:List Int} (r:Rep K B v (.scr ns)):∃ a,v=.ref a∧SqL K B a (ns.map V.int):=by
 cases r with | scr h=>exact ⟨_,rfl,h⟩
theorem refI {C:Int→Int→Prop} {f:Int→Int→V} {g:Int→Int→D} {ta tb:TE} {ua ub:UE} (hg:∀ B i j,Rep K B (f i j) (g i j)) (ha:RefE K ta ua) (hb:RefE K tb ub):RefE K (tOp (rI C f) ta tb) (uI C g ua ub) :=
 ref2 ha hb fun x y k h R W B H σ ρ v w Q e rx ry q=>by
  obtain ⟨i,j,rfl,rfl,hc,hk⟩:=h
  exact ⟨i,j,rx.intV,ry.intV,hc,q _ _ B H hk e (Grow.refl _ _) (hg B i j)⟩
theorem ZjM {f:Int→Int→V} {g:Int→Int→D} {ta tb:TE} {ua ub:UE} (hg:∀ B i j,Rep K B (f i j) (g i j)) (ha:RefE K ta ua) (hb:RefE K tb ub):RefE K (tOp (rI0 f) ta tb) (uI0 g ua ub) :=
 ref2 ha hb fun x y k h R W B H σ ρ v w Q e rx ry q=>by
  obtain ⟨i,j,rfl,rfl,hk⟩:=h
  exact ⟨i,j,rx.intV,ry.intV,q _ _ B H hk e (Grow.refl _ _) (hg B i j)⟩
theorem refNeg {ta:TE} {ua:UE} (ha:RefE K ta ua):RefE K (tUn (rU fun i=>.int (-i)) ta) (uNeg ua) :=
 ref1 (f:=fun x k=>∃ i,x=.int i∧k (.int (-i))) ha fun x k h R W B H σ ρ v Q e rx q=>by
  obtain ⟨i,rfl,hk⟩:=h
  exact ⟨i,rx.intV,q _ _ B H hk e (Grow.refl _ _) (.int _)⟩
variable {a b:Expr} {ua ub:UE} {pos:Pos}
theorem v3 (i:Nat) {x:Str} {pos:Pos} (hN:X.N[i]?=some x:=by rfl) (hv:Vis X.env.scope x:=by first | exact Or.inl rfl | exact Or.inr (Or.inl rfl) | exact Or.inr (Or.inr rfl)) (hd:(x == ("__debug__" : Str))=false:=by decide)
  (hcd:(x == ("__classdict__" : Str))=false:=by decide):PE3 X (.Name x pos) (uVar i):=⟨_,ZdM hN hv hd hcd,refVar i⟩
theorem Zac {i j pos}:PE3 X (.Constant (.int i) j pos) (uC (.int i)):=⟨_,Zar,refC fun _=>.int _⟩
theorem e_bl {b j pos}:PE3 X (.Constant (.bool b) j pos) (uC (.bl b)):=⟨_,pe_bl,refC fun _=>.bl _⟩
theorem Zhm {j pos}:PE3 X (.Constant .none j pos) (uC .non):=⟨_,pe_non,refC fun _=>.non⟩
theorem Zkh {x j pos}:PE3 X (.Constant (.str x) j pos) (uC (.str x)):=⟨_,pe_str,refC fun _=>.str _⟩
theorem Zbw (ha:PE3 X a ua) (hb:PE3 X b ub):PE3 X (.BinOp a .Add b pos) (uI0 (fun i j=>.int (i + j)) ua ub):=by
 obtain ⟨_,h1,r1⟩:=ha; obtain ⟨_,h2,r2⟩:=hb
 exact ⟨_,ZaO Zf1 h1 h2,ZjM (fun _ _ _=>.int _) r1 r2⟩
theorem Zb8 (ha:PE3 X a ua) (hb:PE3 X b ub):PE3 X (.BinOp a .Sub b pos) (uI0 (fun i j=>.int (i - j)) ua ub):=by
 obtain ⟨_,h1,r1⟩:=ha; obtain ⟨_,h2,r2⟩:=hb
 exact ⟨_,ZaO op_sub h1 h2,ZjM (fun _ _ _=>.int _) r1 r2⟩
theorem ZaG (ha:PE3 X a ua) (hb:PE3 X b ub):PE3 X (.BinOp a .Mult b pos) (uI Zie (fun i j=>.int (i * j)) ua ub):=by
 obtain ⟨_,h1,r1⟩:=ha; obtain ⟨_,h2,r2⟩:=hb
 exact ⟨_,ZaO Zdd h1 h2,refI (fun _ _ _=>.int _) r1 r2⟩
theorem Zav (ha:PE3 X a ua) (hb:PE3 X b ub):PE3 X (.BinOp a .FloorDiv b pos) (uI Zm5 (fun i j=>.int (i.fdiv j)) ua ub):=by
 obtain ⟨_,h1,r1⟩:=ha; obtain ⟨_,h2,r2⟩:=hb
 exact ⟨_,ZaO ZcD h1 h2,refI (fun _ _ _=>.int _) r1 r2⟩
theorem Zhe (ha:PE3 X a ua) (hb:PE3 X b ub):PE3 X (.BinOp a .Mod b pos) (uI (fun _ j=>0 < j) (fun i j=>.int (i % j)) ua ub):=by
 obtain ⟨_,h1,r1⟩:=ha; obtain ⟨_,h2,r2⟩:=hb
 exact ⟨_,ZaO ZbY h1 h2,refI (fun _ _ _=>.int _) r1 r2⟩
theorem e_pow (ha:PE3 X a ua) (hb:PE3 X b ub):PE3 X (.BinOp a .Pow b pos) (uI CPow (fun i j=>.int (i ^ j.toNat)) ua ub):=by
 obtain ⟨_,h1,r1⟩:=ha; obtain ⟨_,h2,r2⟩:=hb
 exact ⟨_,ZaO Zgb h1 h2,refI (fun _ _ _=>.int _) r1 r2⟩
theorem ZdP (ha:PE3 X a ua):PE3 X (.UnaryOp .USub a pos) (uNeg ua):=by
 obtain ⟨_,h1,r1⟩:=ha
 exact ⟨_,pe_un un_neg h1,refNeg r1⟩
def Cm (op:CmpOp) (f:Int→Int→Bool) (X:Cx):Prop:=OpR X (compareOp op) (rI0 fun i j=>.bl (f i j))
theorem e_cmp {op:CmpOp} {f:Int→Int→Bool} (ho:Cm op f X) (ha:PE3 X a ua) (hb:PE3 X b ub) (hm:behindInMarks op b=false):PE3 X (.Compare a [op] [b] pos) (uI0 (fun i j=>.bl (f i j)) ua ub):=by
 obtain ⟨_,h1,r1⟩:=ha; obtain ⟨_,h2,r2⟩:=hb
 exact ⟨_,Zff ho h1 h2 hm,ZjM (fun _ _ _=>.bl _) r1 r2⟩
def uB (ua:UE):UT:=fun ρ k=>ua ρ fun x=>∃ c,x=.bl c∧k c
def uNotT (u:UT):UT:=fun ρ k=>u ρ fun c=>k (!c)
def uAndT (u w:UT):UT:=fun ρ k=>u ρ fun c=>if c=true then w ρ k else k false
def uOrT (u w:UT):UT:=fun ρ k=>u ρ fun c=>if c=true then k true else w ρ k
theorem refB {ta:TE} {ua:UE} (ha:RefE K ta ua):RefT K (tB ta) (uB ua):=by
 intro ρ k h R W B H σ Q e q
 refine ha ρ _ h R W B H σ _ e fun x v B1 H1 h1 e1 g1 r1=>?_
 obtain ⟨c,rfl,hk⟩:=h1
 exact ⟨c,r1.blV,q c B1 H1 hk e1 g1⟩
theorem Zmz {e:Expr} {u:UE} (h:PE3 X e u) (he:∀ whole,isTrue e X.env whole=(do let v ← whole; standAt e.pos; holding [v] (truthy v)):=by intro _; rfl):PT3 X e (uB u):=by
 obtain ⟨_,h1,r1⟩:=h
 exact ⟨_,pt_val h1 he,refB r1⟩
theorem Zbp {op:CmpOp} {f:Int→Int→Bool} (ho:Cm op f X) (ha:PE3 X a ua) (hb:PE3 X b ub) (hm:behindInMarks op b=false):PT3 X (.Compare a [op] [b] pos) (uB (uI0 (fun i j=>.bl (f i j)) ua ub)):=by
 obtain ⟨_,h1,r1⟩:=ha; obtain ⟨_,h2,r2⟩:=hb
 exact ⟨_,ZbC ho h1 h2 hm,refB (ZjM (fun _ _ _=>.bl _) r1 r2)⟩
theorem Znb {t:TT} {u:UT} (h:RefT K t u):RefT K (tNot t) (uNotT u):=fun ρ k z R W B H σ Q e q=>h ρ _ z R W B H σ _ e fun b B' H' h1 e1 g1=>q (!b) B' H' h1 e1 g1
theorem ZmF {t t':TT} {u u':UT} (h:RefT K t u) (h':RefT K t' u'):RefT K (tAnd t t') (uAndT u u'):=by
 intro ρ k z R W B H σ Q e q
 refine h ρ _ z R W B H σ _ e fun b B1 H1 h1 e1 g1=>?_
 cases b with
 | true =>
  rw [if_pos rfl] at h1 ⊢
  exact h' ρ _ h1 R W B1 H1 σ _ e1 fun c B2 H2 h2 e2 g2=>q c B2 H2 h2 e2 (g1.trans g2)
 | false =>
  rw [if_neg Bool.false_ne_true] at h1 ⊢
  exact q false B1 H1 h1 e1 g1
theorem refOrT {t t':TT} {u u':UT} (h:RefT K t u) (h':RefT K t' u'):RefT K (tOr t t') (uOrT u u'):=by
 intro ρ k z R W B H σ Q e q
 refine h ρ _ z R W B H σ _ e fun b B1 H1 h1 e1 g1=>?_
 cases b with
 | false =>
  rw [if_neg Bool.false_ne_true] at h1 ⊢
  exact h' ρ _ h1 R W B1 H1 σ _ e1 fun c B2 H2 h2 e2 g2=>q c B2 H2 h2 e2 (g1.trans g2)
 | true =>
  rw [if_pos rfl] at h1 ⊢
  exact q true B1 H1 h1 e1 g1
theorem t_not {u:UT} (h:PT3 X a u):PT3 X (.UnaryOp .Not a pos) (uNotT u):=by
 obtain ⟨_,h1,r1⟩:=h
 exact ⟨_,pt_not h1,Znb r1⟩
theorem ZlG {u:UT} (h:PT3 X a u):PW3 X (.BoolOp .And [a] pos) u:=by
 obtain ⟨_,h1,r1⟩:=h
 exact ⟨_,Zmf h1,r1⟩
theorem ZkR {u:UT} (h:PT3 X a u):PW3 X (.BoolOp .Or [a] pos) u:=by
 obtain ⟨_,h1,r1⟩:=h
 exact ⟨_,pw_or1 h1,r1⟩
theorem w_and {rest:List Expr} {u u':UT} (h:PT3 X a u) (h':PW3 X (.BoolOp .And (b :: rest) pos) u'):PW3 X (.BoolOp .And (a :: b :: rest) pos) (uAndT u u'):=by
 obtain ⟨_,h1,r1⟩:=h; obtain ⟨_,h2,r2⟩:=h'
 exact ⟨_,pw_and h1 h2,ZmF r1 r2⟩
theorem w_or {rest:List Expr} {u u':UT} (h:PT3 X a u) (h':PW3 X (.BoolOp .Or (b :: rest) pos) u'):PW3 X (.BoolOp .Or (a :: b :: rest) pos) (uOrT u u'):=by
 obtain ⟨_,h1,r1⟩:=h; obtain ⟨_,h2,r2⟩:=h'
 exact ⟨_,pw_or h1 h2,refOrT r1 r2⟩
theorem w_t {u:UT} (h:PW3 X a u):PT3 X a u:=by
 obtain ⟨_,h1,r1⟩:=h
 exact ⟨_,h1.pt,r1⟩
def uAndV (u w:UE):UE:=fun ρ k=>u ρ fun x=>∃ c,x=.bl c∧if c=true then w ρ k else k (.bl false)
theorem e_one {op:BoolOp} (h:PE3 X a ua):PE3 X (.BoolOp op [a] pos) ua:=by
 obtain ⟨_,h1,r1⟩:=h
 exact ⟨_,pe_one h1,r1⟩
theorem e_and {rest:List Expr} (h:PE3 X a ua) (h':PE3 X (.BoolOp .And (b :: rest) pos) ub):PE3 X (.BoolOp .And (a :: b :: rest) pos) (uAndV ua ub):=by
 obtain ⟨_,h1,r1⟩:=h; obtain ⟨_,h2,r2⟩:=h'
 refine ⟨_,pe_and h1 h2,fun ρ k z R W B H σ Q e q=>?_⟩
 refine r1 ρ _ z R W B H σ _ e fun x v B1 H1 z1 e1 g1 s1=>?_
 obtain ⟨c,rfl,z1⟩:=z1
 refine ⟨c,s1.blV,?_⟩
 cases c with
 | true =>
  rw [if_pos rfl] at z1 ⊢
  exact r2 ρ _ z1 R W B1 H1 σ _ e1 fun d w B2 H2 h2 e2 g2 s2=>q d w B2 H2 h2 e2 (g1.trans g2) s2
 | false =>
  rw [if_neg Bool.false_ne_true] at z1 ⊢
  exact q _ _ B1 H1 z1 e1 g1 (.bl _)
def uNil:UL:=fun _ k=>k []
def uCons (u:UE) (w:UL):UL:=fun ρ k=>u ρ fun d=>w ρ fun ds=>k (d :: ds)
variable {e:Expr} {es:List Expr} {u:UE} {w:UL}
theorem refNil:RefL K tNil uNil:=fun ρ k h R W B H σ Q e q=>q [] [] B H h e (Grow.refl _ _) .nil
theorem Zm6 {te:TE} {t:TA} (h1:RefE K te u) (h2:RefL K t w):RefL K (Znr te t) (uCons u w):=by
 intro ρ k h R W B H σ Q e q
 refine h1 ρ _ h R W B H σ _ e fun d v B1 H1 z1 e1 g1 r1=>?_
 refine h2 ρ _ z1 R W B1 H1 σ _ e1 fun ds vs B2 H2 z2 e2 g2 r2=>?_
 exact q _ _ B2 H2 z2 e2 (g1.trans g2) (.cons (r1.mono g2.s) r2)
theorem Zao:PL3 X [] uNil:=⟨_,ZaR,refNil⟩
theorem Zaa (ha:PE3 X e u) (hr:PL3 X es w) (hs:starEach (e :: es) X.env=(false,eval e X.env) :: starEach es X.env:=by rfl):PL3 X (e :: es) (uCons u w):=by
 obtain ⟨_,h1,r1⟩:=ha; obtain ⟨_,h2,r2⟩:=hr
 exact ⟨_,Zau h1 h2 hs,Zm6 r1 r2⟩
def uTup (w:UL):UE:=fun ρ k=>w ρ fun ds=>ds.length≤sizeLine∧k (.tup ds)
theorem Zax {x1} (h:PL3 X es w):PE3 X (.Tuple es x1 pos) (uTup w):=by
 obtain ⟨_,h1,r1⟩:=h
 refine ⟨_,pe_tup h1,fun ρ k z R W B H σ Q e q=>?_⟩
 refine r1 ρ _ z R W B H σ _ e fun ds vs B1 H1 z1 e1 g1 s1=>?_
 refine ⟨by rw [s1.length]; exact z1.1,fun p hp=>?_⟩
 have g2:=e1.grow hp (.tup vs)
 exact q _ _ _ _ z1.2 (e1.alloc hp _) (g1.trans g2) (.tup Zal (s1.mono g2.s))
def uLst (w:UL):UL:=fun ρ k=>w ρ fun ds=>ds.length≤sizeLine∧k ds
theorem Zd2 (h:PL3 X es w):PO3 X (.List es pos) (uLst w):=by
 obtain ⟨_,h1,r1⟩:=h
 refine ⟨_,ZhS h1,fun ρ k z R W B H σ Q e q=>?_⟩
 refine r1 ρ _ z R W B H σ _ e fun ds vs B1 H1 z1 e1 g1 s1=>?_
 refine ⟨by rw [s1.length]; exact z1.1,fun p hp=>?_⟩
 obtain ⟨f1,f2,f3⟩:=e1.toWd.fresh hp
 exact q ds p vs B1 _ z1.2 (e1.allocH hp _) g1 f1 f3 Zal s1 fun i m=>e1.notNew hp m rfl
def uFr (w:UL):UE:=fun ρ k=>w ρ fun ds=>k (.lst ds)
theorem refFr {t:TE} (h:RefO K t w):RefE K t (uFr w):=by
 intro ρ k z R W B H σ Q e q
 refine h ρ _ z R W B H σ _ e fun ds a vs B1 H1 z1 e1 g1 hr hb hh rp hm=>?_
 obtain ⟨e2,g2⟩:=e1.freeze hh hr hb hm
 exact q _ _ _ _ z1 e2 (g1.trans g2) (.lst Zal (rp.mono g2.s))
theorem o_e (h:PO3 X e w):PE3 X e (uFr w):=by
 obtain ⟨_,h1,r1⟩:=h
 exact ⟨_,h1,refFr r1⟩
def uIx (ua ub:UE):UE:=fun ρ k=>ua ρ fun x=>ub ρ fun y=>∃ ds i d,(x=.tup ds∨x=.lst ds)∧y=.int i∧atI ds i=some d∧k d
theorem Zgk {B:Hp} {vs:List V} {ds:List D} {i:Int} {d:D} (r:Reps K B vs ds) (h:atI ds i=some d):∃ v,atI vs i=some v∧Rep K B v d:=by
 unfold atI at h ⊢
 rw [r.length]
 cases q:ixN ds.length i with
 | none=>rw [q] at h; cases h
 | some j =>
  rw [q] at h
  exact r.get h
theorem e_ix (ha:PE3 X a ua) (hb:PE3 X b ub) (hs:Zfy b):PE3 X (.Subscript a b pos) (uIx ua ub):=by
 obtain ⟨_,h1,r1⟩:=ha; obtain ⟨_,h2,r2⟩:=hb
 refine ⟨_,Zee Zc6 h1 h2 hs,ref2 r1 r2 fun x y k h R W B H σ ρ v w' Q e rx ry q=>?_⟩
 obtain ⟨ds,i,d,hx,rfl,ha,hk⟩:=h
 rcases hx with rfl | rfl
 ·obtain ⟨p,vs,rfl,hp,rp⟩:=rx.tupV
  obtain ⟨z,hz,rz⟩:=Zgk rp ha
  exact ⟨p,vs,i,z,rfl,ry.intV,.inl (e.bh _ _ hp),hz,q d z B H hk e (Grow.refl _ _) rz⟩
 ·obtain ⟨p,vs,rfl,hp,rp⟩:=rx.lstV
  obtain ⟨z,hz,rz⟩:=Zgk rp ha
  exact ⟨p,vs,i,z,rfl,ry.intV,.inr (e.bh _ _ hp),hz,q d z B H hk e (Grow.refl _ _) rz⟩
end
abbrev FS:=List Sl→(Sl→Prop)→Prop
def bags:List Sl→Nat
 | []=>0
 | .bag :: r=>bags r + 1
 | _ :: r=>bags r
inductive ArgsIn (K:PySem.W.Frag) (W:Addr→Prop) (B:Hp):List V→List Sl→Prop where
 | nil:ArgsIn K W B [] []
 | val {v:V} {d:D} {vs:List V} {as:List Sl} (h:Rep K B v d) (r:ArgsIn K W B vs as):ArgsIn K W B (v :: vs) (.val d :: as)
 | bag {b:Addr} {vs:List V} {as:List Sl} (h:W b) (r:ArgsIn K W B vs as):ArgsIn K W B (.ref b :: vs) (.bag :: as)
structure Exit (K:PySem.W.Frag) (W:Addr→Prop) (B H:Hp) (v:V) (r:Sl) (B' H':Hp):Prop where
 wd:Wd H W B' H'
 g:Grow H B B'
 res:Zmv K H B' H' v r
def Con (K:PySem.W.Frag) (n:Nat) (F:FS):Sp:=fun vs H Q _=>∃ (W:Addr→Prop) (B:Hp) (as:List Sl) (k:Sl→Prop),F as k∧as.length=n∧Nat.ble (bags as) 1=true∧Same B H∧(∀ a,W a→B a=none∧Bag H a)∧ArgsIn K W B vs as ∧
 ∀ r v B' H',k r→Exit K W B H v r B' H'→Q v H'
section
variable {K:PySem.W.Frag} {R:Hp} {W:Addr→Prop} {B B' H H':Hp} {σ:St} {ρ:List Sl}
theorem ArgsIn.length:∀ {vs:List V} {as:List Sl},ArgsIn K W B vs as→vs.length=as.length
 | _,_,.nil=>rfl
 | _,_,.val _ r=>by rw [List.length_cons,List.length_cons,r.length]
 | _,_,.bag _ r=>by rw [List.length_cons,List.length_cons,r.length]
theorem ArgsIn.get:∀ {vs:List V} {as:List Sl},ArgsIn K W B vs as→∀ (i:Nat) (k:Sl),as[i]?=some k→(∃ v d,vs[i]?=some v∧k=.val d∧Rep K B v d)∨(∃ b,vs[i]?=some (.ref b)∧k=.bag∧W b)
 | _,_,.nil,i,k,e=>by simp at e
 | _,_,.val h r,0,k,e=>by simp at e; subst e; exact .inl ⟨_,_,rfl,rfl,h⟩
 | _,_,.val h r,i + 1,k,e=>by simpa using r.get i k (by simpa using e)
 | _,_,.bag h r,0,k,e=>by simp at e; subst e; exact .inr ⟨_,rfl,rfl,h⟩
 | _,_,.bag h r,i + 1,k,e=>by simpa using r.get i k (by simpa using e)
theorem ZaU:∀ {as:List Sl} {i:Nat},bags as=0→as[i]?≠some .bag
 | [],i,_=>by simp
 | .bag :: r,i,h=>by simp [bags] at h
 | .no :: r,0,h=>by simp
 | .no :: r,i + 1,h=>by simpa using ZaU (as:=r) (i:=i) h
 | .val d :: r,0,h=>by simp
 | .val d :: r,i + 1,h=>by simpa using ZaU (as:=r) (i:=i) h
 | .new d :: r,0,h=>by simp
 | .new d :: r,i + 1,h=>by simpa using ZaU (as:=r) (i:=i) h
 | .pin v d :: r,0,h=>by simp
 | .pin v d :: r,i + 1,h=>by simpa using ZaU (as:=r) (i:=i) h
 | .own d :: r,0,h=>by simp
 | .own d :: r,i + 1,h=>by simpa using ZaU (as:=r) (i:=i) h
 | .deep d :: r,0,h=>by simp
 | .deep d :: r,i + 1,h=>by simpa using ZaU (as:=r) (i:=i) h
theorem Zbn:∀ {as:List Sl} {i j:Nat},bags as≤1→as[i]?=some .bag→as[j]?=some .bag→i=j
 | [],i,j,_,e,_=>by simp at e
 | .bag :: r,0,0,_,_,_=>rfl
 | .bag :: r,0,j + 1,h,_,e=>absurd (by simpa using e) (ZaU (as:=r) (i:=j) (by simp [bags] at h; exact h))
 | .bag :: r,i + 1,_,h,e,_=>absurd (by simpa using e) (ZaU (as:=r) (i:=i) (by simp [bags] at h; exact h))
 | .no :: r,0,_,_,e,_=>by simp at e
 | .no :: r,i + 1,0,_,_,e=>by simp at e
 | .no :: r,i + 1,j + 1,h,e,e'=>by rw [Zbn (as:=r) (i:=i) (j:=j) h (by simpa using e) (by simpa using e')]
 | .val d :: r,0,_,_,e,_=>by simp at e
 | .val d :: r,i + 1,0,_,_,e=>by simp at e
 | .val d :: r,i + 1,j + 1,h,e,e'=>by rw [Zbn (as:=r) (i:=i) (j:=j) h (by simpa using e) (by simpa using e')]
 | .new d :: r,0,_,_,e,_=>by simp at e
 | .new d :: r,i + 1,0,_,_,e=>by simp at e
 | .new d :: r,i + 1,j + 1,h,e,e'=>by rw [Zbn (as:=r) (i:=i) (j:=j) h (by simpa using e) (by simpa using e')]
 | .pin v d :: r,0,_,_,e,_=>by simp at e
 | .pin v d :: r,i + 1,0,_,_,e=>by simp at e
 | .pin v d :: r,i + 1,j + 1,h,e,e'=>by rw [Zbn (as:=r) (i:=i) (j:=j) h (by simpa using e) (by simpa using e')]
 | .own d :: r,0,_,_,e,_=>by simp at e
 | .own d :: r,i + 1,0,_,_,e=>by simp at e
 | .own d :: r,i + 1,j + 1,h,e,e'=>by rw [Zbn (as:=r) (i:=i) (j:=j) h (by simpa using e) (by simpa using e')]
 | .deep d :: r,0,_,_,e,_=>by simp at e
 | .deep d :: r,i + 1,0,_,_,e=>by simp at e
 | .deep d :: r,i + 1,j + 1,h,e,e'=>by rw [Zbn (as:=r) (i:=i) (j:=j) h (by simpa using e) (by simpa using e')]
theorem Ev.after {W':Addr→Prop} (e:Ev K R W B H σ ρ) (hW:∀ a,W' a→∃ i:Nat,σ[i]?=some (some (.ref a))∧ρ[i]?=some .bag) (wd:Wd H W' B' H') (g:Grow H B B'):Ev K R W B' H' σ ρ∧Grow R B B':=by
 have nb:∀ a,B a=none→H a≠none→B' a=none:=fun a h1 h2=>by
  cases q:B' a with
  | none=>rfl
  | some o =>
   rcases g.n a o q with z | z
   ·rw [h1] at z; cases z
   ·exact absurd z h2
 have st:∀ a,¬ W' a→H a≠none→H' a=H a:=fun a h1 h2=>by
  cases q:H a with
  | none=>exact absurd q h2
  | some o=>exact wd.fr a o q h1
 have bagS:∀ a,Bag H a→Bag H' a:=fun a h=>by
  by_cases z:W' a
  ·exact wd.wh a z
  ·obtain ⟨x,y,e1,q⟩:=h
   exact ⟨x,y,by rw [st a z (by rw [e1]; simp)]; exact e1,q⟩
 have bagN:∀ a,Bag H a→H a≠none:=fun a ⟨x,y,e1,_⟩=>by rw [e1]; simp
 refine ⟨e.move ⟨fun a o h nw=>?_,wd.bh,fun a h=>nb a (e.wb a h) (bagN a (e.wh a h)),fun a h=>bagS a (e.wh a h),e.wr⟩ g.s (fun i a m=>⟨nb a (e.mutOk m).1 (e.mutOk m).2,fun z=>?_,fun z=>?_⟩),⟨g.s,fun a o h=>?_⟩⟩
 ·have h1:=e.fr a o h nw
  refine wd.fr a o h1 fun z=>?_
  obtain ⟨i,z1,z2⟩:=hW a z
  obtain ⟨b,y1,y2,_⟩:=e.bagAt z2
  rw [z1] at y1; cases y1
  rcases y2 with y2 | y2
  ·exact nw y2
  ·rw [y2] at h; cases h
 ·obtain ⟨b,y1,_,_,y4⟩:=e.bagAt z
  rw [Zdl m z] at y1; cases y1
  exact bagS _ y4
 ·refine st a (fun q=>?_) (e.mutOk m).2
  obtain ⟨j,z1,z2⟩:=hW a q
  have:=e.sep i j a m (.inl ⟨z1,.inl z2⟩)
  subst this
  exact z z2
 ·rcases g.n a o h with z | z
  ·exact .inl z
  ·exact .inr (e.toWd.fresh z).1
theorem Ev.start {N:List Str} {vs:List V} {as:List Sl} (hb:bags as≤1) (sB:Same B H) (hw:∀ a,W a→B a=none∧Bag H a) (ai:ArgsIn K W B vs as):Ev K H W B H (L2.start N vs) (as ++ List.replicate (N.length - as.length) .no):=by
 have hl:=ai.length
 have wd:Wd H W B H:=⟨fun _ _ h _=>h,sB,fun a h=>(hw a h).1,fun a h=>(hw a h).2,fun a h=>by obtain ⟨x,y,q,_⟩:=(hw a h).2; rw [q]; simp⟩
 have lo:∀ i k,as[i]?=some k→(L2.start N vs)[i]?=(vs[i]?).map some:=fun i k h=>by
  have lt:i < as.length:=by
   by_cases z:i < as.length
   ·exact z
   ·rw [List.getElem?_eq_none (by omega)] at h; cases h
  unfold L2.start
  rw [List.getElem?_append_left (by rw [List.length_map]; omega),List.getElem?_map]
 have cs:∀ (i:Nat) (k:Sl),(as ++ List.replicate (N.length - as.length) Sl.no)[i]?=some k→as[i]?=some k∨k=Sl.no:=fun i k h=>by
  by_cases z:i < as.length
  ·rw [List.getElem?_append_left z] at h; exact .inl h
  ·rw [List.getElem?_append_right (by omega)] at h
   rw [List.getElem?_replicate] at h
   split at h
   ·exact .inr (Option.some.inj h).symm
   ·cases h
 have bg:∀ i:Nat,(as ++ List.replicate (N.length - as.length) Sl.no)[i]?=some Sl.bag→as[i]?=some Sl.bag:=fun i h=>by
  rcases cs i _ h with h | h
  ·exact h
  ·cases h
 refine ⟨wd,by unfold L2.start; simp [hl],fun i k h=>?_,fun i j a m1 m2=>?_⟩
 ·rcases cs i k h with h | rfl
  ·rw [lo i k h]
   rcases ai.get i k h with ⟨v,d,h1,rfl,r⟩ | ⟨b,h1,rfl,r⟩
   ·rw [h1]; exact ⟨v,rfl,r⟩
   ·rw [h1]; exact ⟨b,rfl,.inl r,(hw b r).1,(hw b r).2⟩
  ·trivial
 ·have one:∀ i,Zat (L2.start N vs) (as ++ List.replicate (N.length - as.length) Sl.no) i a→as[i]?=some .bag:=fun i m=>by
   rcases m with ⟨_,z | ⟨ds,z⟩⟩ | ⟨c,z,_⟩
   ·exact bg i z
   ·rcases cs i _ z with z | z
    ·rcases ai.get i _ z with ⟨v,d,_,q,_⟩ | ⟨b,_,q,_⟩ <;> cases q
    ·cases z
   ·rcases cs i _ z with z | z
    ·rcases ai.get i _ z with ⟨v,d,_,q,_⟩ | ⟨b,_,q,_⟩ <;> cases q
    ·cases z
  exact Zbn hb (one i m1) (one j m2)
theorem def3 {P:Program} {w:World} {mg:Str→Option Value} {base:Heap} {x:Str} {st:Stmt} {N ps:List Str} {lv n:Nat} {F:FS} (Fd:Fnd K mg x st ps) (S:FnScope N ps (Zad st)) (hn:ps.length=n)
  (hbody:∀ (f:Addr) (cdv:Value) (A:Around) (outer:List PySem.Env) (s:Shared) (H:Hp) (E:XK),Room lv (A.deeper (PyProof.Rows.envOfC x (Zad st) s.heap.objs.size f cdv)) →
   ∃ u,PSs3 (cxOf CX0 P w K mg base N x (Zad st) f cdv A outer s H E).nox (Zbm st) u∧∀ as k,as.length=n→F as k→u { nx:=fun _=>k (.val .non),rt:=k } (as ++ List.replicate (N.length - n) .no)):Cal P w K mg base x ps (lv + 1) (Con K n F):=by
 refine Fd.ok S (fun vs H Q E h=>?_) (fun f cdv A outer s H vs Q E hr h=>?_)
 ·obtain ⟨W,B,as,k,_,hl,_,_,_,ai,_⟩:=h
  rw [ai.length,hl,hn]
 ·obtain ⟨W,B,as,k,hF,hl,hb,sB,hw,ai,q⟩:=h
  obtain ⟨u,⟨t,ht,rt⟩,hu⟩:=hbody f cdv A outer s H E hr
  have ev:=Ev.start (N:=N) (Nat.le_of_ble_eq_true hb) sB hw ai
  rw [hl] at ev
  refine ⟨t,ht,rt _ _ (hu as k hl hF) H W B H (L2.start N vs) _ ev ⟨fun ρ σ B' H' h e g=>?_,fun _ _ _ _ h=>h.elim,fun _ _ _ _ h=>h.elim,fun r v B' H' h e g z=>q r v B' H' h ⟨e,g,z⟩⟩⟩
  exact q _ _ B' H' h ⟨e.toWd,g,.non⟩
end
def Arg.sl:Arg→Sl
 | .val d=>.val d
 | .bag _=>.bag
def fzR:Sl→(D→Prop)→Prop
 | .val d,k=>k d
 | .own (.l ds),k=>k (.lst ds)
 | .new d,k=>k d
 | _,_=>False
def uaNil:UA:=fun _ k=>k []
def uaV (u:UE) (w:UA):UA:=fun ρ k=>u ρ fun d=>w ρ fun as=>k (.val d :: as)
def uaB (i:Nat) (w:UA):UA:=fun ρ k=>ρ[i]?=some .bag∧w ρ fun as=>k (.bag i :: as)
def sh (as:List Arg) (n:Nat):Bool:=Nat.beq as.length n && Nat.ble (bags (as.map Arg.sl)) 1
def uCall (n:Nat) (F:FS) (w:UA):UE:=fun ρ k=>w ρ fun as=>sh as n=true∧F (as.map Arg.sl) fun r=>fzR r k
section
variable {K:PySem.W.Frag} {X:Cx} {e:Expr} {es:List Expr} {u:UE} {w:UA} {pos p:Pos} {n:Nat} {F:FS}
theorem Zaj:PA3 X [] uaNil:=⟨_,ZaR,fun ρ k h R W B H σ Q e q=>q [] [] B H h e (Grow.refl _ _) .nil⟩
theorem Zae (ha:PE3 X e u) (hr:PA3 X es w) (hs:starEach (e :: es) X.env=(false,eval e X.env) :: starEach es X.env:=by rfl):PA3 X (e :: es) (uaV u w):=by
 obtain ⟨_,h1,r1⟩:=ha; obtain ⟨_,h2,r2⟩:=hr
 refine ⟨_,Zau h1 h2 hs,fun ρ k h R W B H σ Q e q=>?_⟩
 refine r1 ρ _ h R W B H σ _ e fun d v B1 H1 z1 e1 g1 s1=>?_
 refine r2 ρ _ z1 R W B1 H1 σ _ e1 fun as vs B2 H2 z2 e2 g2 s2=>?_
 exact q _ _ B2 H2 z2 e2 (g1.trans g2) (.val (s1.mono g2.s) s2)
theorem Zbr (i:Nat) {x:Str} {px:Pos} (hr:PA3 X es w) (hN:X.N[i]?=some x:=by rfl) (hv:Vis X.env.scope x:=by first | exact Or.inl rfl | exact Or.inr (Or.inl rfl) | exact Or.inr (Or.inr rfl)) (hd:(x == ("__debug__" : Str))=false:=by decide)
  (hcd:(x == ("__classdict__" : Str))=false:=by decide) (hs:starEach (.Name x px :: es) X.env=(false,eval (.Name x px) X.env) :: starEach es X.env:=by rfl):PA3 X (.Name x px :: es) (uaB i w):=by
 obtain ⟨_,h2,r2⟩:=hr
 refine ⟨_,Zau (ZdM hN hv hd hcd) h2 hs,fun ρ k h R W B H σ Q e q=>?_⟩
 obtain ⟨hb,h⟩:=h
 obtain ⟨b,b1,b2⟩:=e.bagAt hb
 refine ⟨_,b1,?_⟩
 refine r2 ρ _ h R W B H σ _ e fun as vs B2 H2 z2 e2 g2 s2=>?_
 exact q _ _ B2 H2 z2 e2 g2 (.bag b1 hb s2)
theorem ArgsOk.toIn {B:Hp} {σ:St} {ρ:List Sl} {W:Addr→Prop} {R H:Hp} {W0:Addr→Prop} (e:Ev K R W0 B H σ ρ):∀ {vs:List V} {as:List Arg},ArgsOk K B σ ρ vs as→(∀ i b,Arg.bag i∈as→σ[i]?=some (some (.ref b))→W b)→ArgsIn K W B vs (as.map Arg.sl)
 | _,_,.nil,_=>.nil
 | _,_,.val h r,hw=>.val h (ArgsOk.toIn e r fun i b m=>hw i b (List.mem_cons_of_mem _ m))
 | _,_,.bag h hb r,hw=>by
  obtain ⟨b,b1,_⟩:=e.bagAt hb
  rw [h] at b1; cases b1
  exact .bag (hw _ b List.mem_cons_self h) (ArgsOk.toIn e r fun i c m=>hw i c (List.mem_cons_of_mem _ m))
theorem ArgsOk.bagIn {B:Hp} {σ:St} {ρ:List Sl}:∀ {vs:List V} {as:List Arg} {i:Nat},ArgsOk K B σ ρ vs as→Arg.bag i∈as→ρ[i]?=some .bag
 | _,_,_,.nil,m=>by simp at m
 | _,_,_,.val h r,m=>by
  rcases List.mem_cons.mp m with m | m
  ·cases m
  ·exact r.bagIn m
 | _,_,_,.bag h hb r,m=>by
  rcases List.mem_cons.mp m with m | m
  ·cases m; exact hb
  ·exact r.bagIn m
theorem ZiK {R:Hp} {W:Addr→Prop} {B H:Hp} {σ:St} {ρ:List Sl} {vs:List V} {as:List Arg} {k:Sl→Prop} {Q:VK} {E:XK} (e:Ev K R W B H σ ρ) (ok:ArgsOk K B σ ρ vs as) (hs:sh as n=true) (hF:F (as.map Arg.sl) k)
  (q:∀ r v B' H',k r→Ev K R W B' H' σ ρ→Grow R B B'→Zmv K H B' H' v r→Q v H'):Con K n F vs H Q E:=by
 rw [sh,Bool.and_eq_true] at hs
 have h1:as.length=n:=Nat.eq_of_beq_eq_true hs.1
 have hW:∀ a,(∃ i:Nat,Arg.bag i∈as∧σ[i]?=some (some (.ref a)))→∃ i:Nat,σ[i]?=some (some (.ref a))∧ρ[i]?=some .bag:=fun a ⟨i,m,z⟩=>⟨i,z,ok.bagIn m⟩
 refine ⟨fun a=>∃ i:Nat,Arg.bag i∈as∧σ[i]?=some (some (.ref a)),B,as.map Arg.sl,k,hF,by rw [List.length_map]; exact h1,hs.2,e.bh,fun a h=>?_,ok.toIn e fun i b m z=>⟨i,m,z⟩,fun r v B' H' hk ex=>?_⟩
 ·obtain ⟨i,z1,z2⟩:=hW a h
  obtain ⟨b,b1,_,b3,b4⟩:=e.bagAt z2
  rw [z1] at b1; cases b1
  exact ⟨b3,b4⟩
 ·obtain ⟨e2,g2⟩:=e.after hW ex.wd ex.g
  exact q r v B' H' hk e2 g2 ex.res
theorem Zaf {x:Str} {ps:List Str} {j lv:Nat} (c:Cal X.prog X.w X.K X.mg X.base x ps j (Con X.K n F)) (hr:Room lv X.A) (hg:Gl X x) (ha:PA3 X (e :: es) w) (hjk:j≤lv:=by decide)
  (hdb:(x == ("__debug__" : Str))=false:=by decide) (he:starEach (e :: es) X.env=(false,eval e X.env) :: starEach es X.env:=by rfl) (hpl:(backTo pos (starEach es X.env)).any (·.1)=false:=by rfl) :
  PE3 X (.Call (.Name x p) (e :: es) [] pos) (uCall n F w):=by
 obtain ⟨_,h1,r1⟩:=ha
 refine ⟨_,Zk5 c hr hg h1 hjk hdb he hpl,fun ρ k h R W B H σ Q e q=>?_⟩
 refine r1 ρ _ h R W B H σ _ e fun as vs B1 H1 z1 e1 g1 s1=>?_
 rw [List.append_nil]
 refine ZiK e1 s1 z1.1 z1.2 fun r v B2 H2 hk e2 g2 res=>?_
 cases r with
 | no=>exact hk.elim
 | bag=>exact hk.elim
 | pin v d=>exact hk.elim
 | deep c=>exact hk.elim
 | val d=>exact q d v B2 H2 hk e2 (g1.trans g2) res
 | new d=>exact q d v B2 H2 hk e2 (g1.trans g2) (Rep.mono Zks res)
 | own c =>
  cases c with
  | d _ _ _ _=>exact hk.elim
  | l ds =>
  obtain ⟨a,rfl,f1,f2,us,f3,f4⟩:=res
  obtain ⟨e3,g3⟩:=e2.freeze f3 (e1.toWd.fresh f1).1 f2 fun i m=>absurd f1 (by
   have m1:Zat σ ρ i a:=m
   exact (e1.mutOk m1).2)
  exact q _ _ _ _ hk e3 ((g1.trans g2).trans g3) (.lst Zal (f4.mono g3.s))
end
def lenD:D→Option Nat
 | .tup ds=>some ds.length
 | .lst ds=>some ds.length
 | .scr ns=>some ns.length
 | _=>none
def uLen (u:UE):UE:=fun ρ k=>u ρ fun x=>∃ n,lenD x=some n∧k (.int n)
def uAbs (u:UE):UE:=fun ρ k=>u ρ fun x=>∃ i,x=.int i∧k (.int (if i < 0 then -i else i))
section
variable {K:PySem.W.Frag} {X:Cx} {e:Expr} {es:List Expr} {u:UE} {pos p:Pos} {n:Nat}
theorem Zlr {te:TE} {r:List V→Hp→VK→Prop} {f:D→(D→Prop)→Prop} (ha:RefE K te u)
  (hr:∀ (x:D) (k:D→Prop),f x k→∀ (R:Hp) (W:Addr→Prop) (B H:Hp) (σ:St) (ρ:List Sl) (v:V) (Q:VK),Ev K R W B H σ ρ→Rep K B v x→(∀ d v B' H',k d→Ev K R W B' H' σ ρ→Grow R B B'→Rep K B' v d→Q v H')→r [v] H Q) :
  RefE K (tCB r (Znr te tNil)) (fun ρ k=>u ρ fun x=>f x k):=by
 intro ρ k h R W B H σ Q e q
 refine ha ρ _ h R W B H σ _ e fun x v B1 H1 h1 e1 g1 r1=>?_
 exact hr x k h1 R W B1 H1 σ ρ v Q e1 r1 fun d u B3 H3 h3 e3 g3 r3=>q d u B3 H3 h3 e3 (g1.trans g3) r3
theorem Zds (ha:PE3 X e u) (hg:Gl X "len") (hm:X.mg "len" = none) (hs:starEach [e] X.env=(false,eval e X.env) :: starEach [] X.env:=by rfl):PE3 X (.Call (.Name "len" p) [e] [] pos) (uLen u):=by
 obtain ⟨_,h1,r1⟩:=ha
 refine ⟨_,Zbv Zct hg hm PySem.boot_len (Zau h1 ZaR hs) (by decide) (by decide) hs,Zlr (f:=fun x k=>∃ n,lenD x=some n∧k (.int n)) r1 fun x k h R W B H σ ρ v Q e rx q=>?_⟩
 obtain ⟨n,hn,hk⟩:=h
 cases x <;> first | (cases hn; done) | skip
 ·obtain ⟨a,vs,rfl,ha,r⟩:=rx.tupV
  cases hn
  rw [← r.length] at hk
  exact ⟨a,vs,rfl,.inr (SqT.of (e.bh _ _ ha)),q _ _ B H hk e (Grow.refl _ _) (.int _)⟩
 ·obtain ⟨a,vs,rfl,ha,r⟩:=rx.lstV
  cases hn
  rw [← r.length] at hk
  exact ⟨a,vs,rfl,.inl (SqL.of (e.bh _ _ ha)),q _ _ B H hk e (Grow.refl _ _) (.int _)⟩
 ·obtain ⟨a,rfl,ha⟩:=rx.scrV
  cases hn
  refine ⟨a,_,rfl,.inl (e.bh.seq ha),?_⟩
  rw [List.length_map]
  exact q _ _ B H hk e (Grow.refl _ _) (.int _)
theorem Zkx (ha:PE3 X e u) (hg:Gl X "abs") (hm:X.mg "abs" = none) (hs:starEach [e] X.env=(false,eval e X.env) :: starEach [] X.env:=by rfl):PE3 X (.Call (.Name "abs" p) [e] [] pos) (uAbs u):=by
 obtain ⟨_,h1,r1⟩:=ha
 refine ⟨_,Zbv ZjG hg hm (by decide +kernel) (Zau h1 ZaR hs) (by decide) (by decide) hs,Zlr (f:=fun x k=>∃ i,x=.int i∧k (.int (if i < 0 then -i else i))) r1 fun x k h R W B H σ ρ v Q e rx q=>?_⟩
 obtain ⟨i,rfl,hk⟩:=h
 exact ⟨i,by rw [rx.intV],q _ _ B H hk e (Grow.refl _ _) (.int _)⟩
end
section
variable {K:PySem.W.Frag} {X:Cx} {e:Expr} {es:List Expr} {u:UE} {w:UL} {pos p:Pos}
def uNext:US:=fun U ρ=>U.nx ρ
def uSeq (s t:US):US:=fun U ρ=>s { U with nx:=t U } ρ
def uRet (u:UE):US:=fun U ρ=>u ρ fun d=>U.rt (.val d)
def uRetO (w:UL):US:=fun U ρ=>w ρ fun ds=>U.rt (.own ds)
def uSet (i:Nat) (u:UE):US:=fun U ρ=>u ρ fun d=>U.nx (ρ.set i (.val d))
def uSetO (i:Nat) (w:UL):US:=fun U ρ=>w ρ fun ds=>U.nx (ρ.set i (.own ds))
def uIf (c:UT) (s t:US):US:=fun U ρ=>c ρ fun b=>if b=true then s U ρ else t U ρ
def uFz (i:Nat) (s:US):US:=fun U ρ=>∃ ds:List D,ρ[i]?=some (.own ds)∧s U (ρ.set i (.val (.lst ds)))
theorem Zbt:PSs3 X [] uNext:=⟨_,Zes,fun U ρ h R W B H σ D e s=>s.nx ρ σ B H h e (Grow.refl _ _)⟩
theorem Zam {st:Stmt} {s:US} (h:PS3 X st s):PSs3 X [st] s:=by
 obtain ⟨_,h1,r1⟩:=h
 exact ⟨_,ZbJ h1,r1⟩
theorem Zab {st:Stmt} {rest:List Stmt} {s t:US} (h:PS3 X st s) (h':PSs3 X rest t):PSs3 X (st :: rest) (uSeq s t):=by
 obtain ⟨_,h1,r1⟩:=h; obtain ⟨_,h2,r2⟩:=h'
 refine ⟨_,Za7 h1 h2,fun U ρ h R W B H σ D e sm=>?_⟩
 exact r1 _ ρ h R W B H σ _ e ⟨fun ρ' σ' B' H' z e' g=>r2 U ρ' z R W B' H' σ' D e' (sm.grow g),sm.bk,sm.ct,sm.rt⟩
theorem s_fz {st:List Stmt} {s:US} (i:Nat) (h:PSs3 X st s):PSs3 X st (uFz i s):=by
 obtain ⟨_,h1,r1⟩:=h
 refine ⟨_,h1,fun U ρ h R W B H σ D e sm=>?_⟩
 obtain ⟨ds,ho,z⟩:=h
 obtain ⟨B',e',g⟩:=e.fz ho
 exact r1 U _ z R W B' H σ D e' (sm.grow g)
theorem Zmo {st:Stmt}:PS3 X st (fun _ _=>False):=⟨_,Zka,fun U ρ h=>h.elim⟩
theorem ZaF (h:PE3 X e u):PS3 X (.Return (some e) pos) (uRet u):=by
 obtain ⟨_,h1,r1⟩:=h
 refine ⟨_,Zcs h1,fun U ρ h R W B H σ D e s=>?_⟩
 exact r1 ρ _ h R W B H σ _ e fun d v B1 H1 z1 e1 g1 s1=>s.rt _ v B1 H1 z1 e1.toWd g1 s1
theorem ZlE (h:PO3 X e w):PS3 X (.Return (some e) pos) (uRetO w):=by
 obtain ⟨_,h1,r1⟩:=h
 refine ⟨_,Zcs h1,fun U ρ h R W B H σ D e s=>?_⟩
 exact r1 ρ _ h R W B H σ _ e fun ds a vs B1 H1 z1 e1 g1 f1 f2 f3 f4 f5=>s.rt (.own ds) _ B1 H1 z1 e1.toWd g1 ⟨a,rfl,f1,f2,vs,f3,f4⟩
theorem Zan {i:Nat} {x:Str} {pos':Pos} (hN:X.N.Nodup) (hi:X.N[i]?=some x) (hx:Loc X.env.scope x) (he:PE3 X e u) (hs:swapsWith e (some (.Name x pos')) pos.line X.env=pure false:=by rfl) (hf:X.fn x=true∨X.env.scope.names.lookup x=some .local:=by first | exact .inl rfl | exact .inr rfl | assumption) :
  PS3 X (.Assign [.Name x pos'] e pos) (uSet i u):=by
 obtain ⟨_,h1,r1⟩:=he
 refine ⟨_,ZdD hN hi hx h1 hs hf,fun U ρ h R W B H σ D e s=>?_⟩
 exact r1 ρ _ h R W B H σ _ e fun d v B1 H1 z1 e1 g1 s1=>s.nx _ _ B1 H1 z1 (e1.setV i s1) g1
theorem ZhC {i:Nat} {x:Str} {pos':Pos} (hN:X.N.Nodup) (hi:X.N[i]?=some x) (hx:Loc X.env.scope x) (he:PO3 X e w) (hs:swapsWith e (some (.Name x pos')) pos.line X.env=pure false:=by rfl) (hf:X.fn x=true∨X.env.scope.names.lookup x=some .local:=by first | exact .inl rfl | exact .inr rfl | assumption) :
  PS3 X (.Assign [.Name x pos'] e pos) (uSetO i w):=by
 obtain ⟨_,h1,r1⟩:=he
 refine ⟨_,ZdD hN hi hx h1 hs hf,fun U ρ h R W B H σ D e s=>?_⟩
 exact r1 ρ _ h R W B H σ _ e fun ds a vs B1 H1 z1 e1 g1 f1 f2 f3 f4 f5=>s.nx _ _ B1 H1 z1 (e1.setO i f1 f2 f3 f4 fun j _=>f5 j) g1
theorem s_if {c:Expr} {a b:List Stmt} {uc:UT} {s t:US} (hc:PT3 X c uc) (ha:PSs3 X a s) (hb:PSs3 X b t):PS3 X (.If c a b pos) (uIf uc s t):=by
 obtain ⟨_,h0,r0⟩:=hc; obtain ⟨_,h1,r1⟩:=ha; obtain ⟨_,h2,r2⟩:=hb
 refine ⟨_,Zj2 h0 h1 h2,fun U ρ h R W B H σ D e sm=>?_⟩
 refine r0 ρ _ h R W B H σ _ e fun c B1 H1 z1 e1 g1=>?_
 cases c with
 | true =>
  rw [if_pos rfl] at z1 ⊢
  exact r1 U ρ z1 R W B1 H1 σ D e1 (sm.grow g1)
 | false =>
  rw [if_neg Bool.false_ne_true] at z1 ⊢
  exact r2 U ρ z1 R W B1 H1 σ D e1 (sm.grow g1)
def Zay (i:Nat):UG:=fun d ρ k=>k (ρ.set i (.val d))
def Zfl:UGs:=fun ds ρ k=>ds=[]∧k ρ
def Zba (g:UG) (gs:UGs):UGs:=fun ds ρ k=>∃ d r,ds=d :: r∧g d ρ fun ρ'=>gs r ρ' k
def Zfm (n:Nat) (gs:UGs):UG:=fun d ρ k=>∃ ds,d=.tup ds∧ds.length=n∧gs ds ρ k
def uAsg (u:UE) (g:UG):US:=fun U ρ=>u ρ fun d=>g d ρ U.nx
theorem Zag {i:Nat} {x:Str} (hN:X.N.Nodup) (hi:X.N[i]?=some x) (hx:Loc X.env.scope x) (hf:X.fn x=true∨X.env.scope.names.lookup x=some .local:=by first | exact .inl rfl | exact .inr rfl | assumption):PG3 X (.Name x pos) (Zay i) :=
 ⟨_,Zne hN hi hx hf,fun d ρ k h R W B H σ v Q e r q=>q _ _ h (e.setV i r) fun j a m=>by
  exact (Zeu m (by simp) (by simp) rfl).2⟩
theorem ZaK:PGs3 X [] Zfl:=⟨_,ZmP,fun ds ρ k h R W B H σ vs Q e r q=>by
 obtain ⟨rfl,h⟩:=h
 cases r
 exact ⟨rfl,q _ _ h e fun _ _ m=>m⟩⟩
theorem Zah {g:UG} {gs:UGs} (h1:PG3 X e g) (h2:PGs3 X es gs) (hs:(assignEach (e :: es) X.env).map (·.2)=assign e X.env :: (assignEach es X.env).map (·.2):=by rfl):PGs3 X (e :: es) (Zba g gs):=by
 obtain ⟨_,h1,r1⟩:=h1; obtain ⟨_,h2,r2⟩:=h2
 refine ⟨_,ZjF h1 h2 hs,fun ds ρ k h R W B H σ vs Q e r q=>?_⟩
 obtain ⟨d,rr,rfl,h⟩:=h
 cases r with
 | cons rv rs =>
  refine ⟨_,_,rfl,r1 d ρ _ h R W B H σ _ _ e rv fun ρ' σ' z e' mm=>?_⟩
  exact r2 rr ρ' k z R W B H σ' _ _ e' rs fun ρ'' σ'' z2 e2 m2=>q ρ'' σ'' z2 e2 fun j a m=>mm j a (m2 j a m)
theorem Zbf {k0:Nat} {gs:UGs} {n:Nat} (hc:X.calm=true) (h:PGs3 X es gs) (hn:(assignEach es X.env).length=n:=by rfl) (hst:(assignEach es X.env).findIdx? (·.1)=none:=by rfl):PG3 X (.Tuple es k0 pos) (Zfm n gs):=by
 obtain ⟨_,h1,r1⟩:=h
 refine ⟨_,pg_tup hc h1 hn hst,fun d ρ k h R W B H σ v Q e r q=>?_⟩
 obtain ⟨ds,rfl,hl,h⟩:=h
 obtain ⟨a,vs,rfl,ha,rs⟩:=r.tupV
 exact ⟨a,vs,rfl,SqT.of (e.bh _ _ ha),by rw [rs.length]; exact hl,r1 ds ρ k h R W B H σ vs Q e rs q⟩
theorem Zdm {tg:Expr} {g:UG} (he:PE3 X e u) (hg:PG3 X tg g) (hs:swapsWithSole [tg] e pos.line X.env=pure false:=by rfl) (hw:swappedStores [tg] e X.env=pure none:=by rfl)
  (h1:(assignEach [tg] X.env).map (·.2)=[assign tg X.env]:=by rfl):PS3 X (.Assign [tg] e pos) (uAsg u g):=by
 obtain ⟨_,ha,r1⟩:=he; obtain ⟨_,hb,r2⟩:=hg
 refine ⟨_,ZfX ha hb hs hw h1,fun U ρ h R W B H σ D e s=>?_⟩
 refine r1 ρ _ h R W B H σ _ e fun d v B1 H1 z1 e1 g1 s1=>?_
 exact r2 d ρ _ z1 R W B1 H1 σ v _ e1 s1 fun ρ' σ' z2 e2 _=>s.nx _ _ B1 H1 z2 e2 g1
def uPar (i j:Nat) (w:UL):US:=fun U ρ=>w ρ fun ds=>∃ x y,ds=[x,y]∧U.nx ((ρ.set i (.val x)).set j (.val y))
theorem Zm0 {i j:Nat} {x y:Str} {a b:Expr} {px py pt:Pos} {kt k2 pt2} (hc:X.calm=true) (hN:X.N.Nodup) (hi:X.N[i]?=some x) (hj:X.N[j]?=some y) (hij:i≠j)
  (hx:X.env.scope.names.lookup x=some .local) (hy:X.env.scope.names.lookup y=some .local) (ha:PL3 X [a,b] w)
  (hw:swappedStores [.Tuple [.Name x px,.Name y py] kt pt] (.Tuple [a,b] k2 pt2) X.env=pure (some [x,y]))
  (hs:swapsWithSole [.Tuple [.Name x px,.Name y py] kt pt] (.Tuple [a,b] k2 pt2) pos.line X.env=pure false:=by rfl) :
  PS3 X (.Assign [.Tuple [.Name x px,.Name y py] kt pt] (.Tuple [a,b] k2 pt2) pos) (uPar i j w):=by
 obtain ⟨_,h1,r1⟩:=ha
 refine ⟨_,ps_par hc hN hi hj hij hx hy h1 hw hs,fun U ρ h R W B H σ D e s=>?_⟩
 refine r1 ρ _ h R W B H σ _ e fun ds vs B1 H1 z1 e1 g1 s1=>?_
 obtain ⟨x,y,rfl,z1⟩:=z1
 cases s1 with
 | cons ra rb=>cases rb with
  | cons rb rc =>
   cases rc
   exact ⟨_,_,rfl,s.nx _ _ B1 H1 z1 ((e1.setV i ra).setV j rb) g1⟩
def uWhile (c:UT) (s:US):US:=fun U ρ=>∃ M:Nat→List Sl→Prop,(∃ m,M m ρ)∧∀ m ρ,M m ρ→c ρ fun b=>if b=true then s { U with nx:=fun ρ'=>∃ m',m' < m∧M m' ρ',ct:=fun ρ'=>∃ m',m' < m∧M m' ρ',bk:=U.nx } ρ else U.nx ρ
theorem ZiR {c:Expr} {body:List Stmt} {uc:UT} {s:US} (hp:PassesOwn (model X.prog X.w) X.A X.env X.xe) (hc:PT3 X c uc) (hb:PSs3 X body s):PS3 X (.While c body [] pos) (uWhile uc s):=by
 obtain ⟨_,h0,r0⟩:=hc; obtain ⟨_,h1,r1⟩:=hb
 refine ⟨_,ZkD hp h0 h1,fun U ρ h R W B H σ D e sm=>?_⟩
 obtain ⟨M,⟨m0,hm⟩,turn⟩:=h
 refine ⟨fun m σ' H'=>∃ ρ' B',M m ρ'∧Ev X.K R W B' H' σ' ρ'∧Grow R B B',⟨m0,ρ,B,hm,e,Grow.refl _ _⟩,?_⟩
 rintro m σ1 H1 ⟨ρ1,B1,hm1,e1,g1⟩
 refine r0 ρ1 _ (turn m ρ1 hm1) R W B1 H1 σ1 _ e1 fun b B2 H2 z2 e2 g2=>?_
 cases b with
 | true =>
  rw [if_pos rfl] at z2 ⊢
  refine ⟨fun σ' H'=>∃ ρ' B',(∃ m',m' < m∧M m' ρ')∧Ev X.K R W B' H' σ' ρ'∧Grow R B B',?_,?_⟩
  ·rintro σ' H' ⟨ρ',B',⟨m',l,q⟩,e',g'⟩
   exact ⟨m',l,ρ',B',q,e',g'⟩
  ·have gg:=g1.trans g2
   exact r1 _ ρ1 z2 R W B2 H2 σ1 _ e2 ⟨fun ρ' σ' B' H' z e' g=>⟨ρ',B',z,e',gg.trans g⟩,fun ρ' σ' B' H' z e' g=>sm.nx ρ' σ' B' H' z e' (gg.trans g),fun ρ' σ' B' H' z e' g=>⟨ρ',B',z,e',gg.trans g⟩,fun r v B' H' z e' g q=>sm.rt r v B' H' z e' (gg.trans g) q⟩
 | false =>
  rw [if_neg Bool.false_ne_true] at z2 ⊢
  exact sm.nx ρ1 σ1 B2 H2 z2 e2 (g1.trans g2)
theorem ItOk.list {B:Hp} {a:Addr} {vs:List V} {ds:List D} (h:B a=some (.lst vs)) (r:Reps K B vs ds):ItOk K B (Itl K a) ds:=by
 intro H s i
 have hH:=s _ _ h
 have q:SqL K H a vs:=SqL.of hH
 refine ⟨fun hi=>?_,fun hi=>⟨vs,q,by rw [r.length]; exact hi⟩,fun x H' hi ⟨e1,e2⟩=>⟨e1,?_⟩⟩
 ·obtain ⟨v,e,_⟩:=r.get (List.getElem?_eq_getElem hi)
  exact ⟨vs,v,q,e⟩
 ·exact r.getV (e2 vs q)
theorem ItOk.tup {B:Hp} {a:Addr} {vs:List V} {ds:List D} (h:B a=some (.tup vs)) (r:Reps K B vs ds):ItOk K B (Itt K a) ds:=by
 intro H s i
 have hH:=s _ _ h
 have q:SqT K H a vs:=SqT.of hH
 refine ⟨fun hi=>?_,fun hi=>⟨vs,q,by rw [r.length]; exact hi⟩,fun x H' hi ⟨e1,e2⟩=>⟨e1,?_⟩⟩
 ·obtain ⟨v,e,_⟩:=r.get (List.getElem?_eq_getElem hi)
  exact ⟨vs,v,q,e⟩
 ·exact r.getV (e2 vs q)
theorem ItOk.rng {B:Hp} (n:Nat):ItOk K B (Itr 0 n) ((List.range n).map fun i:Nat=>D.int i):=by
 intro H s i
 rw [List.length_map,List.length_range]
 refine ⟨fun hi=>hi,fun hi=>hi,fun x H' hi ⟨e1,e2⟩=>⟨e1,?_⟩⟩
 refine ⟨.int i,?_,?_⟩
 ·rw [List.getElem?_map,List.getElem?_range hi]; rfl
 ·rw [e2,Int.zero_add]; exact .int _
def uiL (u:UE):UL:=fun ρ k=>u ρ fun d=>∃ ds,d=.lst ds∧k ds
def uiT (u:UE):UL:=fun ρ k=>u ρ fun d=>∃ ds,d=.tup ds∧k ds
def uiR (u:UE):UL:=fun ρ k=>u ρ fun d=>∃ j,d=.int j ∧ -(2 ^ 62)≤j∧j < 2 ^ 62∧k ((List.range j.toNat).map fun i:Nat=>D.int i)
variable {tg:Expr}
theorem ZaT {l:Expr} (hl:PE3 X l u):PI3 X tg l (uiL u):=by
 obtain ⟨_,h1,r1⟩:=hl
 refine ⟨_,Zmu h1,fun ρ k h R W B H σ Q e q=>?_⟩
 refine r1 ρ _ h R W B H σ _ e fun d v B1 H1 z1 e1 g1 s1=>?_
 obtain ⟨ds,rfl,z⟩:=z1
 obtain ⟨a,vs,rfl,ha,rs⟩:=s1.lstV
 exact ⟨a,rfl,⟨vs,SqL.of (e1.bh _ _ ha)⟩,q ds _ B1 H1 z e1 g1 (ItOk.list ha rs)⟩
theorem i_tup {l:Expr} (hl:PE3 X l u):PI3 X tg l (uiT u):=by
 obtain ⟨_,h1,r1⟩:=hl
 refine ⟨_,pi_tup h1,fun ρ k h R W B H σ Q e q=>?_⟩
 refine r1 ρ _ h R W B H σ _ e fun d v B1 H1 z1 e1 g1 s1=>?_
 obtain ⟨ds,rfl,z⟩:=z1
 obtain ⟨a,vs,rfl,ha,rs⟩:=s1.tupV
 exact ⟨a,rfl,⟨vs,SqT.of (e1.bh _ _ ha)⟩,q ds _ B1 H1 z e1 g1 (ItOk.tup ha rs)⟩
theorem ZgY {a:Expr} (ha:PE3 X a u) (hg:Gl X "range") (hm:X.mg "range" = none) (hs:starEach [a] X.env=[(false,eval a X.env)]:=by rfl):PI3 X tg (.Call (.Name "range" p) [a] [] pos) (uiR u):=by
 obtain ⟨_,h1,r1⟩:=ha
 refine ⟨_,Zil hg hm (Zau h1 ZaR (by exact hs)) hs,fun ρ k h R W B H σ Q e q=>?_⟩
 refine r1 ρ _ h R W B H σ _ e fun d v B1 H1 z1 e1 g1 s1=>?_
 obtain ⟨j,rfl,j0,j1,z⟩:=z1
 exact ⟨j,by rw [s1.intV],j0,j1,q _ _ B1 H1 z e1 g1 (ItOk.rng _)⟩
def forR (g:UG) (s:US) (U:UEnds):List D→List Sl→Prop
 | [],ρ=>U.nx ρ
 | d :: ds,ρ=>g d ρ fun ρ'=>s { U with nx:=forR g s U ds,ct:=forR g s U ds,bk:=U.nx } ρ'
def uFor (w:UL) (g:UG) (s:US):US:=fun U ρ=>w ρ fun ds=>forR g s U ds ρ
theorem Zbx {iter:Expr} {body:List Stmt} {g:UG} {s:US} (hp:PassesOwn (model X.prog X.w) X.A X.env X.xe) (hc:X.calm=true) (hi:PI3 X tg iter w) (hg:PG3 X tg g) (hb:PSs3 X body s)
  (hs:∀ x,foldedSetIterable iter X.env x=pure x:=by intro _; rfl):PS3 X (.For tg iter body [] pos) (uFor w g s):=by
 obtain ⟨_,h0,r0⟩:=hi; obtain ⟨_,h1,r1⟩:=hg; obtain ⟨_,h2,r2⟩:=hb
 refine ⟨_,Zld hp hc h0 h1 h2 hs,fun U ρ h R W B H σ D e sm=>?_⟩
 refine r0 ρ _ h R W B H σ _ e fun ds J B1 H1 z1 e1 g1 it=>?_
 refine ⟨fun i m σ' H'=>∃ ρ' B',m=ds.length - i∧i≤ds.length∧forR g s U (ds.drop i) ρ'∧Ev X.K R W B' H' σ' ρ'∧Grow R B B'∧Same B1 B',⟨ds.length,ρ,B1,by simp,Nat.zero_le _,z1,e1,g1,Same.refl _⟩,?_⟩
 rintro i m σ1 H2 ⟨ρ1,B2,rfl,hi,z2,e2,g2,s2⟩
 obtain ⟨t1,t2,t3⟩:=it H2 (s2.trans e2.bh) i
 by_cases hlt:i < ds.length
 ·refine .inr ⟨t1 hlt,fun σ' H'=>∃ ρ' B',forR g s U (ds.drop (i + 1)) ρ'∧Ev X.K R W B' H' σ' ρ'∧Grow R B B'∧Same B1 B',?_,?_⟩
  ·rintro σ' H' ⟨ρ',B',z,e',g',s'⟩
   exact ⟨ds.length - (i + 1),by omega,ρ',B',rfl,hlt,z,e',g',s'⟩
  ·intro x H' y
   obtain ⟨rfl,d,hd,rx⟩:=t3 x H' hlt y
   have ed:ds.drop i=d :: ds.drop (i + 1):=by
    rw [List.drop_eq_getElem_cons hlt]
    rw [List.getElem?_eq_getElem hlt] at hd
    rw [Option.some.inj hd]
   rw [ed] at z2
   refine r1 d ρ1 _ z2 R W B2 _ σ1 x _ e2 (rx.mono s2) fun ρ' σ' z' e' _=>?_
   exact r2 _ ρ' z' R W B2 _ σ' _ e' ⟨fun ρ' σ' B' H' z e' g=>⟨ρ',B',z,e',g2.trans g,s2.trans g.s⟩,fun ρ' σ' B' H' z e' g=>sm.nx ρ' σ' B' H' z e' (g2.trans g),fun ρ' σ' B' H' z e' g=>⟨ρ',B',z,e',g2.trans g,s2.trans g.s⟩,fun r v B' H' z e' g q=>sm.rt r v B' H' z e' (g2.trans g) q⟩
 ·have ei:i=ds.length:=by omega
  subst ei
  rw [List.drop_length] at z2
  exact .inl ⟨t2 (Nat.le_refl _),sm.nx ρ1 σ1 B2 H2 z2 e2 g2⟩
end
section
variable {K:PySem.W.Frag} {X:Cx} {e:Expr} {es:List Expr} {u:UE} {w:UL} {pos p:Pos}
theorem Ev.newO {R:Hp} {W:Addr→Prop} {B H:Hp} {σ:St} {ρ:List Sl} (e:Ev K R W B H σ ρ) {q:Addr} (hq:H q=none) {vs:List V} {ds:List D} (r:Reps K B vs ds) :
  Ev K R W B (upd H q (.lst vs)) σ ρ∧R q=none∧B q=none∧(upd H q (.lst vs)) q=some (.lst vs)∧∀ i,¬ Zat σ ρ i q:=by
 obtain ⟨f1,f2,f3⟩:=e.toWd.fresh hq
 exact ⟨e.allocH hq _,f1,f3,Zal,fun i m=>e.notNew hq m rfl⟩
def cutL {α:Type} (xs:List α) (lo hi:Option Int):List α:=(xs.drop (HT.sIx xs.length 0 lo)).take (HT.sIx xs.length xs.length hi - HT.sIx xs.length 0 lo)
theorem Reps.cut {B:Hp} {vs:List V} {ds:List D} (r:Reps K B vs ds) (lo hi:Option Int):Reps K B (cutL vs lo hi) (cutL ds lo hi):=by
 unfold cutL
 rw [r.length]
 exact (r.drop _).take _
abbrev UP:=List Sl→(Option Int→Prop)→Prop
def RefP (K:PySem.W.Frag) (t:TO) (u:UP):Prop:=∀ (ρ:List Sl) (k:Option Int→Prop),u ρ k→∀ (R:Hp) (W:Addr→Prop) (B H:Hp) (σ:St) (Q:Option Int→Hp→Prop),Ev K R W B H σ ρ →
 (∀ o B' H',k o→Ev K R W B' H' σ ρ→Grow R B B'→Q o H')→t σ H Q
def PP3 (X:Cx) (e:Option Expr) (u:UP):Prop:=∃ t,PO X e t∧RefP X.K t u
def upN:UP:=fun _ k=>k none
def upS (u:UE):UP:=fun ρ k=>u ρ fun d=>∃ i,d=.int i∧k (some i)
theorem Zcp:PP3 X none upN:=⟨_,Zm4,fun ρ k h R W B H σ Q e q=>q none B H h e (Grow.refl _ _)⟩
theorem ZbB (h:PE3 X e u):PP3 X (some e) (upS u):=by
 obtain ⟨_,h1,r1⟩:=h
 refine ⟨_,ZmK h1,fun ρ k h R W B H σ Q e q=>?_⟩
 refine r1 ρ _ h R W B H σ _ e fun d v B1 H1 z1 e1 g1 s1=>?_
 obtain ⟨i,rfl,z⟩:=z1
 exact ⟨i,s1.intV,q _ B1 H1 z e1 g1⟩
def Zle:D→Option (List D)
 | .lst ds=>some ds
 | .scr ns=>some (ns.map .int)
 | _=>none
theorem Ziy {B H:Hp} {v:V} {x:D} {ds:List D} (s:Same B H) (r:Rep K B v x) (h:Zle x=some ds):∃ a vs,v=.ref a∧SqL K H a vs∧Reps K B vs ds:=by
 cases x <;> first | (cases h; done) | skip
 ·obtain ⟨a,vs,rfl,ha,rs⟩:=r.lstV
  cases h
  exact ⟨a,vs,rfl,SqL.of (s _ _ ha),rs⟩
 ·obtain ⟨a,rfl,ha⟩:=r.scrV
  cases h
  exact ⟨a,_,rfl,s.seq ha,Reps.ints _⟩
def uSl (u:UE) (l h:UP):UL:=fun ρ k=>u ρ fun x=>l ρ fun lo=>h ρ fun hi=>∃ ds,Zle x=some ds∧k (cutL ds lo hi)
theorem Zbl {lo hi:Option Expr} {ul uh:UP} {p2:Pos} (he:PE3 X e u) (hl:PP3 X lo ul) (hh:PP3 X hi uh):PO3 X (.Subscript e (.Slice lo hi none p2) pos) (uSl u ul uh):=by
 obtain ⟨_,h1,r1⟩:=he; obtain ⟨_,h2,r2⟩:=hl; obtain ⟨_,h3,r3⟩:=hh
 refine ⟨_,Zj0 Zl8 h1 h2 h3,fun ρ k h R W B H σ Q e q=>?_⟩
 refine r1 ρ _ h R W B H σ _ e fun d v B1 H1 z1 e1 g1 s1=>?_
 refine r2 ρ _ z1 R W B1 H1 σ _ e1 fun lo B2 H2 z2 e2 g2=>?_
 refine r3 ρ _ z2 R W B2 H2 σ _ e2 fun hi B3 H3 z3 e3 g3=>?_
 obtain ⟨ds,hd,z⟩:=z3
 obtain ⟨a,vs,rfl,ha,rs⟩:=Ziy e3.bh (s1.mono (g2.trans g3).s) hd
 refine ⟨a,vs,rfl,ha,fun p hp=>?_⟩
 obtain ⟨f1,f2,f3,f4,f5⟩:=e3.newO hp (rs.cut lo hi)
 exact q _ p _ B3 _ z f1 ((g1.trans g2).trans g3) f2 f3 f4 (rs.cut lo hi) f5
def uCat (u v:UE):UL:=fun ρ k=>u ρ fun x=>v ρ fun y=>∃ ds es,x=.lst ds∧y=.lst es∧ds.length + es.length≤sizeLine∧k (ds ++ es)
theorem Zg2 {a b:Expr} {ua ub:UE} (ha:PE3 X a ua) (hb:PE3 X b ub):PO3 X (.BinOp a .Add b pos) (uCat ua ub):=by
 obtain ⟨_,h1,r1⟩:=ha; obtain ⟨_,h2,r2⟩:=hb
 refine ⟨_,ZaO op_cat h1 h2,fun ρ k h R W B H σ Q e q=>?_⟩
 refine r1 ρ _ h R W B H σ _ e fun d v B1 H1 z1 e1 g1 s1=>?_
 refine r2 ρ _ z1 R W B1 H1 σ _ e1 fun d' v' B2 H2 z2 e2 g2 s2=>?_
 obtain ⟨ds,es,rfl,rfl,hl,z⟩:=z2
 obtain ⟨a,vs,rfl,ha,rs⟩:=(s1.mono g2.s).lstV
 obtain ⟨b,ws,rfl,hb,rt⟩:=s2.lstV
 refine ⟨a,b,vs,ws,rfl,rfl,e2.bh _ _ ha,e2.bh _ _ hb,by rw [rs.length,rt.length]; exact hl,fun p hp=>?_⟩
 obtain ⟨f1,f2,f3,f4,f5⟩:=e2.newO hp (rs.append rt)
 exact q _ p _ B2 _ z f1 (g1.trans g2) f2 f3 f4 (rs.append rt) f5
theorem Zdk {B:Hp}:∀ {ns:List Int} {vs:List V},Reps K B vs (ns.map D.int)→vs=ns.map V.int
 | [],_,.nil=>rfl
 | n :: r,_,.cons h t=>by rw [h.intV,Zdk t]; rfl
def uApp (i:Nat) (u:UE):US:=fun U ρ=>∃ ds:List D,ρ[i]?=some (.own ds)∧u ρ fun d=>ds.length < sizeLine∧U.nx (ρ.set i (.own (ds ++ [d])))
theorem ZkO (i:Nat) {x:Str} {px apos cpos:Pos} (he:PE3 X e u) (hN:X.N[i]?=some x:=by rfl) (hv:Vis X.env.scope x:=by first | exact Or.inl rfl | exact Or.inr (Or.inl rfl) | exact Or.inr (Or.inr rfl)) (hd:(x == ("__debug__" : Str))=false:=by decide)
  (hcd:(x == ("__classdict__" : Str))=false:=by decide) (hbase:attributeBase (.Name x px) "append" X.env (eval (.Name x px) X.env)=eval (.Name x px) X.env:=by rfl)
  (hfew:((backTo cpos (starEach [e] X.env)).all (fun x => !x.1) && (backToKw cpos (keywordEach [] X.env)).all (fun x=>x.1.isSome)
   && decide ([e].length + ([]:List Keyword).length + (if ([]:List Keyword).isEmpty then 0 else 1) < 30))=true:=by rfl)
  (hline:(apos.endLine == cpos.line)=true:=by rfl) (hs:starEach [e] X.env=(false,eval e X.env) :: starEach [] X.env:=by rfl) (hplain:(backTo cpos (starEach ([]:List Expr) X.env)).any (·.1)=false:=by rfl)
  (hsw:swapsWith (.Call (.Attribute (.Name x px) "append" apos) [e] [] cpos) none pos.line X.env=pure false:=by rfl):PS3 X (.Expr (.Call (.Attribute (.Name x px) "append" apos) [e] [] cpos) pos) (uApp i u):=by
 obtain ⟨_,h1,r1⟩:=he
 refine ⟨_,Zm9 (pe_bm PySem.F.plainAttrs_list PySem.F.slot_list_append PySem.F.type_list_append ZeD (ZdM hN hv hd hcd) (Zau h1 ZaR hs) hbase hfew hline hs hplain) hsw,fun U ρ h R W B H σ D e s=>?_⟩
 obtain ⟨ds,ho,h⟩:=h
 obtain ⟨a,vs,e1,e2,e3,e4,e5⟩:=e.ownAt ho
 refine ⟨_,e1,.inl ⟨rfl,vs,SqL.of e4⟩,?_⟩
 refine r1 ρ _ h R W B H σ _ e fun d v B1 H1 z1 f1 g1 s1=>?_
 obtain ⟨a',vs',k1,k2,k3,k4,k5⟩:=f1.ownAt ho
 rw [e1] at k1; cases k1
 exact ⟨a,vs',v,rfl,rfl,k4,by rw [k5.length]; exact z1.1,s.nx _ _ B1 _ z1.2 (f1.write e1 ho (k5.append (.cons s1 .nil))) g1⟩
def frS (ρ:List Sl) (j:Nat):Sl:=match ρ[j]? with
 | some (.val d)=>.val d
 | some .bag=>.bag
 | _=>.no
theorem Ev.scribble {R:Hp} {W:Addr→Prop} {B H:Hp} {σ:St} {ρ:List Sl} (e:Ev K R W B H σ ρ) {a:Addr} (hr:R a=none) (hb:B a=none) (hm:∀ i,¬ Zat σ ρ i a) (o:HO):Ev K R W B (upd H a o) σ ρ:=by
 have nw:¬ W a:=fun z=>e.wr a z hr
 refine e.move ⟨fun b q h z=>?_,fun b q h=>?_,e.wb,fun b z=>(e.wh b z).upd (by rintro rfl; exact nw z),e.wr⟩ (Same.refl _) fun i b m=>?_
 ·rw [Zak (by rintro rfl; rw [hr] at h; cases h)]; exact e.fr b q h z
 ·rw [Zak (by rintro rfl; rw [hb] at h; cases h)]; exact e.bh b q h
 ·have n:b≠a:=by rintro rfl; exact hm i m
  refine ⟨(e.mutOk m).1,fun z=>?_,fun _=>Zak n⟩
  obtain ⟨c,c1,_,_,c4⟩:=e.bagAt z
  rw [Zdl m z] at c1; cases c1
  exact c4.upd n
theorem Zjm {σ:St} {js:List Nat} {i:Nat} {o:Option V} (h:(Zby σ js)[i]?=some o):∃ j,js[i]?=some j∧o=(σ[j]?).join:=by
 unfold Zby at h
 rw [List.getElem?_map] at h
 cases q:js[i]? with
 | none=>rw [q] at h; cases h
 | some j=>rw [q] at h; exact ⟨j,rfl,(Option.some.inj h).symm⟩
def RefN (K:PySem.W.Frag) (t:TE) (u:List Sl→Prop→Prop):Prop:=∀ (ρ:List Sl) (k:Prop),u ρ k→∀ (R:Hp) (W:Addr→Prop) (B H:Hp) (σ:St) (Q:VK),Ev K R W B H σ ρ →
 (∀ a B' H',k→Ev K R W B' H' σ ρ→Grow R B B'→R a=none→B' a=none→Bag H' a→(∀ i,¬ Zat σ ρ i a)→Q (.ref a) H')→t σ H Q
def PN3 (X:Cx) (e:Expr) (u:List Sl→Prop→Prop):Prop:=∃ t,PE X e t∧RefN X.K t u
def uCallN (n:Nat) (F:FS) (w:UA):List Sl→Prop→Prop:=fun ρ k=>w ρ fun as=>sh as n=true∧F (as.map Arg.sl) fun r=>r=.bag∧k
theorem n_call {n:Nat} {F:FS} {w:UA} {x:Str} {ps:List Str} {j lv:Nat} (c:Cal X.prog X.w X.K X.mg X.base x ps j (Con X.K n F)) (hr:Room lv X.A) (hg:Gl X x) (ha:PA3 X (e :: es) w) (hjk:j≤lv:=by decide)
  (hdb:(x == ("__debug__" : Str))=false:=by decide) (he:starEach (e :: es) X.env=(false,eval e X.env) :: starEach es X.env:=by rfl) (hpl:(backTo pos (starEach es X.env)).any (·.1)=false:=by rfl) :
  PN3 X (.Call (.Name x p) (e :: es) [] pos) (uCallN n F w):=by
 obtain ⟨_,h1,r1⟩:=ha
 refine ⟨_,Zk5 c hr hg h1 hjk hdb he hpl,fun ρ k h R W B H σ Q e q=>?_⟩
 refine r1 ρ _ h R W B H σ _ e fun as vs B1 H1 z1 e1 g1 s1=>?_
 rw [List.append_nil]
 refine ZiK e1 s1 z1.1 z1.2 fun r v B2 H2 hk e2 g2 res=>?_
 obtain ⟨rfl,hk⟩:=hk
 obtain ⟨a,rfl,f1,f2,f3⟩:=res
 exact q a B2 H2 hk e2 (g1.trans g2) (e1.toWd.fresh f1).1 f2 f3 fun i m=>(e1.mutOk m).2 f1
def uSetN (i:Nat) (u:List Sl→Prop→Prop):US:=fun U ρ=>u ρ (U.nx (ρ.set i .bag))
theorem s_setN {i:Nat} {x:Str} {pos':Pos} {u:List Sl→Prop→Prop} (hN:X.N.Nodup) (hi:X.N[i]?=some x) (hx:Loc X.env.scope x) (he:PN3 X e u) (hs:swapsWith e (some (.Name x pos')) pos.line X.env=pure false:=by rfl) (hf:X.fn x=true∨X.env.scope.names.lookup x=some .local:=by first | exact .inl rfl | exact .inr rfl | assumption) :
  PS3 X (.Assign [.Name x pos'] e pos) (uSetN i u):=by
 obtain ⟨_,h1,r1⟩:=he
 refine ⟨_,ZdD hN hi hx h1 hs hf,fun U ρ h R W B H σ D e s=>?_⟩
 refine r1 ρ _ h R W B H σ _ e fun a B1 H1 z1 e1 g1 f1 f2 f3 f4=>s.nx _ _ B1 H1 z1 (e1.set i ⟨a,rfl,.inr f1,f2,f3⟩ fun b z _ j _=>?_) g1
 cases z
 exact f4 j
end
end L3
namespace L3
open PySem L2
inductive Sh where
 | I | B | N | S | T (ss:List Sh) | L (s:Sh)
mutual
def has:Sh→D→Bool
 | .I,.int _=>true
 | .B,.bl _=>true
 | .N,.non=>true
 | .S,.str _=>true
 | .T ss,.tup xs=>hass ss xs
 | .L s,.lst xs=>xs.all fun x=>has s x
 | _,_=>false
def hass:List Sh→List D→Bool
 | [],[]=>true
 | s :: ss,x :: xs=>has s x && hass ss xs
 | _,_=>false
end
mutual
def dep:Sh→Nat
 | .T ss=>deps ss + 1
 | .L s=>dep s + 1
 | _=>0
def deps:List Sh→Nat
 | []=>0
 | s :: ss=>max (dep s) (deps ss)
end
noncomputable def eqD (x y:D):Bool := @decide (x=y) (Classical.propDecidable _)
theorem eqD_iff {x y:D}:eqD x y=true↔x=y:=by unfold eqD; exact @decide_eq_true_iff _ (Classical.propDecidable _)
theorem Za6 (x:D):eqD x x=true:=eqD_iff.mpr rfl
theorem Zcv {x y:D} {b:Bool} (h:b=true↔x=y):eqD x y=b:=by
 rw [Bool.eq_iff_iff,eqD_iff,h]
section
variable {K:PySem.W.Frag} {B:Hp}
theorem Zd3 {x:D} (h:has .I x=true):∃ i,x=.int i:=by cases x <;> first | exact ⟨_,rfl⟩ | (simp [has] at h)
theorem Zf6 {x:D} (h:has .B x=true):∃ i,x=.bl i:=by cases x <;> first | exact ⟨_,rfl⟩ | (simp [has] at h)
theorem Zer {x:D} (h:has .N x=true):x=.non:=by cases x <;> first | rfl | (simp [has] at h)
theorem Zeg {x:D} (h:has .S x=true):∃ i,x=.str i:=by cases x <;> first | exact ⟨_,rfl⟩ | (simp [has] at h)
theorem Zem {x:D} {ss:List Sh} (h:has (.T ss) x=true):∃ xs,x=.tup xs∧hass ss xs=true:=by
 cases x <;> first | exact ⟨_,rfl,by simpa [has] using h⟩ | (simp [has] at h)
theorem ZdZ {x:D} {s:Sh} (h:has (.L s) x=true):∃ xs,x=.lst xs∧∀ y∈xs,has s y=true:=by
 cases x <;> first | exact ⟨_,rfl,by simpa [has] using h⟩ | (simp [has] at h)
theorem Zb1:∀ {ss:List Sh} {xs:List D},hass ss xs=true→xs.length=ss.length
 | [],[],_=>rfl
 | [],_ :: _,h=>by simp [hass] at h
 | _ :: _,[],h=>by simp [hass] at h
 | s :: ss,x :: xs,h=>by
  simp [hass] at h
  simp [Zb1 h.2]
mutual
theorem ZeL:∀ (sh:Sh) {x y:D} {v:V},has sh x=true→has sh y=true→Rep K B v x→Rep K B v y→x=y
 | .I,x,y,v,h1,h2,r1,r2=>by
  obtain ⟨i,rfl⟩:=Zd3 h1; obtain ⟨j,rfl⟩:=Zd3 h2
  have e:=r1.intV.symm.trans r2.intV
  cases e; rfl
 | .B,x,y,v,h1,h2,r1,r2=>by
  obtain ⟨i,rfl⟩:=Zf6 h1; obtain ⟨j,rfl⟩:=Zf6 h2
  have e:=r1.blV.symm.trans r2.blV
  cases e; rfl
 | .N,x,y,v,h1,h2,r1,r2=>by rw [Zer h1,Zer h2]
 | .S,x,y,v,h1,h2,r1,r2=>by
  obtain ⟨i,rfl⟩:=Zeg h1; obtain ⟨j,rfl⟩:=Zeg h2
  cases r1; cases r2; rfl
 | .T ss,x,y,v,h1,h2,r1,r2=>by
  obtain ⟨xs,rfl,q1⟩:=Zem h1; obtain ⟨ys,rfl,q2⟩:=Zem h2
  obtain ⟨a,vs,rfl,ha,ra⟩:=r1.tupV
  obtain ⟨b,ws,e,hb,rb⟩:=r2.tupV
  cases e
  rw [ha] at hb; cases hb
  rw [reps_fn ss q1 q2 ra rb]
 | .L s,x,y,v,h1,h2,r1,r2=>by
  obtain ⟨xs,rfl,q1⟩:=ZdZ h1; obtain ⟨ys,rfl,q2⟩:=ZdZ h2
  obtain ⟨a,vs,rfl,ha,ra⟩:=r1.lstV
  obtain ⟨b,ws,e,hb,rb⟩:=r2.lstV
  cases e
  rw [ha] at hb; cases hb
  have:xs=ys:=by
   apply List.ext_getElem?
   intro i
   cases qx:xs[i]? with
   | none =>
    have:ys[i]?=none:=by
     have h1:=ra.length
     have h2:=rb.length
     have h3:=List.getElem?_eq_none_iff.mp qx
     exact List.getElem?_eq_none_iff.mpr (by omega)
    rw [this]
   | some d =>
    obtain ⟨v,ev,rv⟩:=ra.get qx
    obtain ⟨d',ed,rd⟩:=rb.getV ev
    rw [ed,ZeL s (q1 d (List.mem_of_getElem? qx)) (q2 d' (List.mem_of_getElem? ed)) rv rd]
  rw [this]
theorem reps_fn:∀ (ss:List Sh) {xs ys:List D} {vs:List V},hass ss xs=true→hass ss ys=true→Reps K B vs xs→Reps K B vs ys→xs=ys
 | [],xs,ys,vs,h1,h2,r1,r2=>by
  have e1:=Zb1 h1; have e2:=Zb1 h2
  rw [List.length_nil] at e1 e2
  rw [List.eq_nil_of_length_eq_zero e1,List.eq_nil_of_length_eq_zero e2]
 | s :: ss,[],ys,vs,h1,h2,r1,r2=>by simp [hass] at h1
 | s :: ss,x :: xs,[],vs,h1,h2,r1,r2=>by simp [hass] at h2
 | s :: ss,x :: xs,y :: ys,vs,h1,h2,r1,r2=>by
  simp [hass] at h1 h2
  cases r1 with
  | cons a1 b1=>cases r2 with
   | cons a2 b2=>rw [ZeL s h1.1 h2.1 a1 a2,reps_fn ss h1.2 h2.2 b1 b2]
end
end
section
variable {X:Cx} {pins:List (Addr×Obj)} {σ:St} {H B:Hp} {s:Shared}
theorem Zjd {xs ys:List D} {n:Nat} {e:Nat→Bool} (hn:n=xs.length) (hl:xs.length=ys.length) (he:∀ j,j < n→(e j=true↔xs[j]?=ys[j]?)):((List.range n).all e)=true↔xs=ys:=by
 rw [List.all_eq_true]
 constructor
 ·intro h
  apply List.ext_getElem?
  intro i
  by_cases hi:i < n
  ·exact (he i hi).mp (h i (List.mem_range.mpr hi))
  ·rw [List.getElem?_eq_none (by omega),List.getElem?_eq_none (by omega)]
 ·rintro rfl j hj
  exact (he j (List.mem_range.mp hj)).mpr rfl
noncomputable def eqO (xs ys:List D) (j:Nat):Bool := @decide (xs[j]?=ys[j]?) (Classical.propDecidable _)
theorem Zc2 {xs ys:List D} {j:Nat}:eqO xs ys j=true↔xs[j]?=ys[j]?:=by unfold eqO; exact @decide_eq_true_iff _ (Classical.propDecidable _)
theorem ZkW {xs ys:List D} {j:Nat} {x y:D} (h1:xs[j]?=some x) (h2:ys[j]?=some y):eqO xs ys j=eqD x y:=by
 rw [Bool.eq_iff_iff,Zc2,eqD_iff,h1,h2]
 constructor
 ·intro h; exact Option.some.inj h
 ·intro h; rw [h]
structure EqAll (A:Around) (s:Shared) (u w:Value) (x y:D):Prop where
 rc:SeqAt.RcAt A s u w (eqD x y)
 ne:SeqAt.RcNeAt A s u w (!eqD x y)
 eq:SeqAt.EqAt A s u w (eqD x y)
mutual
theorem ZkA (I:Inv X pins σ H s) (sB:Same B H):∀ (sh:Sh) {A:Around} {x y:D} {v w:V} {u u':Value},has sh x=true→has sh y=true→Rep X.K B v x→Rep X.K B w y→RelV v u→RelV w u'→A.units + dep sh < cLine→EqAll A s u u' x y
 | .I,A,x,y,v,w,u,u',h1,h2,r1,r2,l1,l2,hu=>by
  obtain ⟨i,rfl⟩:=Zd3 h1; obtain ⟨j,rfl⟩:=Zd3 h2
  cases r1.intV; cases r2.intV
  obtain ⟨t,rfl⟩:=l1; obtain ⟨t',rfl⟩:=l2
  have e:eqD (.int i) (.int j)=(i == j):=Zcv (by simp)
  refine ⟨?_,?_,?_⟩ <;> rw [e]
  ·exact SeqAt.RcAt.int_int i t j t'
  ·exact SeqAt.RcNeAt.int_int i t j t'
  ·exact SeqAt.EqAt.int_int i t j t'
 | .B,A,x,y,v,w,u,u',h1,h2,r1,r2,l1,l2,hu=>by
  obtain ⟨i,rfl⟩:=Zf6 h1; obtain ⟨j,rfl⟩:=Zf6 h2
  cases r1.blV; cases r2.blV
  cases l1; cases l2
  have e:eqD (.bl i) (.bl j)=(i == j):=Zcv (by simp)
  refine ⟨?_,?_,?_⟩ <;> rw [e]
  ·exact SeqAt.RcAt.bool_bool i j
  ·exact SeqAt.RcNeAt.bool_bool i j
  ·exact SeqAt.EqAt.bool_bool i j
 | .N,A,x,y,v,w,u,u',h1,h2,r1,r2,l1,l2,hu=>by
  cases Zer h1; cases Zer h2
  cases r1.nonV; cases r2.nonV
  cases l1; cases l2
  have e:eqD .non .non=true:=Za6 _
  refine ⟨?_,?_,?_⟩ <;> rw [e]
  ·exact SeqAt.RcAt.none_none
  ·exact SeqAt.RcNeAt.none_none
  ·exact SeqAt.EqAt.same _
 | .S,A,x,y,v,w,u,u',h1,h2,r1,r2,l1,l2,hu=>by
  obtain ⟨i,rfl⟩:=Zeg h1; obtain ⟨j,rfl⟩:=Zeg h2
  cases r1; cases r2
  obtain ⟨t,rfl⟩:=l1; obtain ⟨t',rfl⟩:=l2
  have e:eqD (.str i) (.str j)=(i == j):=Zcv (by simp)
  refine ⟨?_,?_,?_⟩ <;> rw [e]
  ·exact SeqAt.RcAt.str_str i t j t'
  ·exact SeqAt.RcNeAt.str_str i t j t'
  ·exact SeqAt.EqAt.str_str i t j t'
 | .T ss,A,x,y,v,w,u,u',h1,h2,r1,r2,l1,l2,hu=>by
  have r1':=r1
  have r2':=r2
  obtain ⟨xs,rfl,q1⟩:=Zem h1; obtain ⟨ys,rfl,q2⟩:=Zem h2
  obtain ⟨a,vs,rfl,ha,ra⟩:=r1.tupV
  obtain ⟨b,ws,rfl,hb,rb⟩:=r2.tupV
  cases l1; cases l2
  obtain ⟨its,k1,t1,_⟩:=I.tuple (SqT.of (sB _ _ ha))
  obtain ⟨its2,k2,t2,_⟩:=I.tuple (SqT.of (sB _ _ hb))
  have d1:dep (.T ss)=deps ss + 1:=by simp [dep]
  have lx:=Zb1 q1
  have ly:=Zb1 q2
  have z1:=ra.length; have z2:=rb.length; have z3:=k1.length; have z4:=k2.length
  have el:=eqs_sh I sB ss (A:=A.in1) q1 q2 ra rb k1 k2 (by show A.units + 1 + deps ss < cLine; omega)
  have he:∀ j (h1:j < its.toArray.size) (h2:j < its2.toArray.size),SeqAt.EqAt A.in1 s its.toArray[j] its2.toArray[j] (eqO xs ys j):=fun j g1 g2=>by
   have:=el j (by simpa using g1) (by simpa using g2)
   simpa using this
  have e:eqD (.tup xs) (.tup ys)=((List.range (min its.toArray.size its2.toArray.size)).all (eqO xs ys) && its.toArray.size == its2.toArray.size):=by
   refine Zcv ?_
   have s1:its.toArray.size=xs.length:=by simp; omega
   have s2:its2.toArray.size=xs.length:=by simp; omega
   rw [s1,s2,Nat.min_self,Bool.and_eq_true]
   have:=Zjd (xs:=xs) (ys:=ys) (n:=xs.length) (e:=eqO xs ys) rfl (by omega) (fun j _=>Zc2)
   constructor
   ·intro h; rw [this.mp h.1]
   ·intro h; cases h; exact ⟨this.mpr rfl,by simp⟩
  have rc:SeqAt.RcAt A s (.ref a) (.ref b) (eqD (.tup xs) (.tup ys)):=by rw [e]; exact SeqAt.RcAt.tuples t1 t2 (by omega) he
  refine ⟨rc,by rw [e]; exact SeqAt.RcNeAt.tuples t1 t2 (by omega) he,?_⟩
  by_cases hab:a=b
  ·subst hab
   have:=ZeL (.T ss) h1 h2 r1' r2'
   rw [this,Za6]
   exact SeqAt.EqAt.same _
  ·exact SeqAt.EqAt.of_refs hab rc
 | .L sh,A,x,y,v,w,u,u',h1,h2,r1,r2,l1,l2,hu=>by
  have r1':=r1
  have r2':=r2
  obtain ⟨xs,rfl,q1⟩:=ZdZ h1; obtain ⟨ys,rfl,q2⟩:=ZdZ h2
  obtain ⟨a,vs,rfl,ha,ra⟩:=r1.lstV
  obtain ⟨b,ws,rfl,hb,rb⟩:=r2.lstV
  cases l1; cases l2
  obtain ⟨its,k1,p1,_⟩:=I.list (SqL.of (sB _ _ ha))
  obtain ⟨its2,k2,p2,_⟩:=I.list (SqL.of (sB _ _ hb))
  have t1:=p1.isList
  have t2:=p2.isList
  have d1:dep (.L sh)=dep sh + 1:=by simp [dep]
  have z1:=ra.length; have z2:=rb.length; have z3:=k1.length; have z4:=k2.length
  have he:∀ j (h1:j < its.toArray.size) (h2:j < its2.toArray.size),SeqAt.EqAt A.in1 s its.toArray[j] its2.toArray[j] (eqO xs ys j):=fun j g1 g2=>by
   have g1':j < its.length:=by simpa using g1
   have g2':j < its2.length:=by simpa using g2
   obtain ⟨v1,e1,rv1⟩:=k1.getR (List.getElem?_eq_getElem g1')
   obtain ⟨v2,e2,rv2⟩:=k2.getR (List.getElem?_eq_getElem g2')
   obtain ⟨c1,f1,rd1⟩:=ra.getV e1
   obtain ⟨c2,f2,rd2⟩:=rb.getV e2
   rw [ZkW f1 f2]
   have:=(ZkA I sB sh (A:=A.in1) (q1 c1 (List.mem_of_getElem? f1)) (q2 c2 (List.mem_of_getElem? f2)) rd1 rd2 rv1 rv2 (by show A.units + 1 + dep sh < cLine; omega)).eq
   simpa using this
  by_cases hsz:its.toArray.size=its2.toArray.size
  ·have s1:its.toArray.size=xs.length:=by simp; omega
   have s2:xs.length=ys.length:=by simp at hsz; omega
   have e:eqD (.lst xs) (.lst ys)=(List.range its.toArray.size).all (eqO xs ys):=by
    refine Zcv ?_
    rw [Zjd (xs:=xs) (ys:=ys) s1 s2 (fun j _=>Zc2)]
    constructor
    ·intro h; rw [h]
    ·intro h; cases h; rfl
   have rc:SeqAt.RcAt A s (.ref a) (.ref b) (eqD (.lst xs) (.lst ys)):=by rw [e]; exact SeqAt.RcAt.lists t1 t2 hsz (by omega) he
   refine ⟨rc,by rw [e]; exact SeqAt.RcNeAt.lists t1 t2 hsz (by omega) he,?_⟩
   by_cases hab:a=b
   ·subst hab
    have:=ZeL (.L sh) h1 h2 r1' r2'
    rw [this,Za6]
    exact SeqAt.EqAt.same _
   ·exact SeqAt.EqAt.of_refs hab rc
  ·have e:eqD (.lst xs) (.lst ys)=false:=Zcv (by
    constructor
    ·intro h; cases h
    ·intro h; cases h; simp at hsz; omega)
   have hne:(its.toArray.size != its2.toArray.size)=true:=by simpa using hsz
   have rc:SeqAt.RcAt A s (.ref a) (.ref b) (eqD (.lst xs) (.lst ys)):=by rw [e]; exact SeqAt.RcAt.lists_lengths t1 t2 hne (by omega)
   refine ⟨rc,by rw [e]; exact SeqAt.RcNeAt.lists_lengths t1 t2 hne (by omega),?_⟩
   refine SeqAt.EqAt.of_refs (fun hab=>?_) rc
   subst hab
   have:=ZeL (.L sh) h1 h2 r1' r2'
   cases this
   simp at hsz; omega
theorem eqs_sh (I:Inv X pins σ H s) (sB:Same B H):∀ (ss:List Sh) {A:Around} {xs ys:List D} {vs ws:List V} {us us':List Value},hass ss xs=true→hass ss ys=true→Reps X.K B vs xs→Reps X.K B ws ys→Vals vs us→Vals ws us'→A.units + deps ss < cLine →
  ∀ j (h1:j < us.length) (h2:j < us'.length),SeqAt.EqAt A s us[j] us'[j] (eqO xs ys j)
 | [],A,[],ys,_,_,_,_,h1,h2,.nil,r2,.nil,l2,hu,j,g1,g2=>absurd g1 (by simp)
 | [],A,x :: xs,ys,_,_,_,_,h1,h2,r1,r2,l1,l2,hu,j,g1,g2=>by simp [hass] at h1
 | s :: ss,A,[],ys,vs,ws,us,us',h1,h2,r1,r2,l1,l2,hu,j,g1,g2=>by simp [hass] at h1
 | s :: ss,A,x :: xs,[],vs,ws,us,us',h1,h2,r1,r2,l1,l2,hu,j,g1,g2=>by simp [hass] at h2
 | s :: ss,A,x :: xs,y :: ys,v :: vs,w :: ws,u :: us,u' :: us',h1,h2,.cons a1 b1,.cons a2 b2,.cons c1 d1,.cons c2 d2,hu,0,g1,g2=>by
  have h1':has s x=true:=by simp [hass] at h1; exact h1.1
  have h2':has s y=true:=by simp [hass] at h2; exact h2.1
  have dd:deps (s :: ss)=max (dep s) (deps ss):=by simp [deps]
  have:=(ZkA I sB s (A:=A) h1' h2' a1 a2 c1 c2 (by omega)).eq
  rw [ZkW (xs:=x :: xs) (ys:=y :: ys) (j:=0) rfl rfl]
  exact this
 | s :: ss,A,x :: xs,y :: ys,v :: vs,w :: ws,u :: us,u' :: us',h1,h2,.cons a1 b1,.cons a2 b2,.cons c1 d1,.cons c2 d2,hu,j + 1,g1,g2=>by
  have h1':hass ss xs=true:=by simp [hass] at h1; exact h1.2
  have h2':hass ss ys=true:=by simp [hass] at h2; exact h2.2
  have dd:deps (s :: ss)=max (dep s) (deps ss):=by simp [deps]
  have:=eqs_sh I sB ss (A:=A) h1' h2' b1 b2 d1 d2 (by omega) j (by simpa using g1) (by simpa using g2)
  have e:eqO (x :: xs) (y :: ys) (j + 1)=eqO xs ys j:=by
   rw [Bool.eq_iff_iff,Zc2,Zc2]; simp
  rw [e]
  exact this
end
def rEqD (K:PySem.W.Frag) (ng:Bool):R2:=fun x y H Q=>∃ B d e sh,Rep K B x d∧Rep K B y e∧Same B H∧has sh d=true∧has sh e=true∧dep sh≤50∧Q (.bl (if ng then !eqD d e else eqD d e)) H
theorem Zk0 (hu:X.A.units + 64 < cLine):OpR X (compareOp .Eq) (rEqD X.K false):=by
 intro pins s σ H x y v u Q I rx ry h
 obtain ⟨B,d,e,sh,r1,r2,sB,h1,h2,hd,q⟩:=h
 exact (ZkA I sB sh (A:=X.A) h1 h2 r1 r2 rx ry (by omega)).rc _ _ _ _ ⟨.bl _,H,I,rfl,q⟩
theorem op_neD (hu:X.A.units + 64 < cLine):OpR X (compareOp .NotEq) (rEqD X.K true):=by
 intro pins s σ H x y v u Q I rx ry h
 obtain ⟨B,d,e,sh,r1,r2,sB,h1,h2,hd,q⟩:=h
 exact (ZkA I sB sh (A:=X.A) h1 h2 r1 r2 rx ry (by omega)).ne _ _ _ _ ⟨.bl _,H,I,rfl,q⟩
end
section
variable {K:PySem.W.Frag} {X:Cx} {a b:Expr} {ua ub:UE} {pos:Pos}
def uEq (ng:Bool) (ua ub:UE):UE:=fun ρ k=>ua ρ fun x=>ub ρ fun y=>∃ sh,has sh x=true∧has sh y=true∧dep sh≤50∧k (.bl (if ng then !eqD x y else eqD x y))
theorem ZlS {ta tb:TE} {ng:Bool} (ha:RefE K ta ua) (hb:RefE K tb ub):RefE K (tOp (rEqD K ng) ta tb) (uEq ng ua ub) :=
 ref2 ha hb fun x y k h R W B H σ ρ v w Q e rx ry q=>by
  obtain ⟨sh,h1,h2,hd,hk⟩:=h
  exact ⟨B,x,y,sh,rx,ry,e.bh,h1,h2,hd,q _ _ B H hk e (Grow.refl _ _) (.bl _)⟩
theorem e_eq (hu:X.A.units + 64 < cLine) (ha:PE3 X a ua) (hb:PE3 X b ub) (hm:behindInMarks .Eq b=false):PE3 X (.Compare a [.Eq] [b] pos) (uEq false ua ub):=by
 obtain ⟨_,h1,r1⟩:=ha; obtain ⟨_,h2,r2⟩:=hb
 exact ⟨_,Zff (Zk0 hu) h1 h2 hm,ZlS r1 r2⟩
theorem t_eq (hu:X.A.units + 64 < cLine) (ha:PE3 X a ua) (hb:PE3 X b ub) (hm:behindInMarks .Eq b=false):PT3 X (.Compare a [.Eq] [b] pos) (uB (uEq false ua ub)):=by
 obtain ⟨_,h1,r1⟩:=ha; obtain ⟨_,h2,r2⟩:=hb
 exact ⟨_,ZbC (Zk0 hu) h1 h2 hm,refB (ZlS r1 r2)⟩
theorem t_ne (hu:X.A.units + 64 < cLine) (ha:PE3 X a ua) (hb:PE3 X b ub) (hm:behindInMarks .NotEq b=false):PT3 X (.Compare a [.NotEq] [b] pos) (uB (uEq true ua ub)):=by
 obtain ⟨_,h1,r1⟩:=ha; obtain ⟨_,h2,r2⟩:=hb
 exact ⟨_,ZbC (op_neD hu) h1 h2 hm,refB (ZlS r1 r2)⟩
end
end L3
namespace L3
open PySem L2
open PySem.Builtin.Int (intBits)
theorem ZkM {K:PySem.W.Frag} {P:Program} {w:World} {mg:Str→Option Value} {base:Heap} {x qual:Str} {st:Stmt} {f:Addr} {fd:FuncData} {N ps:List Str} {lv n:Nat} {F:FS} (Fd:Fun K x qual st f fd) (S:FnScope N ps (Zad st)) (hn:ps.length=n)
  (hbody:∀ (cdv:Value) (A:Around) (outer:List PySem.Env) (s:Shared) (H:Hp) (E:XK),Room lv (A.deeper (PyProof.Rows.envOfC qual (Zad st) s.heap.objs.size f cdv)) →
   ∃ u,PSs3 (cxOf CX0 P w K mg base N qual (Zad st) f cdv A outer s H E).nox (Zbm st) u∧∀ as k,as.length=n→F as k→u { nx:=fun _=>k (.val .non),rt:=k } (as ++ List.replicate (N.length - n) .no)):FnOk P w K mg base CX0 (lv + 1) f fd ps (Con K n F):=by
 refine Fd.ok S (fun vs H Q E h=>?_) (fun cdv A outer s H vs Q E hr h=>?_)
 ·obtain ⟨W,B,as,k,_,hl,_,_,_,ai,_⟩:=h
  rw [ai.length,hl,hn]
 ·obtain ⟨W,B,as,k,hF,hl,hb,sB,hw,ai,q⟩:=h
  obtain ⟨u,⟨t,ht,rt⟩,hu⟩:=hbody cdv A outer s H E hr
  have ev:=Ev.start (N:=N) (Nat.le_of_ble_eq_true hb) sB hw ai
  rw [hl] at ev
  refine ⟨t,ht,rt _ _ (hu as k hl hF) H W B H (L2.start N vs) _ ev ⟨fun ρ σ B' H' h e g=>?_,fun _ _ _ _ h=>h.elim,fun _ _ _ _ h=>h.elim,fun r v B' H' h e g z=>q r v B' H' h ⟨e,g,z⟩⟩⟩
  exact q _ _ B' H' h ⟨e.toWd,g,.non⟩
def Zkt (K:PySem.W.Frag):Sp:=fun vs H Q _=>∃ (a:Addr) (ns:List Int),vs=[.ref a]∧SqL K H a (ns.map V.int)∧ns.length≤63∧∀ H',Q (.bl true) H'
def F_law:FS:=fun as k=>∃ ns:List Int,as=[.val (.scr ns)]∧ns.length≤63∧k (.val (.bl true))
theorem Zm1 {K:PySem.W.Frag} {vs:List V} {H:Hp} {Q:VK} {E:XK} (h:Zkt K vs H Q E):Con K 1 F_law vs H Q E:=by
 obtain ⟨a,ns,rfl,hS,hl,q⟩:=h
 refine ⟨fun _=>False,H,[.val (.scr ns)],fun r=>r=.val (.bl true),⟨ns,rfl,hl,rfl⟩,rfl,rfl,Same.refl _,fun _ z=>z.elim,.val (.scr hS) .nil,fun r v B' H' hr ex=>?_⟩
 subst hr
 have:=ex.res
 rw [Rep.blV this]
 exact q H'
def ZlA (K:PySem.W.Frag):Sp:=fun vs H Q _=>∃ (a:Addr) (k:Int) (ns:List Int),vs=[.ref a,.int k]∧SqL K H a (ns.map V.int)∧0≤k∧∀ z,Q (.int z) H
def Zid:FS:=fun as k=>∃ (ns:List Int) (i:Int),as=[.val (.scr ns),.val (.int i)]∧0≤i∧∀ z:Int,k (.val (.int z))
theorem Wd.entry {H B:Hp} {W:Addr→Prop} (sB:Same B H) (hw:∀ a,W a→B a=none∧Bag H a):Wd H W B H :=
 ⟨fun _ _ h _=>h,sB,fun a h=>(hw a h).1,fun a h=>(hw a h).2,fun a h=>by obtain ⟨x,y,q,_⟩:=(hw a h).2; rw [q]; simp⟩
theorem ZjO {K:PySem.W.Frag} {vs:List V} {H:Hp} {Q:VK} {E:XK} (h:Con K 2 Zid vs H Q E):ZlA K vs H Q E:=by
 obtain ⟨W,B,as,k,⟨ns,i,rfl,hi,hk⟩,hl,hb,sB,hw,ai,q⟩:=h
 cases ai with
 | val r1 ai=>cases ai with
  | val r2 ai =>
   cases ai
   obtain ⟨a,rfl,ha⟩:=r1.scrV
   cases r2.intV
   exact ⟨a,i,ns,rfl,sB.seq ha,hi,fun z=>q _ _ B H (hk z) ⟨Wd.entry sB hw,Grow.refl _ _,.int z⟩⟩
def spBag:Sp:=fun vs H Q _=>∃ c:Int,vs=[.int c]∧∀ (b:Addr) (x y:Int),H b=none→0≤x→0≤y→y < 2147483647→Q (.ref b) (upd H b (.lst [.int x,.int y]))
def ZmT:FS:=fun as k=>∃ c:Int,as=[.val (.int c)]∧k .bag
theorem ZmB {K:PySem.W.Frag} {vs:List V} {H:Hp} {Q:VK} {E:XK} (h:Con K 1 ZmT vs H Q E):spBag vs H Q E:=by
 obtain ⟨W,B,as,k,⟨c,rfl,hk⟩,hl,hb,sB,hw,ai,q⟩:=h
 cases ai with
 | val r1 ai =>
  cases ai
  cases r1.intV
  refine ⟨c,rfl,fun b x y hn x0 y0 y1=>?_⟩
  have wd:=Wd.entry sB hw
  exact q .bag _ B _ hk ⟨wd.allocH hn _,Grow.refl _ _,b,rfl,hn,(wd.fresh hn).2.2,x,y,Zal,x0,y0,y1⟩
def Zlz (lim:Nat):Sp:=fun vs H Q _=>∃ (b:Addr) (m:Int),vs=[.ref b,.int m]∧Bag H b∧0 < m∧intBits m≤lim∧∀ (r:Int) (H':Hp),Ext b H H'→Bag H' b→0≤r→r < m→Q (.int r) H'
def ZcJ (lim:Nat):FS:=fun as k=>∃ m:Int,as=[.bag,.val (.int m)]∧0 < m∧intBits m≤lim∧∀ r:Int,0≤r→r < m→k (.val (.int r))
theorem Zkb {K:PySem.W.Frag} {lim:Nat} {vs:List V} {H:Hp} {Q:VK} {E:XK} (h:Con K 2 (ZcJ lim) vs H Q E):Zlz lim vs H Q E:=by
 obtain ⟨W,B,as,k,⟨m,rfl,m0,mb,hk⟩,hl,hb,sB,hw,ai,q⟩:=h
 cases ai with
 | bag hW ai=>cases ai with
  | val r2 ai =>
   cases ai
   cases r2.intV
   rename_i b
   refine ⟨b,m,rfl,(hw b hW).2,m0,mb,fun r H' ex bg r0 r1=>?_⟩
   have wd:=Wd.entry sB hw
   refine q _ _ B H' (hk r r0 r1) ⟨⟨fun a o h1 h2=>ex a o (by rintro rfl; exact h2 hW) h1,fun a o h1=>ex a o (by rintro rfl; rw [(hw _ hW).1] at h1; cases h1) (sB a o h1),wd.wb,fun a z=>?_,wd.wr⟩,Grow.refl _ _,.int r⟩
   by_cases e:a=b
   ·subst e; exact bg
   ·obtain ⟨x,y,h1,h2⟩:=(hw a z).2
    exact ⟨x,y,ex a _ e h1,h2⟩
theorem Zhl {c:Bool} {A B:Prop} (h:c=true) (a:A):if c=true then A else B:=by rw [if_pos h]; exact a
theorem Zdr {c:Bool} {A B:Prop} (h:c=false) (b:B):if c=true then A else B:=by rw [h,if_neg Bool.false_ne_true]; exact b
theorem neIf {x y:D} {A B:Prop} (h1:x≠y→A) (h2:x=y→B):if (!eqD x y)=true then A else B:=by
 by_cases h:x=y
 ·rw [eqD_iff.mpr h]; exact h2 h
 ·have:eqD x y=false:=by
   cases q:eqD x y with
   | false=>rfl
   | true=>exact absurd (eqD_iff.mp q) h
  rw [this]; exact h1 h
theorem at3 {u:US} {U:UEnds} {ρ r:List Sl} (e:ρ=r) (h:u U r):u U ρ:=by rw [e]; exact h
theorem pass4 {s t:US} {U:UEnds} {ρ:List Sl} (first:∀ N:List Sl→Prop,N ρ→s { U with nx:=N } ρ) (rest:t U ρ):uSeq s t U ρ:=first (t U) rest
theorem mid4 {s t:US} {U:UEnds} {ρ:List Sl} (I:List Sl→Prop) (rest:∀ ρ',I ρ'→t U ρ') (first:∀ N:List Sl→Prop,(∀ ρ',I ρ'→N ρ')→s { U with nx:=N } ρ):uSeq s t U ρ:=first _ rest
theorem ZfP {g:UG} {s:US} {U:UEnds} (I:Nat→List Sl→Prop):∀ {ds:List D} {n:Nat} {ρ:List Sl},I n ρ →
  (∀ i d ρ,ds[i]?=some d→I (n + i) ρ→g d ρ fun ρ'=>∀ N:List Sl→Prop,(∀ ρ'',I (n + i + 1) ρ''→N ρ'')→s { U with nx:=N,ct:=N,bk:=U.nx } ρ') →
  (∀ ρ,I (n + ds.length) ρ→U.nx ρ)→(∀ d ρ (k k':List Sl→Prop),(∀ r,k r→k' r)→g d ρ k→g d ρ k')→forR g s U ds ρ
 | [],n,ρ,h0,_,h2,_=>h2 ρ h0
 | d :: ds,n,ρ,h0,h1,h2,hg=>by
  refine hg d ρ _ _ (fun ρ' z=>z _ fun ρ'' q=>?_) (h1 0 d ρ rfl h0)
  exact ZfP I (n:=n + 1) q (fun i e ρ he hi=>by
   have:=h1 (i + 1) e ρ (by simpa using he) (by rw [show n + (i + 1)=n + 1 + i by omega]; exact hi)
   rw [show n + (i + 1) + 1=n + 1 + i + 1 by omega] at this
   exact this) (fun ρ h=>h2 ρ (by rw [List.length_cons,show n + (ds.length + 1)=n + 1 + ds.length by omega]; exact h)) hg
theorem Zfa {s:US} {U:UEnds} {n:Nat} (I:List Sl→Prop):∀ {ds:List D} {ρ:List Sl},I ρ→(∀ d∈ds,∃ c:Int,d=.int c) →
  (∀ (c:Int) ρ,I ρ→∀ N:List Sl→Prop,(∀ r,I r→N r)→s { U with nx:=N,ct:=N,bk:=U.nx } (ρ.set n (.val (.int c))))→(∀ ρ,I ρ→U.nx ρ)→forR (Zay n) s U ds ρ
 | [],ρ,h0,_,_,h2=>h2 ρ h0
 | d :: ds,ρ,h0,hd,h1,h2=>by
  obtain ⟨c,rfl⟩:=hd d List.mem_cons_self
  exact h1 c ρ h0 _ fun r hr=>Zfa I hr (fun e he=>hd e (List.mem_cons_of_mem _ he)) h1 h2
theorem Zfg {α:Type} (xs:List α) (lo hi:Option Int):(cutL xs lo hi).length≤xs.length:=by
 unfold cutL
 rw [List.length_take,List.length_drop]
 omega
theorem ZjS {α:Type} {xs:List α} {lo hi:Option Int} {x:α} (h:x∈cutL xs lo hi):x∈xs:=List.mem_of_mem_drop (List.mem_of_mem_take h)
theorem Zih {z:Int} {ns:List Int} {lo hi:Option Int}:∀ d∈[D.int z] ++ cutL (ns.map D.int) lo hi,∃ c:Int,d=.int c:=fun d hd=>by
 rcases List.mem_append.mp hd with h | h
 ·exact ⟨z,by simpa using h⟩
 ·obtain ⟨i,_,e⟩:=List.mem_map.mp (ZjS h)
  exact ⟨i,e.symm⟩
theorem ZmZ {z:Int} {ns:List Int} {lo hi:Option Int} (h:ns.length≤63):[D.int z].length + (cutL (ns.map D.int) lo hi).length≤sizeLine:=by
 have h1:=Zfg (ns.map D.int) lo hi
 rw [List.length_map] at h1
 have:64≤sizeLine:=by decide
 simp only [List.length_singleton]
 omega
end L3
namespace L3
open PySem L2
section
variable {X:Cx}
theorem Za2 {cl cs:List (Str×Addr)} (h:∀ p∈cl,cs.lookup p.1=some p.2):∀ y c,cl.lookup y=some c→cs.lookup y=some c:=fun y c e=>h (y,c) (PySem.mem_of_lookup e)
theorem ZbA {names:List (Str×NameKind)} {cl:List (Str×Addr)} (h:(names.all fun p => !(p.2 == .cell || p.2 == .free) || (cl.lookup p.1).isSome)=true):∀ y,(names.lookup y=some .cell∨names.lookup y=some .free)→∃ c,cl.lookup y=some c:=fun y e=>by
 have key:∀ k:NameKind,(k == .cell || k == .free)=true→names.lookup y=some k→∃ c,cl.lookup y=some c:=fun k hk e=>by
  have q:=List.all_eq_true.mp h (y,k) (PySem.mem_of_lookup e)
  have q:(!(k == .cell || k == .free) || (cl.lookup y).isSome)=true:=q
  rw [hk] at q
  exact Option.isSome_iff_exists.mp (by simpa using q)
 rcases e with e | e
 ·exact key _ rfl e
 ·exact key _ rfl e
end
end L3
namespace L2
open PySem PySem.Spec PyProof.Rows
def PIfs (X:Cx) (ifs:List Expr) (tt:TT):Prop:=∀ (pins:List (Addr×Obj)) (s:Shared) (σ:St) (H:Hp) (Q:Bool→Hp→Prop),Inv X pins σ H s→tt σ H Q →
 wpAny (model X.prog X.w) X.A (forIn ifs true fun t r=>if r=true then do let z ← isTrue t X.env (eval t X.env); pure (ForInStep.yield z) else pure (ForInStep.yield r)) (TP X pins σ Q) X.xe s
def tTrue:TT:=fun _ H Q=>Q true H
theorem ZkK {X:Cx}:PIfs X [] tTrue:=fun _ _ _ H _ I h=>wpAny_tests_nil ⟨H,I,h⟩
theorem ZjP {X:Cx} {c:Expr} {tt:TT} (h:PT X c tt):PIfs X [c] tt:=fun pins s σ H Q I q=>wpAny_tests_one (h pins s σ H Q I q)
theorem ZgU {P:Program} {w:World} {A:Around} {R:Result→Shared→Prop} {s:Shared} {elt tg src:Expr} {ifs:List Expr} {sc:Scope} {ps:Pos} {itv acc:Value} {env:PySem.Env} (Iv:Nat→Shared→Prop) (n:Nat) (h0:Iv n s)
  (turn:∀ n s,Iv n s→wpAny (model P w) A (pyNext itv) (fun r s1=>match r with
   | none=>R (.ok .next) s1
   | some v=>wpAny (model P w) A (letOwnedTupleGo tg itv v) (fun _ sg=>wpAny (model P w) A (assign tg env v) (fun _ s2 =>
     wpAny (model P w) A (forIn ifs true fun t r=>if r=true then do let z ← isTrue t env (eval t env); pure (ForInStep.yield z) else pure (ForInStep.yield r)) (fun z s3 =>
      if z=true then wpAny (model P w) A (eval elt env) (fun y s4=>wpAny (model P w) A (call (.builtin "list.append") [acc,y]) (fun _ s5=>∃ m,m < n∧Iv m s5) (notedBy (model P w) A env fun e s'=>R (.error e) s') s4) (notedBy (model P w) A env fun e s'=>R (.error e) s') s3
      else ∃ m,m < n∧Iv m s3) (notedBy (model P w) A env fun e s'=>R (.error e) s') s2) (notedBy (model P w) A env fun e s'=>R (.error e) s') sg) (notedBy (model P w) A env fun e s'=>R (.error e) s') s1) (notedBy (model P w) A env fun e s'=>R (.error e) s') s) :
  codeAny (model P w) A (.compLoop (.ListComp elt [⟨tg,src,ifs,0⟩] sc ps) 0 itv acc env) R s:=by
 refine codeAny_loop rfl Iv (fun k s' hv=>?_) n h0
 show wpAny _ A ((compTurn (.ListComp elt [⟨tg,src,ifs,0⟩] sc ps) 0 itv acc env).onRaise (fun z=>do noteFrame z env; theTreesLotGoes z)) _ _ s'
 rw [compTurn_list]
 refine wpAny_noted (wpAny_bind (wpAny_standAt (wpAny_bind (wpAny_mono (turn k s' hv) (fun r s1 h1=>?_) fun _ _ z=>z))))
 cases r with
 | none=>exact wpAny_pure h1
 | some v =>
  refine wpAny_bind (wpAny_mono h1 (fun _ sg hg=>wpAny_bind (wpAny_mono hg (fun _ s2 h2=>wpAny_bind (wpAny_mono h2 (fun z s3 h3=>?_) fun _ _ q=>q)) fun _ _ q=>q)) fun _ _ q=>q)
  cases z with
  | false=>exact wpAny_pure ⟨rfl,h3⟩
  | true=>exact wpAny_bind (wpAny_bind (wpAny_mono h3 (fun y s4 h4=>wpAny_bind (wpAny_mono h4 (fun _ s5 h5=>wpAny_pure (wpAny_pure ⟨rfl,h5⟩)) fun _ _ q=>q)) fun _ _ q=>q))
def CompG (J:It) (g:TG) (tt:TT) (te:TE) (σ0:St) (D:Addr) (H1:Hp) (Q:VK):Prop:=∃ W:Nat→Nat→St→Hp→Prop,(∃ m,W 0 m σ0 (upd H1 D (.lst [])))∧∀ i m σ H,W i m σ H →
 (J.stop i H∧Q (.ref D) H)∨(J.go i H∧∀ x H',J.yld i H x H'→g x σ H' fun σ2 H2=>tt σ2 H2 fun b H3=>if b=true then te σ2 H3 fun y H4=>∃ ys,H4 D=some (.lst ys)∧ys.length < sizeLine∧∃ m',m' < m∧W (i + 1) m' σ2 (upd H4 D (.lst (ys ++ [y]))) else ∃ m',m' < m∧W (i + 1) m' σ2 H3)
def ZgG (wi:TI) (g:TG) (tt:TT) (te:TE) (nt:Nat) (js:List Nat):TE:=fun σ H Q=>wi σ H fun J H1=>∀ D,H1 D=none→CompG J g tt te (List.replicate nt none ++ Zby σ js) D H1 Q
section
variable {X:Cx}
structure FreeOk (X:Cx) (scope:Scope) (cl:List (Str×Addr)) (fr:List Str) (js:List Nat):Prop where
 clos:closureFor scope X.env=pure cl
 cell:∀ y∈scope.names,y.2≠.cell
 kind:scope.kind=.function
 names:∀ y∈scope.names,y.2=.local→scope.names.lookup y.1=some .local
 sub:∀ y c,cl.lookup y=some c→X.env.cells.lookup y=some c
 has:∀ y,((relabel scope X.env).names.lookup y=some .cell∨(relabel scope X.env).names.lookup y=some .free)→∃ c,cl.lookup y=some c
 frn:∀ (i:Nat) (y:Str),fr[i]?=some y→∃ j:Nat,js[i]?=some j∧X.N[j]?=some y∧X.env.kindOf y=some .cell∧((relabel scope X.env).names.lookup y=some .cell∨(relabel scope X.env).names.lookup y=some .free)∧∃ c,cl.lookup y=some c
 len:js.length=fr.length
theorem Zg8 {elt iter tg:Expr} {ifs:List Expr} {pos:Pos} {scope:Scope} {cl:List (Str×Addr)} {ts fr:List Str} {js:List Nat} {wi:TI} {g:TG} {tt:TT} {te:TE} {use:Option (Value→Sem Unit)} {RQ:Value→Shared→Prop} {QE:VK}
  (hi:PI X tg iter wi) (hg:∀ C s H ex,PG (ZaA X (ts ++ fr) scope cl C s H ex) tg g) (hts:∀ C s H ex,PIfs (ZaA X (ts ++ fr) scope cl C s H ex) ifs tt) (helt:∀ C s H ex,PE (ZaA X (ts ++ fr) scope cl C s H ex) elt te)
  (F:FreeOk X scope cl fr js) (hc:X.calm=true) (hs:∀ v,foldedSetIterable iter X.env v=pure v)
  {pins:List (Addr×Obj)} {s:Shared} {σ:St} {H:Hp} (I:Inv X pins σ H s) (h:ZgG wi g tt te ts.length js σ H QE) (newAcc:Sem Value) (hnew:newAcc=newList []) (pp:Pos)
  (hR:∀ (D C:Addr) (H5:Hp) (s6:Shared) (m:Str→Option Value),s6.heap.Ns C m→H5 C=none→C≠X.env.locals→X.s₀.heap.objs.size≤C→(∀ x c,X.env.cells.lookup x=some c→c≠C)→(∀ p∈X.pn ++ pins,p.1≠C)→C ∉ X.fs →
   (∀ h':Heap,(∀ b u,b≠C→s6.heap.get? b=some u→h'.get? b=some u)→Inv X pins σ H5 { s6 with heap:=h' })→QE (.ref D) H5→compPost (model X.prog X.w) X.A X.xe use RQ (.ref D) C (.ok .next) s6) :
  wpAny (model X.prog X.w) X.A (comprehension (.ListComp elt [⟨tg,iter,ifs,0⟩] scope pos) scope X.env pp newAcc false (eval iter X.env) use) RQ X.xe s:=by
 refine wpAny_comprehension_free (use:=use) rfl hs F.clos F.kind F.names (thn (hi pins s σ H _ I h) fun xv s1 h1=>thn h1 fun itv s2 h2=>?_)
 obtain ⟨it,fp,tn,J,H2,rfl,I2,T,st2,f2,h2⟩:=h2
 have hD:H2 s2.heap.objs.size=none:=I2.fresh
 obtain ⟨W,⟨m0,w0⟩,turn⟩:=h2 _ hD
 rw [hnew]
 refine wpAny_newObj_type ?_
 have I3:Inv X pins σ (upd H2 s2.heap.objs.size (.lst [])) { s2 with heap:=s2.heap.push { cls:=.type "list", data:=.seq ([]:List Value).toArray } }:=I2.lnew (t':=s2.toks) (its:=[]) .nil (by show 0≤sizeLine; decide)
 generalize hs3:({ s2 with heap:=s2.heap.push { cls:=.type "list", data:=.seq ([]:List Value).toArray } }:Shared)=s3 at I3
 have e3:s3.heap=s2.heap.push { cls:=.type "list", data:=.seq ([]:List Value).toArray }:=by rw [← hs3]
 generalize hH3:upd H2 s2.heap.objs.size (.lst [])=H3 at I3 w0
 generalize hDD:s2.heap.objs.size=D at hD hH3 w0 turn
 have k3:∀ b o,s2.heap.get? b=some o→s3.heap.get? b=some o:=fun b o e=>by rw [e3]; exact Heap.get?_push_of_some _ e
 have f3:∀ b∈fp,FpOk X pins H3 b:=fun b hb=>by
  obtain ⟨o,ho,_⟩:=T.obj _ _ st2 b hb
  have lt:=Heap.lt_size ho
  refine ⟨?_,(f2 b hb).2⟩
  rw [← hH3,Zak (by rw [← hDD]; exact Nat.ne_of_lt lt)]
  exact (f2 b hb).1
 refine wpAny_newFunctionEnv F.cell (by intro y hy; simp at hy) (fun h1 hns hsb=>?_) F.kind
 have hC3:s3.heap.get? s3.heap.objs.size=none:=Heap.get?_none_of_le (Nat.le_refl _)
 have k4:∀ b o,s3.heap.get? b=some o→h1.get? b=some o:=fun b o e=>hsb.extBut b o (Nat.ne_of_lt (Heap.lt_size e)) (Heap.get?_push_of_some _ e)
 show codeAny (model X.prog X.w) X.A (.compStart (.ListComp elt [⟨tg,iter,ifs,0⟩] scope pos) 0 (.ref it) (.ref D) (compEnvC scope cl s3.heap.objs.size X.env)) (compPost (model X.prog X.w) X.A X.xe use RQ (.ref D) s3.heap.objs.size) _
 have ok:(ZaA X (ts ++ fr) scope cl s3.heap.objs.size s3 H3 fp).Ok:=by
  refine ⟨I3.ok.mod,F.kind,I3.ok.glob,I3.ok.blt,Nat.le_refl _,fun y z c e1 e2=>I3.ok.inj y z c (F.sub _ _ e1) (F.sub _ _ e2),fun y hy=>F.has y hy,fun y c z=>absurd z Bool.false_ne_true,I3.ok.hd,I3.ok.frames,.inl rfl,fun b hb=>?_,I3.bs,Nat.le_trans I3.ok.bsz I3.sz,
   fun b o e hb=>?_,fun b hb hf=>?_,I3.stack,I3.stkFree⟩
  ·obtain ⟨o,ho,_⟩:=T.obj _ _ st2 b hb
   exact ⟨Nat.ne_of_lt (Heap.lt_size (k3 b o ho)),fun y c e=>(f3 b hb).2.2.2.2.1 y c (F.sub _ _ e)⟩
  ·obtain ⟨_,_,_,z,_⟩:=f3 b hb
   rcases z with z | z
   ·exact I3.ok.noex b o e z
   ·exact absurd (Nat.lt_of_lt_of_le (Heap.lt_size (I3.ok.bs b o e).1) z) (Nat.lt_irrefl _)
  ·rcases List.mem_cons.mp (I3.stkSub b hf) with z | z
   ·exact (f3 b hb).2.1 z
   ·exact (f3 b hb).2.2.1 z
 have frV:∀ (hh:Heap),(∀ b u,s3.heap.get? b=some u→hh.get? b=some u)→∀ (i:Nat) (y:Str) (v:V),fr[i]?=some y→(Zby σ js)[i]?=some (some v)→∃ u,RelV v u∧∀ m,Look (compEnvC scope cl s3.heap.objs.size X.env) hh m y u:=fun hh kk i y v e1 e2=>by
  obtain ⟨j,ej,eN,hk,hkin,c,hcl⟩:=F.frn i y e1
  have e2':σ[j]?=some (some v):=by
   unfold Zby at e2
   rw [List.getElem?_map,ej,Option.map_some] at e2
   have e2:=Option.some.inj e2
   cases q:σ[j]? with
   | none=>rw [q] at e2; simp at e2
   | some z=>rw [q] at e2; simpa using e2
  obtain ⟨m,hn,hl⟩:=I3.loc
  obtain ⟨u,r,l⟩:=hl j y v eN e2' (.inr (.inl hk))
  refine ⟨u,r,fun m'=>.inr ⟨hkin,c,hcl,?_⟩⟩
  rcases l with ⟨z,_⟩ | ⟨_,c',hc',hce⟩
  ·rw [hk] at z; cases z
  ·have e:=F.sub _ _ hcl
   rw [hc'] at e; cases e
   obtain ⟨oo,q1,q2⟩:=hce
   exact ⟨oo,kk _ _ q1,q2⟩
 have I4:Inv (ZaA X (ts ++ fr) scope cl s3.heap.objs.size s3 H3 fp) [] (List.replicate ts.length none ++ Zby σ js) H3 { s3 with heap:=h1,toks:=s3.toks + ([]:List (Str×Value)).length }:=by
  refine ⟨ok,rfl,I3.bare,Un.kept k4,⟨_,hns,fun i y v e1 e2 e3=>?_⟩,fun y c e=>?_,I3.fresh,fun y c e=>I3.freeC y c (F.sub _ _ e),fun p hp=>absurd (show p∈([]:List (Addr×Obj)) from hp) (by simp),I3.hok.kept k4,?_⟩
  ·by_cases hlt:i < ts.length
   ·rw [List.getElem?_append_left (by simpa using hlt),List.getElem?_replicate,if_pos hlt] at e2
    cases e2
   ·have e1:(ts ++ fr)[i]?=some y:=e1
    rw [List.getElem?_append_right (by omega)] at e1
    rw [List.getElem?_append_right (by simp; omega),List.length_replicate] at e2
    obtain ⟨u,r,l⟩:=frV h1 k4 _ y v e1 e2
    exact ⟨u,r,l _⟩
  ·obtain ⟨v,oo,q1,q2⟩:=I3.cell y c (F.sub _ _ e)
   exact ⟨v,oo,k4 _ _ q1,q2⟩
  ·show _=(ts ++ fr).length
   rw [List.length_append,List.length_append,List.length_replicate]
   unfold Zby
   rw [List.length_map,F.len]
 have stat:∀ {H':Hp},(∀ b∈fp,H' b=none)→∀ b∈fp,FpOk (ZaA X (ts ++ fr) scope cl s3.heap.objs.size s3 H3 fp) [] H' b:=fun hn b hb=>by
  obtain ⟨o,ho,_⟩:=T.obj _ _ st2 b hb
  exact ⟨hn b hb,(ok.exf b hb).1,ok.exfs b hb,.inl hb,(ok.exf b hb).2,fun p hp=>absurd (show p∈([]:List (Addr×Obj)) from hp) (by simp)⟩
 have loop:∀ s4:Shared,s4={ s3 with heap:=h1,toks:=s3.toks + ([]:List (Str×Value)).length } →
   codeAny (model X.prog X.w) X.A (.compLoop (.ListComp elt [⟨tg,iter,ifs,0⟩] scope pos) 0 (.ref it) (.ref D) (compEnvC scope cl s3.heap.objs.size X.env)) (compPost (model X.prog X.w) X.A X.xe use RQ (.ref D) s3.heap.objs.size) s4:=by
  intro s4 e4
  rw [← e4] at I4
  have st4:tn 0 s4.heap:=T.keep _ _ _ st2 fun b _ o e=>by rw [e4]; exact k4 b o (k3 b o e)
  refine ZgU (fun n s'=>∃ i σ' H',Inv (ZaA X (ts ++ fr) scope cl s3.heap.objs.size s3 H3 fp) [] σ' H' s'∧tn i s'.heap∧(∀ b∈fp,H' b=none)∧W i n σ' H') m0 ⟨0,_,H3,I4,st4,fun b hb=>(f3 b hb).1,w0⟩ ?_
  rintro n s5 ⟨i,σ5,H5,I5,st5,fr5,w5⟩
  rcases turn i n σ5 H5 w5 with ⟨stop,q⟩ | ⟨go,step⟩
  ·refine thn (T.done (ZaA X (ts ++ fr) scope cl s3.heap.objs.size s3 H3 fp) rfl rfl rfl hc i [] s5 σ5 H5 _ I5 (stat fr5) st5 stop) fun r s6 ⟨hr,I6⟩=>?_
   subst hr
   obtain ⟨m,hn,_⟩:=id I6.loc
   refine hR D s3.heap.objs.size H5 s6 m hn I6.free (Nat.ne_of_gt I3.lt) I3.sz (fun y c e z=>?_) (fun p hp z=>?_) (I3.nofs (Nat.le_refl _)) (fun h' kb=>?_) q
   ·obtain ⟨v,oo,q1,q2⟩:=I3.cell y c e
    exact absurd (Heap.lt_size q1) (by rw [z]; exact Nat.lt_irrefl _)
   ·exact absurd (Heap.lt_size (I3.pin p hp).1) (by rw [z]; exact Nat.lt_irrefl _)
   ·refine I3.call' (s':={ s6 with heap:=h' }) (ch:=fp) I6.os ((show Un (frs X.stack) fp H3 H5 s3.heap s6.heap from I6.base).but hC3 kb) (I6.hok.but I6.free kb) I6.bare (fun b hb=>?_)
    obtain ⟨_,z1,_,z3,z4,z5⟩:=f3 b hb
    exact ⟨z3,z1,z4,z5⟩
  ·refine thn (T.item (ZaA X (ts ++ fr) scope cl s3.heap.objs.size s3 H3 fp) rfl rfl rfl hc i [] s5 σ5 H5 _ I5 (stat fr5) st5 go) fun r s6 ⟨u,hr,h6⟩=>?_
   subst hr
   refine thn h6 fun _ s7 ⟨v,H7,I7,r7,y7,st7,fr7⟩=>?_
   have I7':=I7.pinned (stat fr7) (T.obj _ _ st7)
   have back:∀ {s9:Shared} {σ9:St} {H9:Hp} {n':Nat},Inv (ZaA X (ts ++ fr) scope cl s3.heap.objs.size s3 H3 fp) ([] ++ Ze4 fp s7.heap) σ9 H9 s9→W (i + 1) n' σ9 H9→∃ i σ' H',Inv (ZaA X (ts ++ fr) scope cl s3.heap.objs.size s3 H3 fp) [] σ' H' s9∧tn i s9.heap∧(∀ b∈fp,H' b=none)∧W i n' σ' H':=fun {s9 σ9 H9 n'} I9 w9=>by
    refine ⟨i + 1,σ9,H9,I9.unpinned (pins:=[]),T.keep _ _ _ st7 fun b hb oo ee=>(I9.pin (b,oo) (List.mem_append_right _ (List.mem_append_right _ (Zbu hb ee)))).1,fun b hb=>?_,w9⟩
    obtain ⟨oo,ee,_⟩:=T.obj _ _ st7 b hb
    exact (I9.pin (b,oo) (List.mem_append_right _ (List.mem_append_right _ (Zbu hb ee)))).2.1
   refine wpAny_mono (hg s3.heap.objs.size s3 H3 fp _ s7 σ5 H7 v u _ I7' r7 (step v H7 y7)) (fun _ s8 ⟨σ8,H8,I8,q8⟩=>?_) (fun _ _ z=>z.elim)
   refine wpAny_mono (hts s3.heap.objs.size s3 H3 fp _ s8 σ8 H8 _ I8 q8) (fun b s9 ⟨H9,I9,q9⟩=>?_) (fun _ _ z=>z.elim)
   cases b with
   | false =>
    rw [if_neg Bool.false_ne_true] at q9 ⊢
    obtain ⟨m',lm,w9⟩:=q9
    exact ⟨m',lm,back I9 w9⟩
   | true =>
    rw [if_pos rfl] at q9 ⊢
    refine wpAny_mono (helt s3.heap.objs.size s3 H3 fp _ s9 _ H9 _ I9 q9) (fun yv s10 ⟨y,H10,I10,r10,ys,e10,l10,m',lm,w10⟩=>?_) (fun _ _ z=>z.elim)
    have mt:=ZeD (X:=ZaA X (ts ++ fr) scope cl s3.heap.objs.size s3 H3 fp) _ s10 _ H10 (.ref D) [y] (.ref D) [yv] (fun _ H'=>H'=upd H10 D (.lst (ys ++ [y]))) I10 rfl (.cons r10 .nil) ⟨D,ys,y,rfl,rfl,e10,l10,rfl⟩
    refine wpAny_mono mt (fun _ s11 ⟨_,H11,I11,_,e11⟩=>?_) (fun _ _ z=>z.elim)
    subst e11
    exact ⟨m',lm,back I11 w10⟩
 exact codeAny_compStart_list (loop _ rfl) (T.self _ 0 _ _ _ (T.keep _ _ _ st2 fun b _ o e=>k4 b o (k3 b o e)) (loop _ rfl))
theorem ZfZ {elt iter tg:Expr} {ifs:List Expr} {pos:Pos} {scope:Scope} {cl:List (Str×Addr)} {ts fr:List Str} {js:List Nat} {wi:TI} {g:TG} {tt:TT} {te:TE}
  (hi:PI X tg iter wi) (hg:∀ C s H ex,PG (ZaA X (ts ++ fr) scope cl C s H ex) tg g) (hts:∀ C s H ex,PIfs (ZaA X (ts ++ fr) scope cl C s H ex) ifs tt) (helt:∀ C s H ex,PE (ZaA X (ts ++ fr) scope cl C s H ex) elt te)
  (F:FreeOk X scope cl fr js) (hc:X.calm=true) (hs:∀ v,foldedSetIterable iter X.env v=pure v):PE X (.ListComp elt [⟨tg,iter,ifs,0⟩] scope pos) (ZgG wi g tt te ts.length js):=by
 intro pins s σ H Q I h
 rw [eval_ListComp]
 refine Zg8 hi hg hts helt F hc hs I h _ rfl _ fun D C H5 s6 m hn _ _ _ _ _ _ iv q=>⟨m,hn,fun h' hs'=>⟨.ref D,H5,iv h' fun b u hb e=>hs'.extBut b u hb e,rfl,q⟩⟩
end
end L2
namespace L3
open PySem L2
def Za8 (g:UG) (ut:UT) (u:UE):List D→List Sl→(List D→Prop)→Prop
 | [],_,k=>k []
 | d :: ds,ρ,k=>g d ρ fun ρ1=>ut ρ1 fun b=>if b=true then u ρ1 fun y=>Za8 g ut u ds ρ1 fun ys=>k (y :: ys) else Za8 g ut u ds ρ1 k
def Zbd:UT:=fun _ k=>k true
def Zgt (w:UL) (g:UG) (ut:UT) (u:UE) (nt:Nat) (js:List Nat):UL:=fun ρ k=>w ρ fun ds=>ds.length≤sizeLine∧Za8 g ut u ds (List.replicate nt .no ++ js.map (frS ρ)) k
section
variable {K:PySem.W.Frag} {X:Cx} {e:Expr} {es:List Expr} {u:UE} {w:UL} {pos p:Pos}
theorem ZcP {ρ:List Sl} (j:Nat):frS ρ j=.no∨(∃ d,frS ρ j=.val d∧ρ[j]?=some (.val d))∨(frS ρ j=.bag∧ρ[j]?=some .bag):=by
 unfold frS
 split
 ·rename_i d hj; exact .inr (.inl ⟨d,rfl,hj⟩)
 ·rename_i hj; exact .inr (.inr ⟨rfl,hj⟩)
 ·exact .inl rfl
theorem Ev.within {R:Hp} {W:Addr→Prop} {B H:Hp} {σ:St} {ρ:List Sl} (e:Ev K R W B H σ ρ) (nt:Nat) {js:List Nat} (hnd:js.Nodup) :
  Ev K H (fun a=>∃ j,j∈js∧σ[j]?=some (some (.ref a))∧ρ[j]?=some .bag) B H (List.replicate nt none ++ Zby σ js) (List.replicate nt .no ++ js.map (frS ρ)):=by
 have bg:∀ (a:Addr) (j:Nat),σ[j]?=some (some (V.ref a))→ρ[j]?=some Sl.bag→B a=none∧Bag H a:=fun a j z1 z2=>by
  obtain ⟨c,c1,_,c3,c4⟩:=e.bagAt z2
  rw [z1] at c1; cases c1; exact ⟨c3,c4⟩
 refine ⟨⟨fun _ _ z _=>z,e.bh,fun a ⟨j,_,z1,z2⟩=>(bg a j z1 z2).1,fun a ⟨j,_,z1,z2⟩=>(bg a j z1 z2).2,fun a ⟨j,_,z1,z2⟩=>?_⟩,?_,fun n kk hk=>?_,fun n m a m1 m2=>?_⟩
 ·obtain ⟨x,y,q,_⟩:=(bg a j z1 z2).2
  rw [q]; simp
 ·unfold Zby; simp
 ·by_cases hlt:n < nt
  ·rw [List.getElem?_append_left (by simpa using hlt),List.getElem?_replicate,if_pos hlt] at hk
   cases hk; trivial
  ·rw [List.getElem?_append_right (by simp; omega),List.length_replicate,List.getElem?_map] at hk
   cases qj:js[n - nt]? with
   | none=>rw [qj] at hk; cases hk
   | some j =>
    rw [qj] at hk
    have hk:=Option.some.inj hk
    have eo:((List.replicate nt none ++ Zby σ js)[n]?).join=(σ[j]?).join:=by
     rw [List.getElem?_append_right (by simp; omega),List.length_replicate]
     unfold Zby
     rw [List.getElem?_map,qj]
     rfl
    rw [eo,← hk]
    rcases ZcP (ρ:=ρ) j with z | ⟨dd,z,hj⟩ | ⟨z,hj⟩ <;> rw [z]
    ·trivial
    ·obtain ⟨v,v1,v2⟩:=e.ok j _ hj
     exact ⟨v,v1,v2⟩
    ·obtain ⟨c,c1,_,c3,c4⟩:=e.ok j _ hj
     exact ⟨c,c1,.inl ⟨j,List.mem_of_getElem? qj,Zas c1,hj⟩,c3,c4⟩
 ·have back:∀ n,Zat (List.replicate nt none ++ Zby σ js) (List.replicate nt .no ++ js.map (frS ρ)) n a→∃ j,nt≤n∧js[n - nt]?=some j∧Zat σ ρ j a:=fun n mm=>by
   rcases mm with ⟨m1,m2⟩ | ⟨c,m1,_⟩
   rotate_left
   ·by_cases hlt:n < nt
    ·rw [List.getElem?_append_left (by simpa using hlt),List.getElem?_replicate,if_pos hlt] at m1
     cases m1
    ·rw [List.getElem?_append_right (by simp; omega),List.length_replicate,List.getElem?_map] at m1
     cases qj:js[n - nt]? with
     | none=>rw [qj] at m1; cases m1
     | some j =>
      rw [qj,Option.map_some] at m1
      rcases ZcP (ρ:=ρ) j with z | ⟨dd,z,hj⟩ | ⟨z,hj⟩ <;> rw [z] at m1 <;> cases m1
   by_cases hlt:n < nt
   ·rw [List.getElem?_append_left (by simpa using hlt),List.getElem?_replicate,if_pos hlt] at m1
    cases m1
   ·rw [List.getElem?_append_right (by simp; omega),List.length_replicate] at m1
    obtain ⟨j,qj,oj⟩:=Zjm m1
    rw [List.getElem?_append_right (by simp; omega),List.length_replicate,List.getElem?_map,qj] at m2
    refine ⟨j,by omega,qj,.inl ⟨Zas oj.symm,.inl ?_⟩⟩
    rcases ZcP (ρ:=ρ) j with z | ⟨dd,z,hj⟩ | ⟨z,hj⟩
    ·rw [Option.map_some,z] at m2; rcases m2 with q | ⟨_,q⟩ <;> cases q
    ·rw [Option.map_some,z] at m2; rcases m2 with q | ⟨_,q⟩ <;> cases q
    ·exact hj
  obtain ⟨j,l1,qj,mj⟩:=back n m1
  obtain ⟨j',l2,qj',mj'⟩:=back m m2
  have:=e.sep j j' a mj mj'
  subst this
  have l3:n - nt < js.length:=by
   by_cases z:n - nt < js.length
   ·exact z
   ·rw [List.getElem?_eq_none (by omega)] at qj; cases qj
  have:=(List.getElem?_inj l3 hnd).mp (qj.trans qj'.symm)
  omega
theorem Zjr {R:Hp} {W:Addr→Prop} {B:Hp} {a:Addr} {vs:List V} (h:R a=some (.lst vs)) (nw:¬ W a):mixB R W B a=some (.lst vs):=by
 unfold mixB; rw [h]; dsimp only; rw [if_neg nw]
theorem Zm7 {R:Hp} {W:Addr→Prop} {B:Hp} {a:Addr} (h:∀ vs,R a≠some (.lst vs)):mixB R W B a=B a:=by
 unfold mixB
 split
 ·rename_i vs e; exact absurd e (h vs)
 ·rfl
theorem ZfT {R:Hp} {W:Addr→Prop} {B:Hp} {a:Addr} {o:HO} (h:mixB R W B a=some o):B a=some o∨(¬ W a∧R a=some o∧∃ vs,o=.lst vs):=by
 unfold mixB at h
 split at h
 ·rename_i vs e
  split at h
  ·exact .inl h
  ·rename_i z; cases h; exact .inr ⟨z,e,vs,rfl⟩
 ·exact .inl h
theorem ZjL {R:Hp} {W:Addr→Prop} {B H:Hp} (w:Wd R W B H):Same (mixB R W B) H:=fun a o h=>by
 rcases ZfT h with h | ⟨h1,h2,_⟩
 ·exact w.bh a o h
 ·exact w.fr a o h2 h1
theorem Zir {R:Hp} {W W':Addr→Prop} {B B' H:Hp} (w:Wd R W B H) (s:Same B B') (sB:Same B' H) (hw:∀ a,W' a→R a≠none→W a) (hb:∀ a,W' a→B' a=none):Same (mixB R W B) (mixB H W' B'):=fun a o h=>by
 have hH:=ZjL w a o h
 rcases ZfT h with h | ⟨h1,h2,vs,rfl⟩
 ·have h':=s a o h
  by_cases z:W' a
  ·rw [hb a z] at h'; cases h'
  ·by_cases q:∃ vs,H a=some (.lst vs)
   ·obtain ⟨vs,q⟩:=q
    rw [hH] at q; cases q
    exact Zjr hH z
   ·rw [Zm7 fun vs e=>q ⟨vs,e⟩]; exact h'
 ·exact Zjr hH fun z=>h1 (hw a z (by rw [h2]; simp))
theorem Ev.rebase {R:Hp} {W:Addr→Prop} {B H:Hp} {σ:St} {ρ:List Sl} (e:Ev K R W B H σ ρ) (hm:∀ j a,Zat σ ρ j a→W a):Ev K H W B H σ ρ:=by
 refine ⟨⟨fun _ _ z _=>z,e.bh,e.wb,e.wh,fun a z=>by obtain ⟨x',y',q',_⟩:=e.wh a z; rw [q']; simp⟩,e.len,fun j kk hj=>?_,e.sep⟩
 have:=e.ok j kk hj
 cases kk with
 | no=>trivial
 | new d =>
  obtain ⟨v,h1,h2⟩:=this
  exact ⟨v,h1,h2.mono (Zir e.toWd (Same.refl _) e.bh (fun _ z _=>z) e.wb)⟩
 | pin v d=>exact ⟨this.1,this.2.mono (Zir e.toWd (Same.refl _) e.bh (fun _ z _=>z) e.wb)⟩
 | val d=>exact this
 | own ds =>
  obtain ⟨a,q1,q2,_⟩:=this
  exact absurd q2 (e.wr a (hm j a (.inl ⟨Zas q1,.inr ⟨ds,hj⟩⟩)))
 | deep c=>exact absurd (this.2.fr _ List.mem_cons_self).1 (e.wr _ (hm j _ (.inr ⟨c,hj,List.mem_cons_self⟩)))
 | bag =>
  obtain ⟨c,c1,c2,c3,c4⟩:=this
  exact ⟨c,c1,.inl (hm j c (.inl ⟨Zas c1,.inl hj⟩)),c3,c4⟩
theorem Ev.unbase {R:Hp} {W:Addr→Prop} {B H B' H':Hp} {σ:St} {ρ:List Sl} (e:Ev K R W B H σ ρ) (hm:∀ j a,Zat σ ρ j a→W a) (e':Ev K H W B' H' σ ρ) (g:Grow H B B'):Ev K R W B' H' σ ρ∧Grow R B B':=by
 refine ⟨⟨⟨fun a o z nw=>e'.fr a o (e.fr a o z nw) nw,e'.bh,e'.wb,e'.wh,e.wr⟩,e'.len,fun j kk hj=>?_,e'.sep⟩,⟨g.s,fun a o z=>?_⟩⟩
 ·have:=e'.ok j kk hj
  cases kk with
  | no=>trivial
  | new d =>
   obtain ⟨v,h1,h2⟩:=e.ok j _ hj
   exact ⟨v,h1,h2.mono (Zb0 g.s)⟩
  | pin v d =>
   obtain ⟨h1,h2⟩:=e.ok j _ hj
   exact ⟨h1,h2.mono (Zb0 g.s)⟩
  | val d=>exact this
  | own ds =>
   obtain ⟨a,q1,q2,_⟩:=e.ok j _ hj
   exact absurd q2 (e.wr a (hm j a (.inl ⟨Zas q1,.inr ⟨ds,hj⟩⟩)))
  | deep c=>exact absurd ((e.deepAt hj).2.fr _ List.mem_cons_self).1 (e.wr _ (hm j _ (.inr ⟨c,hj,List.mem_cons_self⟩)))
  | bag =>
   obtain ⟨c,c1,c2,c3,c4⟩:=this
   exact ⟨c,c1,.inl (hm j c (.inl ⟨Zas c1,.inl hj⟩)),c3,c4⟩
 ·rcases g.n a o z with q | q
  ·exact .inl q
  ·exact .inr (e.toWd.fresh q).1
theorem ZkI {wi:TI} {g:TG} {tt:TT} {te:TE} {ug:UG} {ut:UT} {nt:Nat} {js:List Nat} (h0:RefI K wi w) (hg:RefG K g ug) (ht:RefT K tt ut) (h1:RefE K te u) (hnd:js.Nodup):RefO K (ZgG wi g tt te nt js) (Zgt w ug ut u nt js):=by
 intro ρ k h R W B H σ Q e q
 refine h0 ρ _ h R W B H σ _ e fun ds J B1 H1 z1 e1 g1 it=>?_
 obtain ⟨hl,z1⟩:=z1
 intro D hD
 obtain ⟨f1,f2,f3⟩:=e1.toWd.fresh hD
 have nm1:∀ i,¬ Zat σ ρ i D:=fun i m=>e1.notNew hD m rfl
 have ei:=e1.within nt hnd
 have hmi:∀ j a,Zat (List.replicate nt none ++ Zby σ js) (List.replicate nt .no ++ js.map (frS ρ)) j a→∃ j,j∈js∧σ[j]?=some (some (V.ref a))∧ρ[j]?=some Sl.bag:=fun j a m=>by
  have q2:=(ei.mutOk m).2
  rcases m with ⟨m1,z | ⟨es,z⟩⟩ | ⟨c,z,mc⟩
  ·obtain ⟨c,c1,c2,_⟩:=ei.bagAt z
   rw [m1] at c1; cases c1
   rcases c2 with c2 | c2
   ·exact c2
   ·exact absurd c2 q2
  ·obtain ⟨c,c1,c2,_⟩:=ei.ownC z
   rw [m1] at c1; cases c1
   exact absurd c2 q2
  ·exact absurd ((ei.deepAt z).2.fr a mc).1 q2
 generalize hWW:(fun a=>∃ j,j∈js∧σ[j]?=some (some (V.ref a))∧ρ[j]?=some Sl.bag)=WW at ei
 have hmi:∀ j a,Zat (List.replicate nt none ++ Zby σ js) (List.replicate nt .no ++ js.map (frS ρ)) j a→WW a:=fun j a m=>by rw [← hWW]; exact hmi j a m
 have hW:∀ a,WW a→∃ i:Nat,σ[i]?=some (some (.ref a))∧ρ[i]?=some .bag:=fun a z=>by
  rw [← hWW] at z
  obtain ⟨j,_,z⟩:=z
  exact ⟨j,z⟩
 have nWD:¬ WW D:=fun z=>by
  obtain ⟨i',y1,y2⟩:=hW D z
  exact nm1 i' (.inl ⟨y1,.inl y2⟩)
 refine ⟨fun i m σi H'=>∃ B' ys es ρi,m=ds.length - i∧i≤ds.length∧Ev K H1 WW B' H' σi ρi∧Grow H1 B1 B'∧H' D=some (.lst ys)∧B' D=none∧(∀ j a,Zat σi ρi j a→WW a)∧ys.length≤i∧Reps K B' ys es∧Za8 ug ut u (ds.drop i) ρi fun r=>k (es ++ r),
  ⟨ds.length,B1,[],[],_,by simp,Nat.zero_le _,ei.allocH hD _,Grow.refl _ _,Zal,f3,hmi,Nat.le_refl _,.nil,by simpa using z1⟩,?_⟩
 rintro i m σi H2 ⟨B2,ys,es,ρi,rfl,hi,e2,g2,hy,hb,hnm,hyl,ry,z2⟩
 obtain ⟨t1,t2,t3⟩:=it H2 (g2.s.trans e2.bh) i
 by_cases hlt:i < ds.length
 ·refine .inr ⟨t1 hlt,fun x H' y=>?_⟩
  obtain ⟨rfl,d,hd,rx⟩:=t3 x H' hlt y
  have ed:ds.drop i=d :: ds.drop (i + 1):=by
   rw [List.drop_eq_getElem_cons hlt]
   rw [List.getElem?_eq_getElem hlt] at hd
   rw [Option.some.inj hd]
  rw [ed] at z2
  refine hg d ρi _ z2 H1 WW B2 H' σi x _ e2 (rx.mono g2.s) fun ρ3 σ3 z3 e3 mm=>?_
  have hnm3:∀ j a,Zat σ3 ρ3 j a→WW a:=fun j a m=>hnm j a (mm j a m)
  have bD:∀ {B4:Hp},Grow H' B2 B4→B4 D=none:=fun {B4} g4=>by
   cases qd:B4 D with
   | none=>rfl
   | some o =>
    rcases g4.n D o qd with z | z
    ·rw [hb] at z; cases z
    ·rw [hy] at z; cases z
  refine ht ρ3 _ z3 H' WW B2 H' σ3 _ (e3.rebase hnm3) fun b B4 H4 z4 e4 g4=>?_
  have hD4:H4 D=some (.lst ys):=e4.fr D _ hy nWD
  cases b with
  | false =>
   rw [if_neg Bool.false_ne_true] at z4 ⊢
   obtain ⟨e5,g5⟩:=e3.unbase hnm3 e4 g4
   exact ⟨ds.length - (i + 1),by omega,B4,ys,es,ρ3,rfl,hlt,e5,g2.trans g5,hD4,bD g4,hnm3,by omega,ry.mono g4.s,z4⟩
  | true =>
   rw [if_pos rfl] at z4 ⊢
   refine h1 ρ3 _ z4 H' WW B4 H4 σ3 _ e4 fun y' v B5 H5 z5 e5 g5 s5=>?_
   have g45:=g4.trans g5
   have hD5:H5 D=some (.lst ys):=e5.fr D _ hy nWD
   obtain ⟨e6,g6⟩:=e3.unbase hnm3 e5 g45
   refine ⟨ys,hD5,by omega,ds.length - (i + 1),by omega,B5,ys ++ [v],es ++ [y'],ρ3,rfl,hlt,e6.scribble hD (bD g45) (fun j m=>nWD (hnm3 j D m)) _,g2.trans g6,Zal,bD g45,hnm3,by rw [List.length_append,List.length_singleton]; omega,(ry.mono g45.s).append (.cons s5 .nil),?_⟩
   simpa [List.append_assoc] using z5
 ·have eq:i=ds.length:=by omega
  subst eq
  rw [List.drop_length] at z2
  obtain ⟨e4,g4⟩:=e1.after hW e2.toWd g2
  refine .inl ⟨t2 (Nat.le_refl _),q _ D ys B2 H2 (by simpa [Za8] using z2) e4 (g1.trans g4) f1 hb hy ry nm1⟩
def ZhD (X:Cx) (ifs:List Expr) (ut:UT):Prop:=∃ t,PIfs X ifs t∧RefT X.K t ut
theorem ZbL:ZhD X [] Zbd:=⟨_,ZkK,fun ρ k h R W B H σ Q e q=>q true B H h e (Grow.refl _ _)⟩
theorem Zfq {c:Expr} {ut:UT} (h:PT3 X c ut):ZhD X [c] ut:=by
 obtain ⟨_,h1,r1⟩:=h
 exact ⟨_,ZjP h1,r1⟩
theorem joinE {elt:Expr} {α:Type} {Xs:α→Cx} (hK:∀ a,(Xs a).K=K) (h:∀ a,PE3 (Xs a) elt u):∃ t,(∀ a,PE (Xs a) elt t)∧RefE K t u:=by
 refine ⟨fun σ H Q=>∀ a,∃ t,PE (Xs a) elt t∧RefE K t u∧t σ H Q,fun a pins s σ H Q I q=>?_,fun ρ k q R W B H σ Q e z a=>?_⟩
 ·obtain ⟨t,ht,_,hq⟩:=q a
  exact ht pins s σ H Q I hq
 ·obtain ⟨t,ht,hr⟩:=h a
  rw [hK a] at hr
  exact ⟨t,ht,hr,hr ρ k q R W B H σ Q e z⟩
theorem joinI {ifs:List Expr} {ut:UT} {α:Type} {Xs:α→Cx} (hK:∀ a,(Xs a).K=K) (h:∀ a,ZhD (Xs a) ifs ut):∃ t,(∀ a,PIfs (Xs a) ifs t)∧RefT K t ut:=by
 refine ⟨fun σ H Q=>∀ a,∃ t,PIfs (Xs a) ifs t∧RefT K t ut∧t σ H Q,fun a pins s σ H Q I q=>?_,fun ρ k q R W B H σ Q e z a=>?_⟩
 ·obtain ⟨t,ht,_,hq⟩:=q a
  exact ht pins s σ H Q I hq
 ·obtain ⟨t,ht,hr⟩:=h a
  rw [hK a] at hr
  exact ⟨t,ht,hr,hr ρ k q R W B H σ Q e z⟩
theorem joinG {tg:Expr} {ug:UG} {α:Type} {Xs:α→Cx} (hK:∀ a,(Xs a).K=K) (h:∀ a,PG3 (Xs a) tg ug):∃ t,(∀ a,PG (Xs a) tg t)∧RefG K t ug:=by
 refine ⟨fun v σ H Q=>∀ a,∃ t,PG (Xs a) tg t∧RefG K t ug∧t v σ H Q,fun a pins s σ H v x Q I r q=>?_,fun d ρ k q R W B H σ v Q e r z a=>?_⟩
 ·obtain ⟨t,ht,_,hq⟩:=q a
  exact ht pins s σ H v x Q I r hq
 ·obtain ⟨t,ht,hr⟩:=h a
  rw [hK a] at hr
  exact ⟨t,ht,hr,hr d ρ k q R W B H σ v Q e r z⟩
variable {elt iter tg:Expr} {ifs:List Expr} {scope:Scope} {cl:List (Str×Addr)} {ts fr:List Str} {js:List Nat} {ug:UG} {ut:UT}
theorem Zbi (hi:PI3 X tg iter w) (hg:∀ C s H ex,PG3 (ZaA X (ts ++ fr) scope cl C s H ex) tg ug) (hts:∀ C s H ex,ZhD (ZaA X (ts ++ fr) scope cl C s H ex) ifs ut) (helt:∀ C s H ex,PE3 (ZaA X (ts ++ fr) scope cl C s H ex) elt u)
  (F:FreeOk X scope cl fr js) (hjn:js.Nodup:=by decide) (hc:X.calm=true:=by rfl) (hs:∀ v,foldedSetIterable iter X.env v=pure v:=by intro _; rfl):PO3 X (.ListComp elt [⟨tg,iter,ifs,0⟩] scope pos) (Zgt w ug ut u ts.length js):=by
 obtain ⟨_,h0,r0⟩:=hi
 obtain ⟨tg',hg',rg⟩:=joinG (K:=X.K) (Xs:=fun a:Addr×Shared×Hp×List Addr=>ZaA X (ts ++ fr) scope cl a.1 a.2.1 a.2.2.1 a.2.2.2) (fun _=>rfl) fun a=>hg a.1 a.2.1 a.2.2.1 a.2.2.2
 obtain ⟨tt,ht',rt⟩:=joinI (K:=X.K) (Xs:=fun a:Addr×Shared×Hp×List Addr=>ZaA X (ts ++ fr) scope cl a.1 a.2.1 a.2.2.1 a.2.2.2) (fun _=>rfl) fun a=>hts a.1 a.2.1 a.2.2.1 a.2.2.2
 obtain ⟨te,he',re⟩:=joinE (K:=X.K) (Xs:=fun a:Addr×Shared×Hp×List Addr=>ZaA X (ts ++ fr) scope cl a.1 a.2.1 a.2.2.1 a.2.2.2) (fun _=>rfl) fun a=>helt a.1 a.2.1 a.2.2.1 a.2.2.2
 exact ⟨_,ZfZ h0 (fun C s H ex=>hg' (C,s,H,ex)) (fun C s H ex=>ht' (C,s,H,ex)) (fun C s H ex=>he' (C,s,H,ex)) F hc hs,ZkI r0 rg rt re hjn⟩
end
theorem Za5 {α:Type} {f:α→D} {s:US} {U:UEnds} {m:Nat} (I:List α→List Sl→Prop):∀ {rs done:List α} {ρ:List Sl},I done ρ →
  (∀ (pre:List α) (r:α) (rest:List α) ρ,done ++ rs=pre ++ r :: rest→I pre ρ→∀ N:List Sl→Prop,(∀ r',I (pre ++ [r]) r'→N r')→s { U with nx:=N,ct:=N,bk:=U.nx } (ρ.set m (.val (f r))))→(∀ ρ,I (done ++ rs) ρ→U.nx ρ)→forR (Zay m) s U (rs.map f) ρ
 | [],done,ρ,h0,_,h2=>h2 ρ (by rw [List.append_nil]; exact h0)
 | r :: rs,done,ρ,h0,h1,h2=>by
  refine h1 done r rs ρ rfl h0 _ fun r' hr=>?_
  have e:done ++ r :: rs=(done ++ [r]) ++ rs:=by simp
  rw [e] at h1 h2
  exact Za5 I hr h1 h2
theorem ZeM {s:US} {U:UEnds} {m:Nat} (I:Nat→List Sl→Prop):∀ {n i:Nat} {ρ:List Sl},I i ρ→(∀ (j:Nat) ρ,i≤j→j < i + n→I j ρ→∀ N:List Sl→Prop,(∀ r,I (j + 1) r→N r)→s { U with nx:=N,ct:=N,bk:=U.nx } (ρ.set m (.val (.int j)))) →
  (∀ ρ,I (i + n) ρ→U.nx ρ)→forR (Zay m) s U ((List.range' i n).map fun j:Nat=>D.int j) ρ
 | 0,i,ρ,h0,_,h2=>h2 ρ h0
 | n + 1,i,ρ,h0,h1,h2=>by
  show forR (Zay m) s U (D.int i :: (List.range' (i + 1) n).map fun j:Nat=>D.int j) ρ
  refine h1 i ρ (Nat.le_refl _) (by omega) h0 _ fun r hr=>?_
  exact ZeM I hr (fun j ρ hj hj2=>h1 j ρ (by omega) (by omega)) fun ρ h=>h2 ρ (by rw [show i + (n + 1)=i + 1 + n by omega]; exact h)
theorem ZbP {s:US} {U:UEnds} {m n:Nat} {ρ:List Sl} (I:Nat→List Sl→Prop) (h0:I 0 ρ) (h1:∀ (j:Nat) ρ,j < n→I j ρ→∀ N:List Sl→Prop,(∀ r,I (j + 1) r→N r)→s { U with nx:=N,ct:=N,bk:=U.nx } (ρ.set m (.val (.int j))))
  (h2:∀ ρ,I n ρ→U.nx ρ):forR (Zay m) s U ((List.range n).map fun j:Nat=>D.int j) ρ:=by
 rw [List.range_eq_range']
 exact ZeM I h0 (fun j ρ _ hj=>h1 j ρ (by omega)) fun ρ h=>h2 ρ (by rw [Nat.zero_add] at h; exact h)
theorem Zc5 {α:Type} {f h:α→D} {u:UE} {fs:List Sl}:∀ {rs:List α} {v0:Sl} {k:List D→Prop},(∀ r∈rs,∀ k:D→Prop,k (h r)→u (.val (f r) :: fs) k)→k (rs.map h)→Za8 (Zay 0) Zbd u (rs.map f) (v0 :: fs) k
 | [],v0,k,_,hk=>hk
 | r :: rs,v0,k,hu,hk=>by
  show (if true=true then u (.val (f r) :: fs) fun y=>Za8 (Zay 0) Zbd u (rs.map f) (.val (f r) :: fs) fun ys=>k (y :: ys) else Za8 (Zay 0) Zbd u (rs.map f) (.val (f r) :: fs) k)
  rw [if_pos rfl]
  exact hu r List.mem_cons_self _ (Zc5 (fun q hq=>hu q (List.mem_cons_of_mem _ hq)) hk)
theorem ZbH {α β:Type} {f:α→β} {rs:List α} {i:Int} {r:α} (h:atI rs i=some r):atI (rs.map f) i=some (f r):=by
 unfold atI at h ⊢
 rw [List.length_map]
 cases q:ixN rs.length i with
 | none=>rw [q] at h; cases h
 | some j =>
  rw [q] at h
  show (rs.map f)[j]?=_
  rw [List.getElem?_map,show rs[j]?=some r from h]
  rfl
theorem Zjg {α:Type} {rs:List α} {i:Nat} (h:i < rs.length):atI rs (i:Int)=some rs[i]:=by
 unfold atI ixN
 rw [if_pos (by omega),if_pos (by omega)]
 show rs[((i:Int)).toNat]?=_
 rw [show ((i:Int)).toNat=i by omega,List.getElem?_eq_getElem h]
theorem ZbS {α:Type} {xs:List α} {i:Int} (h0:0≤i) (h1:i≤xs.length):cutL xs (some i) none=xs.drop i.toNat:=by
 unfold cutL
 have e1:HT.sIx xs.length 0 (some i)=i.toNat:=by
  unfold HT.sIx
  first | omega | (simp only []; split <;> omega) | (split <;> omega) | (dsimp only; split <;> (try split) <;> omega)
 have e2:HT.sIx xs.length xs.length none=xs.length:=rfl
 rw [e1,e2]
 exact List.take_of_length_le (by rw [List.length_drop]; omega)
theorem Zde {α:Type} {xs:List α} {i:Int} (h0:0≤i) (h1:i≤xs.length):cutL xs none (some i)=xs.take i.toNat:=by
 unfold cutL
 have e1:HT.sIx xs.length xs.length (some i)=i.toNat:=by
  unfold HT.sIx
  first | omega | (simp only []; split <;> omega) | (split <;> omega) | (dsimp only; split <;> (try split) <;> omega)
 have e2:HT.sIx xs.length 0 none=0:=rfl
 rw [e1,e2]
 rfl
end L3
namespace Cut
open PySem L2 L3
open PySem.Builtin.Int (intBits)
def dR (r:Int×Int):D:=.tup [.int r.1,.int r.2]
def dP (p:Int×Int×Int):D:=.tup [.int p.1,.int p.2.1,.int p.2.2]
def gsg (t b:Int):Int:=if b < 0 then -((Int.gcd t b:Nat):Int) else ((Int.gcd t b:Nat):Int)
def nrat (t b:Int):Int×Int:=(t.fdiv (gsg t b),b.fdiv (gsg t b))
theorem Zaw {t b:Int} (hb:b≠0):Low (nrat t b).1 (nrat t b).2∧(nrat t b).1 * b=t * (nrat t b).2∧(nrat t b).1.natAbs≤t.natAbs∧(nrat t b).2.natAbs≤b.natAbs:=by
 unfold nrat gsg
 split
 ·exact Zls hb rfl (.inr ⟨rfl,by assumption⟩)
 ·exact Zls hb rfl (.inl ⟨rfl,by omega⟩)
def g3 (a b n:Int):Int:=((Int.gcd (Int.gcd a n:Nat) b:Nat):Int)
def gsp (a b n:Int):Int:=if n < 0 then -g3 a b n else g3 a b n
def npt (a b n:Int):Int×Int×Int:=(a.fdiv (gsp a b n),b.fdiv (gsp a b n),n.fdiv (gsp a b n))
theorem ZaL {a b n:Int} (hn:n≠0):Pt (npt a b n).1 (npt a b n).2.1 (npt a b n).2.2∧(npt a b n).1 * n=a * (npt a b n).2.2∧(npt a b n).2.1 * n=b * (npt a b n).2.2∧(npt a b n).1.natAbs≤a.natAbs∧(npt a b n).2.1.natAbs≤b.natAbs∧(npt a b n).2.2.natAbs≤n.natAbs:=by
 unfold npt gsp
 split
 ·exact pt_of hn rfl (.inr ⟨rfl,by assumption⟩)
 ·exact pt_of hn rfl (.inl ⟨rfl,by omega⟩)
theorem g3_xy (a b n:Int):((Int.gcd (Int.gcd a b:Nat) n:Nat):Int)=g3 a b n:=by
 unfold g3
 rw [gcd3]
 rfl
theorem g3_pos {a b n:Int} (hn:n≠0):0 < g3 a b n:=Zgh hn
theorem ZlW {a b n:Int} {k:Nat} (hn:n≠0) (h:intBits n≤k):intBits (g3 a b n)≤k:=ZiM hn h
theorem ZaQ {a b:Int} {k:Nat} (hb:b≠0) (h:intBits b≤k):intBits ((Int.gcd a b:Nat):Int)≤k:=by
 refine intBits_le_of_natAbs ?_ h
 exact Nat.le_of_dvd (by omega) (by simpa using Int.natAbs_dvd_natAbs.mpr (Int.gcd_dvd_right a b))
theorem ZcT {a b:Int} {k:Nat} (hab:a≠0∨b≠0) (h1:intBits a≤k) (h2:intBits b≤k):intBits ((Int.gcd a b:Nat):Int)≤k:=by
 by_cases hb:b=0
 ·subst hb
  rw [Int.gcd_zero_right]
  refine intBits_le_of_natAbs ?_ h1
  omega
 ·exact ZaQ hb h2
def wpar (a b:Int):Int:=if b < 0∨(b=0∧a < 0) then -((Int.gcd a b:Nat):Int) else ((Int.gcd a b:Nat):Int)
def wdir (a b:Int):Int×Int:=(a.fdiv (wpar a b),b.fdiv (wpar a b))
theorem Zcd {a b:Int} (h:a≠0∨b≠0):wpar a b≠0:=by
 have:0 < Int.gcd a b:=by
  rcases h with h | h
  ·exact Int.gcd_pos_of_ne_zero_left b h
  ·exact Int.gcd_pos_of_ne_zero_right a h
 unfold wpar
 split <;> omega
theorem ZgA (a b:Int):wpar a b ∣ a∧wpar a b ∣ b:=by
 have h1:=Int.gcd_dvd_left a b
 have h2:=Int.gcd_dvd_right a b
 unfold wpar
 split
 ·exact ⟨Int.neg_dvd.mpr h1,Int.neg_dvd.mpr h2⟩
 ·exact ⟨h1,h2⟩
theorem ZaE {a s x:Int} (h:a=s * x) (s0:s≠0):a.fdiv s=x:=by rw [h]; exact Int.mul_fdiv_cancel_left x s0
theorem Zec {a b s x y:Int} (h1:a=s * x) (h2:b=s * y):Int.gcd a b=s.natAbs * Int.gcd x y:=by rw [h1,h2,Int.gcd_mul_left]
theorem Zbc {a b:Int} (h:a≠0∨b≠0):(wdir a b).1 * wpar a b=a∧(wdir a b).2 * wpar a b=b∧Int.gcd (wdir a b).1 (wdir a b).2=1∧(0 < (wdir a b).2∨(wdir a b).2=0∧(wdir a b).1=1):=by
 have s0:=Zcd h
 obtain ⟨⟨x,hx⟩,⟨y,hy⟩⟩:=ZgA a b
 have ex:(wdir a b).1=x:=by
  show a.fdiv (wpar a b)=x
  exact ZaE hx s0
 have ey:(wdir a b).2=y:=by
  show b.fdiv (wpar a b)=y
  exact ZaE hy s0
 rw [ex,ey]
 have sn:(wpar a b).natAbs=Int.gcd a b:=by unfold wpar; split <;> omega
 have g1:Int.gcd x y=1:=by
  have q:Int.gcd a b=(wpar a b).natAbs * Int.gcd x y:=Zec hx hy
  rw [sn] at q
  have pos:0 < Int.gcd a b:=by omega
  have:Int.gcd a b * Int.gcd x y=Int.gcd a b * 1:=by omega
  exact Nat.eq_of_mul_eq_mul_left pos this
 refine ⟨by rw [Int.mul_comm]; exact hx.symm,by rw [Int.mul_comm]; exact hy.symm,g1,?_⟩
 have pos:0 < ((Int.gcd a b:Nat):Int):=by omega
 by_cases hb:b=0
 ·right
  have y0:y=0:=by
   rcases Int.mul_eq_zero.mp (hy.symm.trans hb) with z | z
   ·exact absurd z s0
   ·exact z
  refine ⟨y0,?_⟩
  rw [y0,Int.gcd_zero_right] at g1
  have ha:a≠0:=by rcases h with h | h; exact h; exact absurd hb h
  have xp:0 < x:=by
   by_cases an:a < 0
   ·have w:wpar a b = -((Int.gcd a b:Nat):Int):=by unfold wpar; rw [if_pos (.inr ⟨hb,an⟩)]
    rw [w] at hx
    have h3:0 < ((Int.gcd a b:Nat):Int) * x:=by rw [Int.neg_mul] at hx; omega
    exact Int.pos_of_mul_pos_right h3 pos
   ·have w:wpar a b=((Int.gcd a b:Nat):Int):=by unfold wpar; rw [if_neg (by omega)]
    rw [w] at hx
    have h3:0 < ((Int.gcd a b:Nat):Int) * x:=by omega
    exact Int.pos_of_mul_pos_right h3 pos
  omega
 ·left
  by_cases bn:b < 0
  ·have w:wpar a b = -((Int.gcd a b:Nat):Int):=by unfold wpar; rw [if_pos (.inl bn)]
   rw [w] at hy
   have h3:0 < ((Int.gcd a b:Nat):Int) * y:=by rw [Int.neg_mul] at hy; omega
   exact Int.pos_of_mul_pos_right h3 pos
  ·have w:wpar a b=((Int.gcd a b:Nat):Int):=by unfold wpar; rw [if_neg (by omega)]
   rw [w] at hy
   have h3:0 < ((Int.gcd a b:Nat):Int) * y:=by omega
   exact Int.pos_of_mul_pos_right h3 pos
theorem Zhz {a b:Int} {k:Nat} (hab:a≠0∨b≠0) (h1:intBits a≤k) (h2:intBits b≤k):intBits (wpar a b)≤k:=by
 have gb:=ZcT hab h1 h2
 unfold wpar
 split
 ·exact intBits_neg_le gb
 ·exact gb
theorem ZlC {p q:Int×Int×Int} (h:dP p=dP q):p=q:=by
 obtain ⟨a,b,c⟩:=p
 obtain ⟨d,e,f⟩:=q
 unfold dP at h
 cases h
 rfl
theorem ZdC {p q:Int×Int} (h:dR p=dR q):p=q:=by
 obtain ⟨a,b⟩:=p
 obtain ⟨d,e⟩:=q
 unfold dR at h
 cases h
 rfl
theorem Zch {a b c d:Int} (hb:b≠0) (hd:d≠0) (h:a * d=c * b):nrat a b=nrat c d:=by
 obtain ⟨l1,e1,_⟩:=Zaw (t:=a) hb
 obtain ⟨l2,e2,_⟩:=Zaw (t:=c) hd
 have e:(nrat a b).1 * (nrat c d).2=(nrat c d).1 * (nrat a b).2:=by
  refine Int.eq_of_mul_eq_mul_right (Int.mul_ne_zero hb hd) ?_
  grind
 obtain ⟨x,y⟩:=Zeb l1 l2 e
 exact Prod.ext x y
theorem ZkC {x y:Int} (h:Low x y):nrat x y=(x,y):=by
 obtain ⟨l,e,_⟩:=Zaw (t:=x) (Int.ne_of_gt h.1)
 obtain ⟨a,b⟩:=Zeb l h e
 exact Prod.ext a b
abbrev P3:=Int×Int×Int
def crs (p q:P3):P3:=(p.2.1 * q.2.2 - p.2.2 * q.2.1,p.2.2 * q.1 - p.1 * q.2.2,p.1 * q.2.1 - p.2.1 * q.1)
def nP (p:P3):P3:=npt p.1 p.2.1 p.2.2
abbrev PtP (p:P3):Prop:=Pt p.1 p.2.1 p.2.2
structure BP (m:Nat) (p:P3):Prop where
 a:intBits p.1≤m
 b:intBits p.2.1≤m
 c:intBits p.2.2≤m
theorem BP.mono {m n:Nat} {p:P3} (h:BP m p) (l:m≤n):BP n p:=⟨Nat.le_trans h.a l,Nat.le_trans h.b l,Nat.le_trans h.c l⟩
end Cut
namespace PySem
open Sem (wp)
abbrev IsZ (h:Heap) (z TI TO:Addr) (f0 f1:Value):Prop :=
 h.get? z=some { cls:=.type "zip", dict:=none,data:=.fields #[f0,f1,.bool false,.ref TI,.ref TO],slots := #[] }
section
variable {prog:Program} {w:World} {A:Around} {E:Value→Shared→Prop} {s:Shared}
theorem Zfe {a:Addr} {Q:Option Obj→Shared→Prop} (h:Q (s.heap.get? a) s):wpAny (model prog w) A (loadIfAlive a) Q E s:=fun _ _ _=>h
theorem Zc3 {z TI TO T:Addr} {b:Bool} {oT:Obj} {Q:Bool→Shared→Prop} (hz:IsZ s.heap z TI TO (rawInt T) (.bool b)) (hT:s.heap.get? T=some oT)
  (hQ:∀ h',IsZ h' z TI TO (rawInt T) (.bool true)→Heap.SameBut z s.heap h'→Q false { s with heap:=h' }):wpAny (model prog w) A (Builtin.SmallTypes.ownedTupleIsFree (.ref z)) Q E s:=by
 unfold Builtin.SmallTypes.ownedTupleIsFree
 refine wpAny_bind (wpAny_field hz rfl (x:=rawInt T) rfl ?_)
 show wpAny _ _ (loadIfAlive ((T:Int).toNat) >>= _) _ _ _
 rw [Int.toNat_natCast]
 refine wpAny_bind (Zfe ?_)
 rw [hT]
 show wpAny _ _ (field (.ref z) 1 >>= _) _ _ _
 refine wpAny_bind (wpAny_field hz rfl (x:=.bool b) rfl ?_)
 cases b with
 | true =>
  show wpAny _ _ (pure false) _ _ _
  exact wpAny_pure (hQ s.heap hz ⟨rfl,fun _ _=>rfl⟩)
 | false =>
  show wpAny _ _ (setField (.ref z) 1 (.bool true) >>= fun _=>pure false) _ _ _
  exact wpAny_bind (wpAny_setField_rec hz (by simp) fun h' hz' hs'=>wpAny_pure (hQ h' hz' hs'))
theorem Zdt {z TI TO i1 i2 l1 l2 T:Addr} {f1:Bool} {oT:Obj} {k1 k2:Nat} {xs ys:Array Value} {x y:Value} {Q:Value→Shared→Prop} (D:ZipApart z TI TO i1 i2 l1 l2)
  (hz:IsZ s.heap z TI TO (rawInt T) (.bool f1)) (hT:s.heap.get? T=some oT) (hTI:IsPair s.heap TI (.ref i1) (.ref i2))
  (h1:s.heap.IsListIter i1 l1 k1) (h2:s.heap.IsListIter i2 l2 k2) (hl1:s.heap.IsList l1 xs) (hl2:s.heap.IsList l2 ys) (hx:xs[k1]?=some x) (hy:ys[k2]?=some y)
  (hQ:∀ h',IsZ h' z TI TO (rawInt T) (.bool true)→h'.IsListIter i1 l1 (k1 + 1)→h'.IsListIter i2 l2 (k2 + 1)→IsPair h' s.heap.objs.size x y→h'.objs.size=s.heap.objs.size + 1 →
   (∀ c o,c≠z→c≠i1→c≠i2→s.heap.get? c=some o→h'.get? c=some o)→Q (.ref s.heap.objs.size) { s with heap:=h' }) :
  wpAny (model prog w) A (Builtin.«zip.__next__» ⟨[.ref z],[]⟩) (fun fin s'=>∃ v,fin=.done (.ret v)∧Q v s') E s:=by
 show wpAny _ _ (field (.ref z) 2 >>= _) _ _ _
 refine wpAny_bind (wpAny_field hz rfl (x:=.bool false) rfl ?_)
 show wpAny _ _ (field (.ref z) 3 >>= _) _ _ _
 refine wpAny_bind (wpAny_field hz rfl (x:=.ref TI) rfl ?_)
 refine wpAny_bind (wpAny_seqItems hTI rfl ?_)
 show wpAny _ _ (Builtin.SmallTypes.ownedTupleIsFree (.ref z) >>= _) _ _ _
 refine wpAny_bind (Zc3 hz hT fun h₁ hz₁ hs₁=>?_)
 simp only [Bool.false_eq_true,if_false]
 refine wpAny_bind ?_
 simp only [← Array.forIn_toList,List.forIn_cons,List.forIn_nil]
 refine wpAny_bind (wpAny_bind (wpAny_holding ?_))
 show wpAny _ _ (Builtin.SmallTypes.nextOf (.ref i1) >>= _) _ _ _
 refine wpAny_bind (wpAny_nextOf_list_item (h1.extBut hs₁.extBut D.i1z) (hl1.extBut hs₁.extBut D.l1z) hx fun h₂ h1₂ hs₂=>wpAny_pure ?_)
 refine wpAny_pure ?_
 refine wpAny_bind (wpAny_bind (wpAny_holding ?_))
 show wpAny _ _ (Builtin.SmallTypes.nextOf (.ref i2) >>= _) _ _ _
 refine wpAny_bind (wpAny_nextOf_list_item ((h2.extBut hs₁.extBut D.i2z).extBut hs₂.extBut D.i12.symm) ((hl2.extBut hs₁.extBut D.l2z).extBut hs₂.extBut D.l2i1) hy fun h₃ h2₃ hs₃=>wpAny_pure ?_)
 refine wpAny_pure (wpAny_pure ?_)
 refine wpAny_bind (wpAny_newTuple (hsz:=by show 2≤sizeLine; decide) ?_)
 have hsz:h₃.objs.size=s.heap.objs.size:=by rw [hs₃.1,hs₂.1,hs₁.1]
 have hz₃:IsZ h₃ z TI TO (rawInt T) (.bool true):=hs₃.extBut _ _ D.i2z.symm (hs₂.extBut _ _ D.i1z.symm hz₁)
 have hk₃:∀ c o,c≠z→c≠i1→c≠i2→s.heap.get? c=some o→h₃.get? c=some o:=fun c o c1 c3 c4 e=>hs₃.extBut _ _ c4 (hs₂.extBut _ _ c3 (hs₁.extBut _ _ c1 e))
 have h1₃:h₃.IsListIter i1 l1 (k1 + 1):=h1₂.extBut hs₃.extBut D.i12
 refine wpAny_pure ⟨_,rfl,?_⟩
 show Q (.ref h₃.objs.size) _
 rw [hsz]
 refine hQ _ (Heap.get?_push_of_some _ hz₃) (h1₃.at fun o e=>Heap.get?_push_of_some _ e) (h2₃.at fun o e=>Heap.get?_push_of_some _ e) ?_ (by rw [Heap.size_push,hsz]) fun c o c1 c2 c3 e=>Heap.get?_push_of_some _ (hk₃ c o c1 c2 c3 e)
 have:=Heap.get?_push_size h₃ (o:={ cls:=.type "tuple", data:=.seq #[x,y] }) rfl
 rw [hsz] at this
 exact this
theorem Zd6 {z TI TO i1 i2 l1 l2 T:Addr} {f1:Bool} {oT:Obj} {k1 k2:Nat} {xs ys:Array Value} {Q:Fin→Shared→Prop} (hh:A.handled=none) (D:ZipApart z TI TO i1 i2 l1 l2)
  (hz:IsZ s.heap z TI TO (rawInt T) (.bool f1)) (hT:s.heap.get? T=some oT) (hTI:IsPair s.heap TI (.ref i1) (.ref i2))
  (h1:s.heap.IsListIter i1 l1 k1) (h2:s.heap.IsListIter i2 l2 k2) (hl1:s.heap.IsList l1 xs) (hl2:s.heap.IsList l2 ys) (hend:xs[k1]?=none∨ys[k2]?=none)
  (hE:∀ h' e,(∀ c o,c≠z→c≠i1→c≠i2→s.heap.get? c=some o→h'.get? c=some o)→(∃ o,h'.get? e=some o∧o.cls=.type "StopIteration")→E (.ref e) { s with heap:=h' }) :
  wpAny (model prog w) A (Builtin.«zip.__next__» ⟨[.ref z],[]⟩) Q E s:=by
 show wpAny _ _ (field (.ref z) 2 >>= _) _ _ _
 refine wpAny_bind (wpAny_field hz rfl (x:=.bool false) rfl ?_)
 show wpAny _ _ (field (.ref z) 3 >>= _) _ _ _
 refine wpAny_bind (wpAny_field hz rfl (x:=.ref TI) rfl ?_)
 refine wpAny_bind (wpAny_seqItems hTI rfl ?_)
 show wpAny _ _ (Builtin.SmallTypes.ownedTupleIsFree (.ref z) >>= _) _ _ _
 refine wpAny_bind (Zc3 hz hT fun h₁ hz₁ hs₁=>?_)
 simp only [Bool.false_eq_true,if_false]
 refine wpAny_bind ?_
 simp only [← Array.forIn_toList,List.forIn_cons,List.forIn_nil]
 refine wpAny_bind (wpAny_bind (wpAny_holding ?_))
 show wpAny _ _ (Builtin.SmallTypes.nextOf (.ref i1) >>= _) _ _ _
 cases hx:xs[k1]? with
 | none =>
  exact wpAny_bind (wpAny_nextOf_list_end hh (h1.extBut hs₁.extBut D.i1z) (hl1.extBut hs₁.extBut D.l1z) hx fun h₂ e hs₂ he=>hE h₂ e (fun c o c1 c3 _ x=>hs₂ _ _ c3 (hs₁.extBut _ _ c1 x)) he)
 | some x =>
  have hy:ys[k2]?=none:=by rcases hend with h | h; rw [hx] at h; cases h; exact h
  refine wpAny_bind (wpAny_nextOf_list_item (h1.extBut hs₁.extBut D.i1z) (hl1.extBut hs₁.extBut D.l1z) hx fun h₂ h1₂ hs₂=>wpAny_pure ?_)
  refine wpAny_pure ?_
  refine wpAny_bind (wpAny_bind (wpAny_holding ?_))
  show wpAny _ _ (Builtin.SmallTypes.nextOf (.ref i2) >>= _) _ _ _
  exact wpAny_bind (wpAny_nextOf_list_end hh ((h2.extBut hs₁.extBut D.i2z).extBut hs₂.extBut D.i12.symm) ((hl2.extBut hs₁.extBut D.l2z).extBut hs₂.extBut D.l2i1) hy fun h₄ e hs₄ he=>hE h₄ e (fun c o c1 c3 c4 x=>hs₄ _ _ c4 (hs₂.extBut _ _ c3 (hs₁.extBut _ _ c1 x))) he)
structure ZSt (S z TI TO i1 i2 l1 l2:Addr) (xs ys:Array Value) (i:Nat) (h:Heap):Prop where
 fl:(IsZ h z TI TO .none (.bool false)∧∃ a b,IsPair h TO a b)∨∃ (T:Addr) (b:Bool) (oT:Obj),IsZ h z TI TO (rawInt T) (.bool b)∧h.get? T=some oT∧T≠z∧T≠i1∧T≠i2∧T≠S
 tp:IsPair h TI (.ref i1) (.ref i2)
 it1:h.IsListIter i1 l1 i
 it2:h.IsListIter i2 l2 i
 ls1:h.IsList l1 xs
 ls2:h.IsList l2 ys
theorem ZSt.frame {S z TI TO i1 i2 l1 l2:Addr} {xs ys:Array Value} {i:Nat} {h h':Heap} (Z:ZSt S z TI TO i1 i2 l1 l2 xs ys i h) (nS:S ∉ [z,TI,TO,i1,i2,l1,l2]) (k:∀ c o,c≠S→h.get? c=some o→h'.get? c=some o):ZSt S z TI TO i1 i2 l1 l2 xs ys i h':=by
 have ne:∀ c,c∈[z,TI,TO,i1,i2,l1,l2]→c≠S:=fun c hc e=>nS (e ▸ hc)
 refine ⟨?_,k _ _ (ne _ (by simp)) Z.tp,Z.it1.at fun o e=>k _ o (ne _ (by simp)) e,Z.it2.at fun o e=>k _ o (ne _ (by simp)) e,Z.ls1.at fun o e=>k _ o (ne _ (by simp)) e,Z.ls2.at fun o e=>k _ o (ne _ (by simp)) e⟩
 rcases Z.fl with ⟨h1,a,b,h2⟩ | ⟨T,b,oT,h1,h2,h3,h4,h5,h6⟩
 ·exact .inl ⟨k _ _ (ne _ (by simp)) h1,a,b,k _ _ (ne _ (by simp)) h2⟩
 ·exact .inr ⟨T,b,oT,k _ _ (ne _ (by simp)) h1,k _ _ h6 h2,h3,h4,h5,h6⟩
theorem ZjR {S z TI TO i1 i2 l1 l2:Addr} {xs ys:Array Value} {i:Nat} {x y:Value} {Q:Option Value→Shared→Prop} (D:ZipApart z TI TO i1 i2 l1 l2) (Z:ZSt S z TI TO i1 i2 l1 l2 xs ys i s.heap) (hS:S < s.heap.objs.size) (hx:xs[i]?=some x) (hy:ys[i]?=some y)
  (hQ:∀ h',ZSt S z TI TO i1 i2 l1 l2 xs ys (i + 1) h'→IsPair h' s.heap.objs.size x y→h'.objs.size=s.heap.objs.size + 1→(∀ c o,c≠z→c≠TO→c≠i1→c≠i2→s.heap.get? c=some o→h'.get? c=some o)→Q (some (.ref s.heap.objs.size)) { s with heap:=h' }) :
  wpAny (model prog w) A (pyNext (.ref z)) Q E s:=by
 have lt1:i1 < s.heap.objs.size:=by obtain ⟨_,e,_⟩:=Z.it1; exact Heap.lt_size e
 have lt2:i2 < s.heap.objs.size:=by obtain ⟨_,e,_⟩:=Z.it2; exact Heap.lt_size e
 rcases Z.fl with ⟨hz,a,b,hTO⟩ | ⟨T,b,oT,hz,hT,t1,t2,t3,t4⟩
 ·have ltz:z < s.heap.objs.size:=Heap.lt_size hz
  refine wpAny_pyNext_zip_item D hz Z.tp hTO Z.it1 Z.it2 Z.ls1 Z.ls2 hx hy fun h' a1 a2 a3 a4 a5 a6 hk=>?_
  exact hQ h' ⟨.inr ⟨_,false,_,a1,a5,Nat.ne_of_gt ltz,Nat.ne_of_gt lt1,Nat.ne_of_gt lt2,Nat.ne_of_gt hS⟩,hk _ _ D.TIz D.TITO D.TIi1 D.TIi2 Z.tp,a3,a4,Z.ls1.at fun o e=>hk _ o D.l1z D.l1TO D.l1i1 D.l1i2 e,Z.ls2.at fun o e=>hk _ o D.l2z D.l2TO D.l2i1 D.l2i2 e⟩ a5 a6 hk
 ·have hTy:s.TypeIs (.ref z) "zip" := ⟨_,hz,rfl⟩
  unfold pyNext
  refine wpAny_bind (wpAny_attempt (wpAny_callSpecial?_slot (name:=Str.ofString "__next__") hTy F.slot_zip_next
   (wpAny_call_entry F.slot_zip_next hTy F.entry_zip_next
    (Zdt D hz hT Z.tp Z.it1 Z.it2 Z.ls1 Z.ls2 hx hy fun h' a1 a3 a4 a5 a6 hk=>wpAny_pure ?_) (F.args_zip_next_1 _))))
  exact hQ h' ⟨.inr ⟨T,true,oT,a1,hk _ _ t1 t2 t3 hT,t1,t2,t3,t4⟩,hk _ _ D.TIz D.TIi1 D.TIi2 Z.tp,a3,a4,Z.ls1.at fun o e=>hk _ o D.l1z D.l1i1 D.l1i2 e,Z.ls2.at fun o e=>hk _ o D.l2z D.l2i1 D.l2i2 e⟩ a5 a6 fun c o c1 _ c3 c4 e=>hk c o c1 c3 c4 e
theorem ZjJ {S z TI TO i1 i2 l1 l2:Addr} {xs ys:Array Value} {i:Nat} {Q:Option Value→Shared→Prop} (hh:A.handled=none) (D:ZipApart z TI TO i1 i2 l1 l2) (Z:ZSt S z TI TO i1 i2 l1 l2 xs ys i s.heap) (hend:xs[i]?=none∨ys[i]?=none)
  (hQ:∀ h',(∀ c o,c≠z→c≠TO→c≠i1→c≠i2→s.heap.get? c=some o→h'.get? c=some o)→Q none { s with heap:=h' }) :
  wpAny (model prog w) A (pyNext (.ref z)) Q E s:=by
 rcases Z.fl with ⟨hz,a,b,hTO⟩ | ⟨T,b,oT,hz,hT,t1,t2,t3,t4⟩
 ·exact wpAny_pyNext_zip_end hh D hz Z.tp hTO Z.it1 Z.it2 Z.ls1 Z.ls2 hend hQ
 ·have hTy:s.TypeIs (.ref z) "zip" := ⟨_,hz,rfl⟩
  unfold pyNext
  refine wpAny_bind (wpAny_attempt (wpAny_callSpecial?_slot (name:=Str.ofString "__next__") hTy F.slot_zip_next
   (wpAny_call_entry F.slot_zip_next hTy F.entry_zip_next (Zd6 hh D hz hT Z.tp Z.it1 Z.it2 Z.ls1 Z.ls2 hend fun h' e hk he=>?_) (F.args_zip_next_1 _))))
  obtain ⟨o,ho,hc⟩:=he
  refine wpAny_bind (wpAny_isInstance (T := "StopIteration") (b:=true) ⟨o,ho,hc⟩ isSubtype_stop ?_)
  exact wpAny_pure (hQ _ fun c o c1 _ c3 c4 e=>hk c o c1 c3 c4 e)
end
structure Got (lo:Nat) (av:List Addr) (xs ys:Array Value) (h:Heap) (ts:List Addr):Prop where
 nd:ts.Nodup
 new:∀ t∈ts,lo≤t∧t ∉ av
 pair:∀ (j:Nat) (t:Addr),ts[j]?=some t→∃ x y,xs[j]?=some x∧ys[j]?=some y∧IsPair h t x y
theorem Got.frame {lo:Nat} {av:List Addr} {xs ys:Array Value} {h h':Heap} {ts:List Addr} (g:Got lo av xs ys h ts) (k:∀ c o,c ∉ av→h.get? c=some o→h'.get? c=some o):Got lo av xs ys h' ts :=
 ⟨g.nd,g.new,fun j t e=>let ⟨x,y,h1,h2,h3⟩:=g.pair j t e; ⟨x,y,h1,h2,k t _ (g.new t (List.mem_of_getElem? e)).2 h3⟩⟩
section
variable {prog:Program} {w:World} {A:Around} {R:Result→Shared→Prop}
theorem ZkH {S z TI TO i1 i2 l1 l2:Addr} {xs ys:Array Value} {lo n:Nat} (hh:A.in1.handled=none) (D:ZipApart z TI TO i1 i2 l1 l2) (nS:S ∉ [z,TI,TO,i1,i2,l1,l2]) (hn:n≤sizeLine) (en:n=min xs.size ys.size) (hav:∀ a∈[z,TO,i1,i2,S],a < lo) (res:Value) :
  ∀ (k i:Nat) (s:Shared) (ts:List Addr) (c:Nat),n - i=k→i≤n→lo≤s.heap.objs.size→ZSt S z TI TO i1 i2 l1 l2 xs ys i s.heap→s.heap.get? S=some { cls:=.type "list", dict:=none,data:=.seq (ts.map Value.ref).toArray c,slots := #[] }→ts.length=i→Got lo [z,TO,i1,i2,S] xs ys s.heap ts →
  (∀ h' ts' c',h'.get? S=some { cls:=.type "list", dict:=none,data:=.seq (ts'.map Value.ref).toArray c',slots := #[] }→ts'.length=n→Got lo [z,TO,i1,i2,S] xs ys h' ts'→(∀ c o,c ∉ [z,TO,i1,i2,S]→s.heap.get? c=some o→h'.get? c=some o)→R (.ok (.ret res)) { s with heap:=h' }) →
  codeAny (model prog w) A (.builtin "list.extend.loop" ⟨[.ref S,.ref z,res],[]⟩) R s:=by
 intro k
 induction k with
 | zero =>
  intro i s ts c hk hi hlo hst hS hl hg hR
  have hin:i=n:=by omega
  subst hin
  refine codeAny_builtin F.entry_extend_loop ?_
  rw [Around.under_plainId F.plain_extend_loop _]
  show wpAny _ A.in1 (pyNext (.ref z) >>= _) _ _ s
  refine wpAny_bind (ZjJ hh D hst ?_ fun h' hk'=>?_)
  ·rcases Nat.le_total xs.size ys.size with h | h
   ·exact .inl (Array.getElem?_eq_none (by omega))
   ·exact .inr (Array.getElem?_eq_none (by omega))
  have k2:∀ c o,c ∉ [z,TO,i1,i2,S]→s.heap.get? c=some o→h'.get? c=some o:=fun c o hc e=>hk' c o (fun h=>hc (by simp [h])) (fun h=>hc (by simp [h])) (fun h=>hc (by simp [h])) (fun h=>hc (by simp [h])) e
  exact wpAny_pure (hR h' ts c (hk' S _ (fun h=>nS (by simp [h])) (fun h=>nS (by simp [h])) (fun h=>nS (by simp [h])) (fun h=>nS (by simp [h])) hS) hl (hg.frame k2) k2)
 | succ k ih =>
  intro i s ts c hk hi hlo hst hS hl hg hR
  have hlt:i < n:=by omega
  refine codeAny_builtin F.entry_extend_loop ?_
  rw [Around.under_plainId F.plain_extend_loop _]
  show wpAny _ A.in1 (pyNext (.ref z) >>= _) _ _ s
  have hx:xs[i]?=some xs[i]:=Array.getElem?_eq_getElem (by omega)
  have hy:ys[i]?=some ys[i]:=Array.getElem?_eq_getElem (by omega)
  refine wpAny_bind (ZjR D hst (Heap.lt_size hS) hx hy fun h' Z' pr sz hk'=>?_)
  have hS':h'.get? S=_:=hk' S _ (fun h=>nS (by simp [h])) (fun h=>nS (by simp [h])) (fun h=>nS (by simp [h])) (fun h=>nS (by simp [h])) hS
  have k2:∀ c o,c ∉ [z,TO,i1,i2,S]→s.heap.get? c=some o→h'.get? c=some o:=fun c o hc e=>hk' c o (fun h=>hc (by simp [h])) (fun h=>hc (by simp [h])) (fun h=>hc (by simp [h])) (fun h=>hc (by simp [h])) e
  have ltS:S < s.heap.objs.size:=Heap.lt_size hS
  have nav:s.heap.objs.size ∉ [z,TO,i1,i2,S]:=fun hm=>by
   exact absurd (hav _ hm) (Nat.not_lt.mpr hlo)
  show wpAny _ A.in1 (updateSeq S (·.push (.ref s.heap.objs.size)) >>= _) _ _ _
  refine wpAny_bind ?_
  have sz1:(ts.map Value.ref).toArray.size=i:=by simp [hl]
  have sb:Heap.SameBut S h' (h'.update S (Obj.mapSeq (·.push (Value.ref s.heap.objs.size)))):=Heap.SameBut.update ..
  have e1:(ts.map Value.ref).toArray.push (.ref s.heap.objs.size)=((ts ++ [s.heap.objs.size]).map Value.ref).toArray:=by simp
  have hS₂:=Heap.get?_update_self (Obj.mapSeq (·.push (Value.ref s.heap.objs.size))) hS' rfl
  replace hS₂:(h'.update S (Obj.mapSeq (·.push (Value.ref s.heap.objs.size)))).get? S=some { cls:=.type "list", dict:=none,data:=.seq ((ts.map Value.ref).toArray.push (.ref s.heap.objs.size)) _,slots := #[] }:=hS₂
  rw [e1] at hS₂
  refine wpAny_updateSeq hS' rfl (wpAny_pure ⟨plainId_quiet F.plain_extend_loop _,ih (i + 1) _ (ts ++ [s.heap.objs.size]) _ (by omega) hlt ?_ (Z'.frame nS fun c o hc e=>?_) hS₂ (by simp [hl]) ?_ fun h'' ts' c' q1 q2 q3 q4=>?_⟩)
   (by rw [sz1]; omega) (by show (Array.push _ _).size≤sizeLine + 1; rw [Array.size_push,sz1]; omega)
  ·show lo≤(h'.update S (Obj.mapSeq (·.push (Value.ref s.heap.objs.size)))).objs.size
   rw [sb.1,sz]
   omega
  ·exact sb.extBut _ _ hc e
  ·refine Got.frame (h:=h') ⟨?_,fun t ht=>?_,fun j t hj=>?_⟩ fun c o hc e=>sb.extBut _ _ (fun h=>hc (by simp [h])) e
   ·refine List.nodup_append.mpr ⟨hg.nd,by simp,fun a ha b hb e=>?_⟩
    have hb:b=s.heap.objs.size:=by simpa using hb
    subst hb e
    obtain ⟨j,hj⟩:=List.getElem?_of_mem ha
    obtain ⟨_,_,_,_,q⟩:=hg.pair j _ hj
    exact Nat.lt_irrefl _ (Heap.lt_size q)
   ·rcases List.mem_append.mp ht with ht | ht
    ·exact hg.new t ht
    ·have:t=s.heap.objs.size:=by simpa using ht
     subst this
     exact ⟨hlo,nav⟩
   ·rcases Nat.lt_or_ge j ts.length with hjl | hjl
    ·rw [List.getElem?_append_left hjl] at hj
     obtain ⟨x,y,q1,q2,q3⟩:=hg.pair j t hj
     exact ⟨x,y,q1,q2,k2 _ _ (hg.new t (List.mem_of_getElem? hj)).2 q3⟩
    ·rw [List.getElem?_append_right hjl] at hj
     have jl:j - ts.length=0:=by
      rcases Nat.eq_zero_or_pos (j - ts.length) with z | z
      ·exact z
      ·rw [List.getElem?_eq_none (by show 1≤_; omega)] at hj; cases hj
     rw [jl] at hj
     have ej:j=i:=by omega
     subst ej
     cases hj
     exact ⟨_,_,hx,hy,pr⟩
  ·exact hR h'' ts' c' q1 q2 q3 fun c o hc e=>q4 c o hc (sb.extBut _ _ (fun h=>hc (by simp [h])) (k2 c o hc e))
theorem Zg1:typeLookup (.type "zip") "__len__" = pure none:=by rw [typeLookup_type,builtinLookup_eq_fast]; kernel_rfl
theorem ZfK:typeLookup (.type "zip") "__length_hint__" = pure none:=by rw [typeLookup_type,builtinLookup_eq_fast]; kernel_rfl
theorem Zd0 {s:Shared} {S z TI TO i1 i2 l1 l2:Addr} {xs ys:Array Value} {lo n:Nat} (hh:A.in1.handled=none) (D:ZipApart z TI TO i1 i2 l1 l2) (nS:S ∉ [z,TI,TO,i1,i2,l1,l2]) (hn:n≤sizeLine) (en:n=min xs.size ys.size) (hav:∀ a∈[z,TO,i1,i2,S],a < lo)
  (hlo:lo≤s.heap.objs.size) (Z:ZSt S z TI TO i1 i2 l1 l2 xs ys 0 s.heap) (hz0:IsZ s.heap z TI TO .none (.bool false)) (hS:s.heap.get? S=some { cls:=.type "list", data:=.seq #[] })
  (hR:∀ h' ts c',h'.get? S=some { cls:=.type "list", dict:=none,data:=.seq (ts.map Value.ref).toArray c',slots := #[] }→ts.length=n→Got lo [z,TO,i1,i2,S] xs ys h' ts→(∀ c o,c ∉ [z,TO,i1,i2,S]→s.heap.get? c=some o→h'.get? c=some o)→R (.ok (.ret .none)) { s with heap:=h' }) :
  wpAny (model prog w) A.in1 (Builtin.«list.__init__» ⟨[.ref S,.ref z],[]⟩)
   (fun fin s'=>match fin with | .done f=>R (.ok f) s' | .again c'=>c'.quiet=true∧codeAny (model prog w) A c' R s') (fun e s'=>R (.error e) s') s:=by
 have zS:z≠S:=fun h=>nS (by simp [h])
 show wpAny _ A.in1 (do let old ← Builtin.List.listItems (.ref S); Builtin.List.listUpdate (.ref S) (fun _ => #[]); letGo old.toList.reverse; Builtin.List.listExtendWith (.ref S) (.ref z) .none) _ _ s
 refine wpAny_bind ?_
 unfold Builtin.List.listItems
 refine wpAny_bind (wpAny_seqItems hS rfl (wpAny_pure ?_))
 show wpAny _ A.in1 (updateSeq S (fun _ => #[]) >>= fun _=>letGo (#[]:Array Value).toList.reverse >>= fun _=>Builtin.List.listExtendWith (.ref S) (.ref z) .none) _ _ s
 refine wpAny_bind (wpAny_updateSeq hS rfl ?_)
 have sb1:Heap.SameBut S s.heap (s.heap.update S (Obj.mapSeq (fun _=>(#[]:Array Value)))):=Heap.SameBut.update ..
 have hS₂:=Heap.get?_update_self (Obj.mapSeq (fun _=>(#[]:Array Value))) hS rfl
 refine wpAny_bind (wpAny_letGo ?_)
 have hz1:IsZ (s.heap.update S (Obj.mapSeq (fun _=>(#[]:Array Value)))) z TI TO .none (.bool false):=sb1.extBut _ _ zS hz0
 have hT:Shared.TypeIs { s with heap:=s.heap.update S (Obj.mapSeq (fun _=>(#[]:Array Value))) } (.ref z) "zip" := ⟨_,hz1,rfl⟩
 unfold Builtin.List.listExtendWith
 refine wpAny_bind (wpAny_typeOf hT ?_)
 have h1:Builtin.List.listSameRef (.ref S) (.ref z)=false:=by simp [Builtin.List.listSameRef,zS.symm]
 have h2:(Value.type "zip" == Value.type "list")=false:=by decide
 have h3:(Value.type "zip" == Value.type "tuple")=false:=by decide
 simp only [h1,h2,h3,Bool.or_false,Bool.false_eq_true,if_false]
 refine wpAny_bind (wpAny_pyIter_zip hz1 ?_)
 refine wpAny_bind (wpAny_holding ?_)
 unfold Builtin.List.listLengthHint
 refine wpAny_bind (wpAny_specialOf hT Zg1 ?_)
 show wpAny _ A.in1 (specialOf (Value.ref z) (Str.ofString "__length_hint__") >>= _) _ _ _
 refine wpAny_bind (wpAny_specialOf hT ZfK ?_)
 refine wpAny_pure ?_
 show wpAny _ A.in1 (rule "list.extend.makes-room" >>= fun _=>Builtin.List.listTouch (.ref S) >>= fun _ =>
  again (.builtin "list.extend.loop" ⟨[.ref S,.ref z,.none],[]⟩)) _ _ _
 refine wpAny_bind (wpAny_rule ?_)
 refine wpAny_bind ?_
 show wpAny _ A.in1 (updateSeq S (·.push .none) >>= fun _=>updateSeq S (·.pop)) _ _ _
 refine wpAny_bind (wpAny_updateSeq hS₂ rfl ?_)
 have hS₃:=Heap.get?_update_self (Obj.mapSeq (·.push Value.none)) hS₂ rfl
 refine wpAny_updateSeq (hz:=by seq_fits) hS₃ rfl ?_
 have hS₄:=Heap.get?_update_self (Obj.mapSeq (·.pop)) hS₃ rfl
 have sb2:Heap.SameBut S (s.heap.update S (Obj.mapSeq (fun _=>(#[]:Array Value)))) ((s.heap.update S (Obj.mapSeq (fun _=>(#[]:Array Value)))).update S (Obj.mapSeq (·.push Value.none))):=Heap.SameBut.update ..
 have sb3:Heap.SameBut S ((s.heap.update S (Obj.mapSeq (fun _=>(#[]:Array Value)))).update S (Obj.mapSeq (·.push Value.none))) (((s.heap.update S (Obj.mapSeq (fun _=>(#[]:Array Value)))).update S (Obj.mapSeq (·.push Value.none))).update S (Obj.mapSeq (·.pop))):=Heap.SameBut.update ..
 have oth:∀ b o,b≠S→s.heap.get? b=some o→(((s.heap.update S (Obj.mapSeq (fun _=>(#[]:Array Value)))).update S (Obj.mapSeq (·.push Value.none))).update S (Obj.mapSeq (·.pop))).get? b=some o :=
  fun b o hb e=>sb3.extBut _ _ hb (sb2.extBut _ _ hb (sb1.extBut _ _ hb e))
 refine wpAny_pure ⟨plainId_quiet F.plain_extend_loop _,ZkH (lo:=lo) (n:=n) hh D nS hn en hav .none n 0 _ [] _ rfl (Nat.zero_le _) ?_ (Z.frame nS fun c o hc e=>oth c o hc e) hS₄ rfl ⟨by simp,by simp,by simp⟩ fun h' ts c' q1 q2 q3 q4=>?_⟩
 ·show lo≤(((s.heap.update S (Obj.mapSeq (fun _=>(#[]:Array Value)))).update S (Obj.mapSeq (·.push Value.none))).update S (Obj.mapSeq (·.pop))).objs.size
  rw [sb3.1,sb2.1,sb1.1]
  exact hlo
 ·exact hR h' ts c' q1 q2 q3 fun c o hc e=>q4 c o hc (oth c o (fun h=>hc (by simp [h])) e)
end
section
variable {prog:Program} {w:World} {A:Around} {E:Value→Shared→Prop} {s:Shared}
theorem Zev {Q:Value→Shared→Prop} {z TI TO i1 i2 l1 l2:Addr} {xs ys:Array Value} {n:Nat} (hh:A.handled=none) (D:ZipApart z TI TO i1 i2 l1 l2) (hn:n≤sizeLine) (en:n=min xs.size ys.size)
  (hz:IsZ s.heap z TI TO .none (.bool false)) (hTO:∃ a b,IsPair s.heap TO a b) (hTI:IsPair s.heap TI (.ref i1) (.ref i2)) (h1:s.heap.IsListIter i1 l1 0) (h2:s.heap.IsListIter i2 l2 0) (hl1:s.heap.IsList l1 xs) (hl2:s.heap.IsList l2 ys)
  (hQ:∀ h' ts c',h'.get? s.heap.objs.size=some { cls:=.type "list", dict:=none,data:=.seq (ts.map Value.ref).toArray c',slots := #[] }→ts.length=n→Got (s.heap.objs.size + 1) [] xs ys h' ts→(∀ c o,c ∉ [z,TO,i1,i2]→s.heap.get? c=some o→h'.get? c=some o)→Q (.ref s.heap.objs.size) { s with heap:=h' }) :
  wpAny (model prog w) A (call (.type "list") [.ref z]) Q E s:=by
 refine callType_codes (Q₁:=fun obj s₁=>obj=.ref s.heap.objs.size∧s₁={ s with heap:=s.heap.push { cls:=.type "list", data:=.seq #[] } }) F.called_list (F.typeCall_list_1 _) F.entry_list_init
  (code_list_new _ ⟨rfl,rfl⟩) fun obj s₁ h₁=>?_
 obtain ⟨rfl,rfl⟩:=h₁
 have hS:(s.heap.push { cls:=.type "list", data:=.seq #[] }).get? s.heap.objs.size=some { cls:=.type "list", data:=.seq #[] }:=Heap.get?_push_size _ rfl
 have up:∀ {b o},s.heap.get? b=some o→(s.heap.push { cls:=.type "list", data:=.seq #[] }).get? b=some o:=fun e=>Heap.get?_push_of_some _ e
 obtain ⟨a,b,hTO⟩:=hTO
 have lz:z < s.heap.objs.size:=Heap.lt_size hz
 have lTI:TI < s.heap.objs.size:=Heap.lt_size hTI
 have lTO:TO < s.heap.objs.size:=Heap.lt_size hTO
 have li1:i1 < s.heap.objs.size:=by obtain ⟨_,e,_⟩:=h1; exact Heap.lt_size e
 have li2:i2 < s.heap.objs.size:=by obtain ⟨_,e,_⟩:=h2; exact Heap.lt_size e
 have ll1:l1 < s.heap.objs.size:=by obtain ⟨_,e,_⟩:=hl1; exact Heap.lt_size e
 have ll2:l2 < s.heap.objs.size:=by obtain ⟨_,e,_⟩:=hl2; exact Heap.lt_size e
 have nS:s.heap.objs.size ∉ [z,TI,TO,i1,i2,l1,l2]:=fun hm=>by
  simp only [List.mem_cons,List.not_mem_nil,or_false] at hm
  have ne:∀ {b:Addr},b < s.heap.objs.size→s.heap.objs.size≠b:=fun l e=>Nat.lt_irrefl _ (Nat.lt_of_lt_of_eq l e)
  rcases hm with h | h | h | h | h | h | h <;> first | exact ne lz h | exact ne lTI h | exact ne lTO h | exact ne li1 h | exact ne li2 h | exact ne ll1 h | exact ne ll2 h
 refine ⟨⟨_,hS,rfl⟩,F.args_list_init_2 _ _,Zd0 (lo:=s.heap.objs.size + 1) (n:=n) hh D nS hn en ?_ (by rw [Heap.size_push]; exact Nat.le_refl _) ⟨.inl ⟨up hz,a,b,up hTO⟩,up hTI,h1.at fun o e=>up e,h2.at fun o e=>up e,hl1.at fun o e=>up e,hl2.at fun o e=>up e⟩ (up hz) hS fun h' ts c' q1 q2 q3 q4=>⟨rfl,?_⟩⟩
 ·intro a ha
  simp only [List.mem_cons,List.not_mem_nil,or_false] at ha
  rcases ha with rfl | rfl | rfl | rfl | rfl
  ·exact Nat.lt_succ_of_lt lz
  ·exact Nat.lt_succ_of_lt lTO
  ·exact Nat.lt_succ_of_lt li1
  ·exact Nat.lt_succ_of_lt li2
  ·exact Nat.lt_succ_self _
 ·refine hQ h' ts c' q1 q2 ⟨q3.nd,fun t ht=>⟨(q3.new t ht).1,by simp⟩,q3.pair⟩ fun c o hc e=>q4 c o ?_ (up e)
  have:=Heap.lt_size e
  intro hm
  simp only [List.mem_cons,List.not_mem_nil,or_false] at hm hc
  rcases hm with h | h | h | h | h
  ·exact hc (.inl h)
  ·exact hc (.inr (.inl h))
  ·exact hc (.inr (.inr (.inl h)))
  ·exact hc (.inr (.inr (.inr h)))
  ·exact Nat.lt_irrefl _ (Nat.lt_of_lt_of_eq this h.symm)
end
end PySem
namespace L2
open PySem PySem.Spec PyProof.Rows PySem.W
def lays (H:Hp):List Addr→List (V×V)→Hp
 | t :: ts,p :: ps=>lays (upd H t (.tup [p.1,p.2])) ts ps
 | _,_=>H
theorem ZcC:∀ {ts:List Addr} {ps:List (V×V)} {H:Hp} {b:Addr},b ∉ ts→lays H ts ps b=H b
 | [],_,_,_,_=>rfl
 | _ :: _,[],_,_,_=>rfl
 | t :: ts,p :: ps,H,b,h=>by
  show lays (upd H t _) ts ps b=H b
  rw [ZcC (fun z=>h (List.mem_cons_of_mem _ z)),Zak (fun z:b=t=>h (by rw [z]; exact List.mem_cons_self))]
theorem ZdK:∀ {ts:List Addr} {ps:List (V×V)} {H:Hp} {b:Addr} {o:HO},lays H ts ps b=some o→(∃ (j:Nat) (p:V×V),ts[j]?=some b∧ps[j]?=some p∧o=.tup [p.1,p.2])∨H b=some o
 | [],_,_,_,_,h=>.inr h
 | _ :: _,[],_,_,_,h=>.inr h
 | t :: ts,p :: ps,H,b,o,h=>by
  rcases ZdK (ts:=ts) (ps:=ps) h with ⟨j,q,h1,h2,h3⟩ | h
  ·exact .inl ⟨j + 1,q,by simpa using h1,by simpa using h2,h3⟩
  ·by_cases hb:b=t
   ·subst hb
    rw [Zal] at h
    cases h
    exact .inl ⟨0,p,rfl,rfl,rfl⟩
   ·rw [Zak hb] at h
    exact .inr h
theorem ZdO:∀ (ts:List Addr),Vals (ts.map V.ref) (ts.map Value.ref)
 | []=>.nil
 | t :: ts=>.cons rfl (ZdO ts)
theorem neN {x y:Nat} (h:x < y∨y < x):x≠y:=by omega
theorem ZfJ {n a b:Nat} (ha:a < n) (hb:b < n):ZipApart (n + 4) (n + 2) (n + 3) n (n + 1) a b :=
 ⟨neN (by omega),neN (by omega),neN (by omega),neN (by omega),neN (by omega),neN (by omega),neN (by omega),neN (by omega),neN (by omega),neN (by omega),neN (by omega),neN (by omega),neN (by omega),neN (by omega),neN (by omega),neN (by omega),neN (by omega),neN (by omega)⟩
theorem outN {n c:Nat} (h:c < n) (hm:c∈[n + 4,n + 3,n,n + 1]):False:=by
 simp only [List.mem_cons,List.not_mem_nil,or_false] at hm
 omega
section
variable {X:Cx}
def tLZ (t:TA):TE:=fun σ H Q=>t σ H fun vs H1=>∃ a b xs ys,vs=[.ref a,.ref b]∧H1 a=some (.lst xs)∧H1 b=some (.lst ys) ∧
 ∀ (ts:List Addr) (S:Addr),ts.length=(xs.zip ys).length→ts.Nodup→S ∉ ts→(∀ t∈ts,H1 t=none)→H1 S=none→Q (.ref S) (upd (lays H1 ts (xs.zip ys)) S (.lst (ts.map V.ref)))
theorem Zg7 {e1 e2:Expr} {t:TA} {p1 p2 pos1 pos2:Pos} (ha:PA X [e1,e2] t) (hc:X.calm=true) (hgl:Gl X "list") (hml:X.mg "list" = none) (hgz:Gl X "zip") (hmz:X.mg "zip" = none)
  (he1:starEach [.Call (.Name "zip" p2) [e1,e2] [] pos2] X.env=(false,eval (.Call (.Name "zip" p2) [e1,e2] [] pos2) X.env) :: starEach [] X.env:=by rfl)
  (he2:starEach [e1,e2] X.env=(false,eval e1 X.env) :: starEach [e2] X.env:=by rfl) (hpl:(backTo pos2 (starEach [e2] X.env)).any (·.1)=false:=by rfl) :
  PE X (.Call (.Name "list" p1) [.Call (.Name "zip" p2) [e1,e2] [] pos2] [] pos1) (tLZ t):=by
 intro pins s σ H Q I h
 refine wpAny_Call_Name_kw (Zbs (u:=.type "list") I hgl hml (by decide +kernel) ?_)
 refine PyProof.Rows.callWith_type1 ?_ he1 rfl
 rw [he1]
 refine Calls.spliced_cons ?_
 refine wpAny_Call_Name_kw (Zbs (u:=.type "zip") I hgz hmz (by decide +kernel) ?_)
 refine PyProof.Rows.callWith_type1 (thn (ha pos2 pins s σ H _ I h) fun us s1 ⟨vs,H1,I1,r1,q1⟩=>?_) he2 hpl
 obtain ⟨a,b,xs,ys,rfl,hA,hB,q⟩:=q1
 obtain ⟨u,v,rfl,ru,rv⟩:=vals2 r1
 cases ru; cases rv
 obtain ⟨z1,its1,n1,v1,len1,o1⟩:=I1.lstM hA
 obtain ⟨z2,its2,n2,v2,len2,o2⟩:=I1.lstM hB
 have L1:s1.heap.IsList a its1.toArray:=⟨_,o1,rfl,n1,rfl⟩
 have L2:s1.heap.IsList b its2.toArray:=⟨_,o2,rfl,n2,rfl⟩
 have la:a < s1.heap.objs.size:=Heap.lt_size o1
 have lb:b < s1.heap.objs.size:=Heap.lt_size o2
 refine call_zip_2 L1 L2 fun h1 a1 a2 a3 a4 a5 a6 k1=>?_
 refine Calls.spliced_nil ?_
 have D:ZipApart (s1.heap.objs.size + 4) (s1.heap.objs.size + 2) (s1.heap.objs.size + 3) s1.heap.objs.size (s1.heap.objs.size + 1) a b:=ZfJ la lb
 refine Zev (n:=min its1.length its2.length) (I1.ok.hd hc) D (by omega) (by simp) a1 ⟨_,_,a3⟩ a2 a4 a5 (L1.at fun o e=>k1 _ _ e) (L2.at fun o e=>k1 _ _ e) fun h2 ts c' g1 g2 g3 g4=>?_
 have keep:∀ c o,s1.heap.get? c=some o→h2.get? c=some o:=fun c o e=>g4 c o (fun hm=>outN (Heap.lt_size e) hm) (k1 c o e)
 have S5:h1.objs.size=s1.heap.objs.size + 5:=a6
 have big:∀ t∈ts,s1.heap.objs.size≤t∧t≠h1.objs.size:=fun t ht =>
  have q:h1.objs.size + 1≤t:=(g3.new t ht).1
  ⟨Nat.le_trans (by rw [S5]; exact Nat.le_add_right _ 6) q,fun z=>Nat.lt_irrefl _ (Nat.lt_of_lt_of_eq q z)⟩
 have nS:h1.objs.size ∉ ts:=fun hm=>(big _ hm).2 rfl
 have fr:∀ {t:Addr},s1.heap.objs.size≤t→H1 t=none:=fun h=>I1.hok.fresh h
 have leS:s1.heap.objs.size≤h1.objs.size:=by rw [S5]; exact Nat.le_add_right _ 5
 have frS:H1 h1.objs.size=none:=fr leS
 have tl:ts.length=(xs.zip ys).length:=by rw [List.length_zip,g2]; omega
 have old:∀ {b:Addr} {o:HO},H1 b=some o→upd (lays H1 ts (xs.zip ys)) h1.objs.size (.lst (ts.map V.ref)) b=some o:=fun {b o} e=>by
  have hb:b < s1.heap.objs.size:=I1.hok.lt e
  rw [Zak (Nat.ne_of_lt (Nat.lt_of_lt_of_le hb leS)),ZcC (fun hm=>Nat.lt_irrefl _ (Nat.lt_of_lt_of_le hb (big b hm).1))]
  exact e
 have newN:∀ {b:Addr} {o:Obj},s1.heap.get? b=some o→H1 b=none→upd (lays H1 ts (xs.zip ys)) h1.objs.size (.lst (ts.map V.ref)) b=none:=fun {b o} e n=>by
  have hb:=Heap.lt_size e
  rw [Zak (Nat.ne_of_lt (Nat.lt_of_lt_of_le hb leS)),ZcC (fun hm=>Nat.lt_irrefl _ (Nat.lt_of_lt_of_le hb (big b hm).1))]
  exact n
 refine ⟨.ref h1.objs.size,upd (lays H1 ts (xs.zip ys)) h1.objs.size (.lst (ts.map V.ref)),I1.un (t':=s1.toks) ⟨fun b o e _ _ _=>keep b o e,fun b o e _ _ _=>⟨o.slots,keep b o e⟩,fun b o e n _=>newN e n,fun b o e _=>⟨o,keep b o e⟩,fun b xs e=>old e,fun b o u e=>old e,fun b ps e=>⟨#[],by rw [old e]; simp⟩⟩ ?_,rfl,q ts _ tl g3.nd nS (fun t ht=>fr (big t ht).1) frS⟩
 intro b o e
 by_cases hb:b=h1.objs.size
 ·subst hb
  rw [Zal] at e
  cases e
  exact ⟨by rw [List.length_map,g2]; omega,_,c',ZdO ts,g1⟩
 ·rw [Zak hb] at e
  rcases ZdK e with ⟨j,p,e1,e2,rfl⟩ | e
  ·obtain ⟨x,y,q1,q2,q3⟩:=g3.pair j b e1
   rw [List.getElem?_zip_eq_some] at e2
   obtain ⟨w1,w2⟩:=e2
   obtain ⟨u1,m1,m2⟩:=v1.get w1
   obtain ⟨u2,m3,m4⟩:=v2.get w2
   rw [List.getElem?_toArray] at q1 q2
   rw [m1] at q1; rw [m3] at q2
   cases q1; cases q2
   exact ⟨by show 2≤sizeLine; decide,[_,_],.cons m2 (.cons m4 .nil),⟨_,q3,rfl,_,rfl⟩⟩
  ·exact (I1.hok b o e).stay (fun c u _ g=>keep c u g) (fun c g=>old g) fun c xs g=>old g
end
end L2
namespace L3
open PySem L2
section
variable {K:PySem.W.Frag} {R:Hp} {W:Addr→Prop} {σ:St} {ρ:List Sl}
theorem Ev.lays:∀ {ts:List Addr} {vs ws:List V} {ds es:List D} {B H:Hp},Ev K R W B H σ ρ→Reps K B vs ds→Reps K B ws es→ts.length=(vs.zip ws).length→ts.Nodup→(∀ t∈ts,H t=none) →
  Ev K R W (L2.lays B ts (vs.zip ws)) (L2.lays H ts (vs.zip ws)) σ ρ∧Grow R B (L2.lays B ts (vs.zip ws))∧Reps K (L2.lays B ts (vs.zip ws)) (ts.map V.ref) ((ds.zip es).map fun p=>D.tup [p.1,p.2])
 | [],vs,ws,ds,es,B,H,e,r1,r2,hl,_,_=>by
  have q:(ds.zip es).length=0:=by
   rw [List.length_zip,← r1.length,← r2.length,← List.length_zip]
   exact hl.symm
  rw [List.length_eq_zero_iff.mp q]
  exact ⟨e,Grow.refl _ _,.nil⟩
 | t :: ts,vs,ws,ds,es,B,H,e,r1,r2,hl,nd,fr=>by
  cases r1 with
  | nil=>simp at hl
  | cons a1 r1 =>
   cases r2 with
   | nil=>simp at hl
   | cons a2 r2 =>
    rename_i v d vs ds w d2 ws es
    have ht:=fr t List.mem_cons_self
    have g:=e.grow ht (.tup [v,w])
    have nd':=List.nodup_cons.mp nd
    obtain ⟨h1,h2,h3⟩:=Ev.lays (ts:=ts) (e.alloc ht (.tup [v,w])) (r1.mono g.s) (r2.mono g.s) (by simpa using hl) nd'.2 (fun x hx=>by
     rw [Zak (fun z:x=t=>nd'.1 (by rw [← z]; exact hx))]
     exact fr x (List.mem_cons_of_mem _ hx))
    refine ⟨h1,g.trans h2,.cons (.tup (vs:=[v,w]) (h2.s _ _ Zal) (.cons ((a1.mono g.s).mono h2.s) (.cons ((a2.mono g.s).mono h2.s) .nil))) h3⟩
end
section
variable {X:Cx} {e1 e2:Expr} {ua ub:UE}
def uZip (ua ub:UE):UL:=fun ρ k=>ua ρ fun x=>ub ρ fun y=>∃ ds es,x=.lst ds∧y=.lst es∧k ((ds.zip es).map fun p=>.tup [p.1,p.2])
theorem o_zip {p1 p2 pos1 pos2:Pos} (ha:PE3 X e1 ua) (hb:PE3 X e2 ub) (hc:X.calm=true) (hgl:Gl X "list") (hml:X.mg "list" = none) (hgz:Gl X "zip") (hmz:X.mg "zip" = none)
  (he1:starEach [.Call (.Name "zip" p2) [e1,e2] [] pos2] X.env=(false,eval (.Call (.Name "zip" p2) [e1,e2] [] pos2) X.env) :: starEach [] X.env:=by rfl)
  (he2:starEach [e1,e2] X.env=(false,eval e1 X.env) :: starEach [e2] X.env:=by rfl) (he3:starEach [e2] X.env=(false,eval e2 X.env) :: starEach [] X.env:=by rfl) (hpl:(backTo pos2 (starEach [e2] X.env)).any (·.1)=false:=by rfl) :
  PO3 X (.Call (.Name "list" p1) [.Call (.Name "zip" p2) [e1,e2] [] pos2] [] pos1) (uZip ua ub):=by
 obtain ⟨_,h1,r1⟩:=ha; obtain ⟨_,h2,r2⟩:=hb
 refine ⟨_,Zg7 (Zau h1 (Zau h2 ZaR he3) he2) hc hgl hml hgz hmz he1 he2 hpl,fun ρ k h R W B H σ Q e q=>?_⟩
 refine r1 ρ _ h R W B H σ _ e fun d v B1 H1 z1 e1 g1 s1=>?_
 refine r2 ρ _ z1 R W B1 H1 σ _ e1 fun d' v' B2 H2 z2 e2 g2 s2=>?_
 obtain ⟨ds,es,rfl,rfl,z⟩:=z2
 obtain ⟨a,vs,rfl,ha,rs⟩:=(s1.mono g2.s).lstV
 obtain ⟨b,ws,rfl,hb,rt⟩:=s2.lstV
 refine ⟨a,b,vs,ws,rfl,e2.bh _ _ ha,e2.bh _ _ hb,fun ts S hl nd nS fr frS=>?_⟩
 obtain ⟨e3,g3,r3⟩:=e2.lays rs rt hl nd fr
 obtain ⟨f1,f2,f3,f4,f5⟩:=e3.newO (by rw [ZcC nS]; exact frS) r3
 exact q _ S _ _ _ z f1 ((g1.trans g2).trans g3) f2 f3 f4 r3 f5
end
end L3
namespace Cut
open PySem L2 L3
open PySem.Builtin.Int (intBits)
abbrev F2:=Int×Int
def fadd (x y:F2):F2:=(x.1 * y.2 + y.1 * x.2,x.2 * y.2)
def fsum:List F2→F2
 | []=>(0,1)
 | x :: l=>fadd x (fsum l)
theorem Zew (x y:F2):fadd x y=fadd y x:=by unfold fadd; refine Prod.ext ?_ ?_ <;> simp only <;> grind
theorem ZgW (x y z:F2):fadd (fadd x y) z=fadd x (fadd y z):=by unfold fadd; refine Prod.ext ?_ ?_ <;> simp only <;> grind
theorem Ze5 (x:F2):fadd (0,1) x=x:=by unfold fadd; refine Prod.ext ?_ ?_ <;> simp only <;> grind
theorem ZaP:∀ (a b:List F2),fsum (a ++ b)=fadd (fsum a) (fsum b)
 | [],b=>(Ze5 _).symm
 | x :: a,b=>by
  show fadd x (fsum (a ++ b))=fadd (fadd x (fsum a)) (fsum b)
  rw [ZaP a b,ZgW]
theorem ZhK (a b:List F2):fsum (a ++ b)=fsum (b ++ a):=by rw [ZaP,ZaP,Zew]
theorem ZjT (x:F2):fsum [x]=x:=by
 show fadd x (0,1)=x
 rw [Zew,Ze5]
theorem ZhU (a:List F2) (x:F2):fsum (a ++ [x])=fadd (fsum a) x:=by rw [ZaP,ZjT]
def sdf (p q:P3):F2:=(p.1 * q.2.1 - p.2.1 * q.1,p.2.2 * q.2.2)
def chn (x:P3):List P3→List F2
 | []=>[]
 | a :: l=>sdf x a :: chn a l
def Zg0 (x:P3):List P3→P3
 | []=>x
 | a :: l=>Zg0 a l
theorem ZdH:∀ (x:P3) (l m:List P3),chn x (l ++ m)=chn x l ++ chn (Zg0 x l) m
 | _,[],_=>rfl
 | x,a :: l,m=>by
  show sdf x a :: chn a (l ++ m)=sdf x a :: (chn a l ++ chn (Zg0 a l) m)
  rw [ZdH a l m]
def cyc:List P3→List F2
 | []=>[]
 | x :: l=>chn x (l ++ [x])
theorem Zky (x:P3) (l:List P3):fsum (chn (Zg0 x l) (x :: l))=fsum (cyc (x :: l)):=by
 show fsum ([sdf (Zg0 x l) x] ++ chn x l)=fsum (chn x (l ++ [x]))
 rw [ZdH,ZhK]
 rfl
theorem Zit:∀ (x:P3) (l m:List P3),m.length=l.length + 1→True→∀ (h:∃ y,m=l ++ [y]),((x :: l).zip m).map (fun s=>sdf s.1 s.2)=chn x m
 | x,[],_,_,_,⟨y,rfl⟩=>rfl
 | x,a :: l,_,_,_,⟨y,rfl⟩=>by
  show sdf x a :: ((a :: l).zip (l ++ [y])).map (fun s=>sdf s.1 s.2)=sdf x a :: chn a (l ++ [y])
  rw [Zit a l (l ++ [y]) (by simp) trivial ⟨y,rfl⟩]
theorem Zja:∀ (l:List P3),(l.zip (l.drop 1 ++ l.take 1)).map (fun s=>sdf s.1 s.2)=cyc l
 | []=>rfl
 | x :: l=>Zit x l (l ++ [x]) (by simp) trivial ⟨x,rfl⟩
def IsF (r s:F2):Prop:=Low r.1 r.2∧0 < s.2∧r.1 * s.2=s.1 * r.2
theorem IsF.uniq {r t s:F2} (h:IsF r s) (g:IsF t s):r=t:=by
 have s0:=Int.ne_of_gt h.2.1
 have:=Zeb h.1 g.1 (Int.eq_of_mul_eq_mul_right s0 (by have:=h.2.2; have:=g.2.2; grind))
 exact Prod.ext this.1 this.2
theorem IsF.zero:IsF (0,1) (fsum []):=⟨⟨by decide,by decide⟩,by decide,rfl⟩
theorem IsF.low {c d:Int} (hd:0 < d):IsF (nrat c d) (c,d):=by
 obtain ⟨l,e,_⟩:=Zaw (t:=c) (b:=d) (Int.ne_of_gt hd)
 exact ⟨l,hd,e⟩
theorem IsF.add {r t s u:F2} (h:IsF r s) (g:IsF t u):IsF (nrat (r.1 * t.2 + t.1 * r.2) (r.2 * t.2)) (fadd s u):=by
 have p1:=h.1.1
 have p2:=g.1.1
 obtain ⟨l,e,_⟩:=Zaw (t:=r.1 * t.2 + t.1 * r.2) (b:=r.2 * t.2) (Zlb p1 p2)
 refine ⟨l,Int.mul_pos h.2.1 g.2.1,?_⟩
 generalize nrat (r.1 * t.2 + t.1 * r.2) (r.2 * t.2)=w at *
 have e1:=h.2.2
 have e2:=g.2.2
 refine Int.eq_of_mul_eq_mul_right (Zlb p1 p2) ?_
 unfold fadd
 simp only
 grind
theorem IsF.bounds {r s:F2} (h:IsF r s):r.1.natAbs≤s.1.natAbs∧r.2.natAbs≤s.2.natAbs:=by
 have e:r=nrat s.1 s.2:=h.uniq (IsF.low h.2.1)
 obtain ⟨_,_,c1,c2⟩:=Zaw (t:=s.1) (b:=s.2) (Int.ne_of_gt h.2.1)
 rw [e]
 exact ⟨c1,c2⟩
theorem ZcQ {m:Nat}:∀ {l:List F2},(∀ x∈l,intBits x.1≤m∧intBits x.2≤m)→intBits (fsum l).1≤l.length * (m + 1) + 1∧intBits (fsum l).2≤l.length * (m + 1) + 1
 | [],_=>⟨Nat.le_trans (show intBits 0≤1 by decide +kernel) (Nat.le_add_left _ _),Nat.le_trans (show intBits 1≤1 by decide +kernel) (Nat.le_add_left _ _)⟩
 | x :: l,h=>by
  obtain ⟨a,b⟩:=h x List.mem_cons_self
  obtain ⟨c,d⟩:=ZcQ (l:=l) fun y hy=>h y (List.mem_cons_of_mem _ hy)
  have e:(x :: l).length * (m + 1) + 1=m + (l.length * (m + 1) + 1) + 1:=by
   rw [List.length_cons,Nat.succ_mul]
   omega
  rw [e]
  have q1:=intBits_mul_le a d
  have q2:=intBits_mul_le c b
  have q3:=intBits_mul_le b d
  constructor
  ·show intBits (x.1 * (fsum l).2 + (fsum l).1 * x.2)≤_
   exact Nat.le_trans (intBits_add_le q1 q2) (by omega)
  ·exact Nat.le_trans q3 (by omega)
theorem ZdV {m:Nat} {p q:P3} (hp:BP m p) (hq:BP m q):intBits (sdf p q).1≤2 * m + 1∧intBits (sdf p q).2≤2 * m + 1:=by
 constructor
 ·exact Nat.le_trans (intBits_sub_le (intBits_mul_le hp.a hq.b) (intBits_mul_le hp.b hq.a)) (by omega)
 ·exact Nat.le_trans (intBits_mul_le hp.c hq.c) (by omega)
theorem Zdw:∀ (z:P3) (l:List P3),(chn z l).length=l.length
 | _,[]=>rfl
 | _,a :: l=>by rw [chn,List.length_cons,List.length_cons,Zdw a l]
theorem Zdy (l:List P3):(cyc l).length=l.length:=by
 cases l with
 | nil=>rfl
 | cons x l=>show (chn x (l ++ [x])).length=_; rw [Zdw,List.length_append]; rfl
theorem ZhM {P:F2→Prop} {G:P3→Prop} (h:∀ p q,G p→G q→P (sdf p q)):∀ {z:P3} {l:List P3},G z→(∀ p∈l,G p)→∀ x∈chn z l,P x
 | _,[],_,_,_,hx=>by cases hx
 | z,a :: l,gz,gl,x,hx=>by
  rcases List.mem_cons.mp hx with rfl | hx
  ·exact h _ _ gz (gl a List.mem_cons_self)
  ·exact ZhM h (gl a List.mem_cons_self) (fun p hp=>gl p (List.mem_cons_of_mem _ hp)) x hx
theorem ZiJ {P:F2→Prop} {G:P3→Prop} (h:∀ p q,G p→G q→P (sdf p q)) {l:List P3} (gl:∀ p∈l,G p):∀ x∈cyc l,P x:=by
 cases l with
 | nil=>intro x hx; cases hx
 | cons a l =>
  refine ZhM h (gl a List.mem_cons_self) fun p hp=>?_
  rcases List.mem_append.mp hp with hp | hp
  ·exact gl p (List.mem_cons_of_mem _ hp)
  ·have:p=a:=by simpa using hp
   rw [this]
   exact gl a List.mem_cons_self
end Cut
namespace L3
open PySem L2 PySem.W
def isNon:D→Bool
 | .non=>true
 | _=>false
section
variable {X:Cx} {a b:Expr} {ua ub:UE} {pos:Pos}
def uIsN (ua ub:UE):UE:=fun ρ k=>ua ρ fun x=>ub ρ fun y=>y=.non∧k (.bl (isNon x))
theorem e_isN (ha:PE3 X a ua) (hb:PE3 X b ub) (hm:behindInMarks .Is b=false):PE3 X (.Compare a [.Is] [b] pos) (uIsN ua ub):=by
 obtain ⟨_,h1,r1⟩:=ha; obtain ⟨_,h2,r2⟩:=hb
 refine ⟨_,Zff op_isN h1 h2 hm,ref2 (f:=fun x y k=>y=.non∧k (.bl (isNon x))) r1 r2 fun x y k h R W B H σ ρ v w Q e rx ry q=>?_⟩
 obtain ⟨rfl,hk⟩:=h
 have e1:w=.non:=by cases ry; rfl
 have e2:decide (v=V.non)=isNon x:=by cases rx <;> simp [isNon]
 refine ⟨e1,?_⟩
 rw [e2]
 exact q _ _ B H hk e (Grow.refl _ _) (.bl _)
end
end L3
namespace L3
open PySem PySem.W L2
def allK (h:Heap):Frag:=(List.range h.objs.size).filterMap fun a=>(h.get? a).map fun o=>(a,o)
theorem Zco (g:Nat→Option Obj) (a:Nat):∀ l:List Nat,(l.filterMap fun b=>(g b).map fun o=>(b,o)).lookup a=if a∈l then g a else none
 | []=>rfl
 | b :: l=>by
  have ih:=Zco g a l
  cases q:g b with
  | none =>
   rw [List.filterMap_cons_none (by rw [q]; rfl),ih]
   by_cases e:a=b
   ·subst e; rw [q]; simp
   ·simp [e]
  | some o =>
   rw [List.filterMap_cons_some (b:=(b,o)) (by rw [q]; rfl),List.lookup_cons]
   by_cases e:a=b
   ·subst e; simp [q]
   ·have:(a == b)=false:=by simpa using e
    simp only [this,ih,List.mem_cons,e,false_or]
theorem Zcc (h:Heap) (a:Addr):(allK h).lookup a=h.get? a:=by
 refine (Zco h.get? a _).trans ?_
 by_cases e:a < h.objs.size
 ·rw [if_pos (List.mem_range.mpr e)]
 ·rw [if_neg (fun z=>e (List.mem_range.mp z))]
  exact (Heap.get?_none_of_le (Nat.le_of_not_lt e)).symm
theorem Znk (h:Heap):Frag.In (allK h) h:=fun a o e=>by rw [Zcc] at e; exact e
theorem ZeB (h:Heap) (name:Str):nsIn (allK h) mainGlobals name=nsH h name:=by unfold nsIn nsH; rw [Zcc]; rfl
theorem cdH_is (h:Heap) (cd:Value) (q:Str):codeIn (allK h) cd q=cdH h cd q:=by
 unfold codeIn cdH
 cases cd <;> first | rfl | (simp only [Zcc]; rfl)
def FunOf (K:Frag) (x:Str) (st:Stmt):Prop:=∃ f fd,nsIn K mainGlobals x=some (some (.ref f))∧Fun K x x st f fd
theorem ZfF (x:Str) (st:Stmt):dueF x st=some (x,x,ZcS st,.stmts (Zbm st),Zad st,mainGlobals,[],.none,builtinsNs,true):=by cases st <;> rfl
theorem ZlM {h:Heap} {x:Str} {st:Stmt} (e:seeF h x=dueF x st):FunOf (allK h) x st:=by
 unfold seeF at e
 split at e
 ·rename_i f hf
  split at e
  ·rename_i oc od fd osl ho
   obtain ⟨nm,qn,ps,bd,sc,gl,cl,df,kd,doc,pm,an,cdv,ct,bu⟩:=fd
   rw [ZfF] at e
   simp only [Option.some.injEq,Prod.mk.injEq] at e
   obtain ⟨rfl,rfl,rfl,rfl,rfl,rfl,rfl,rfl,rfl,e⟩:=e
   refine ⟨f,_,by rw [ZeB]; exact hf,fun_mk (oc:=oc) (od:=od) (osl:=osl) (kV:=kd) (doc:=doc) (pm:=pm) (an:=an) (cdv:=cdv) (ct:=ct) (by rw [Zcc]; exact ho) (by rw [cdH_is]; exact e) ?_⟩
   unfold keepIn
   simp only [Zcc,ho]
  ·rw [ZfF] at e; cases e
 ·rw [ZfF] at e; cases e
def AllF (K:Frag):List (Str×Stmt)→Prop
 | []=>True
 | p :: l=>FunOf K p.1 p.2∧AllF K l
def AllB (K:Frag):List Str→Prop
 | []=>True
 | b :: l=>nsIn K mainGlobals b=some none∧AllB K l
def TupOf (K:Frag) (x:Str) (i j:Int):Prop:=∃ p od sl n ti tj,nsIn K mainGlobals x=some (some (.ref p))∧K.lookup p=some ⟨.type "tuple", od,.seq #[.int i ti,.int j tj] n,sl⟩
def AllT (K:Frag):List (Str×Int×Int)→Prop
 | []=>True
 | p :: l=>TupOf K p.1 p.2.1 p.2.2∧AllT K l
def ConOf (K:Frag) (x:Str) (c:Int ⊕ Str):Prop:=match c with
 | .inl i=>∃ t,nsIn K mainGlobals x=some (some (.int i t))
 | .inr s=>∃ t,nsIn K mainGlobals x=some (some (.str s t))
def AllC (K:Frag):List (Str×(Int ⊕ Str))→Prop
 | []=>True
 | p :: l=>ConOf K p.1 p.2∧AllC K l
structure Tab (t:Tabs) (K:Frag):Prop where
 tf:AllF K t.fs
 tb:AllB K t.bs
 tt:AllT K t.ts
 tc:AllC K t.cs
def saysH (t:Tabs) (_:World) (h:Heap):Prop:=∃ K:Frag,K.In h∧Tab t K
theorem Zh9 {h:Heap}:∀ {l:List (Str×Stmt)},(l.map fun p=>seeF h p.1)=(l.map fun p=>dueF p.1 p.2)→AllF (allK h) l
 | [],_=>trivial
 | p :: l,e=>by
  simp only [List.map_cons,List.cons.injEq] at e
  exact ⟨ZlM e.1,Zh9 e.2⟩
theorem ZiT {h:Heap}:∀ {l:List Str},(l.map fun b=>nsH h b)=(l.map fun _=>some none)→AllB (allK h) l
 | [],_=>trivial
 | p :: l,e=>by
  simp only [List.map_cons,List.cons.injEq] at e
  exact ⟨by rw [ZeB]; exact e.1,ZiT e.2⟩
theorem Zmq {h:Heap} {x:Str} {i j:Int} (e:seeT h x=some (x,i,j)):TupOf (allK h) x i j:=by
 unfold seeT at e
 split at e
 ·rename_i p hp
  split at e
  ·rename_i od its n sl ho
   split at e
   ·rename_i i' ti j' tj hi
    simp only [Option.some.injEq,Prod.mk.injEq] at e
    obtain ⟨_,rfl,rfl⟩:=e
    have ea:its = #[.int i' ti,.int j' tj]:=Array.toList_inj.mp hi
    subst ea
    exact ⟨p,od,sl,n,ti,tj,by rw [ZeB]; exact hp,by rw [Zcc]; exact ho⟩
   ·cases e
  ·cases e
 ·cases e
theorem Ziu {h:Heap}:∀ {l:List (Str×Int×Int)},(l.map fun p=>seeT h p.1)=(l.map fun p=>some p)→AllT (allK h) l
 | [],_=>trivial
 | p :: l,e=>by
  simp only [List.map_cons,List.cons.injEq] at e
  exact ⟨Zmq e.1,Ziu e.2⟩
theorem ZmH {h:Heap} {x:Str} {c:Int ⊕ Str} (e:seeC h x=some (x,c)):ConOf (allK h) x c:=by
 unfold seeC at e
 split at e
 ·rename_i i t hp
  simp only [Option.some.injEq,Prod.mk.injEq] at e
  obtain ⟨_,rfl⟩:=e
  exact ⟨t,by rw [ZeB]; exact hp⟩
 ·rename_i i t hp
  simp only [Option.some.injEq,Prod.mk.injEq] at e
  obtain ⟨_,rfl⟩:=e
  exact ⟨t,by rw [ZeB]; exact hp⟩
 ·cases e
theorem ZiH {h:Heap}:∀ {l:List (Str×(Int ⊕ Str))},(l.map fun p=>seeC h p.1)=(l.map fun p=>some p)→AllC (allK h) l
 | [],_=>trivial
 | p :: l,e=>by
  simp only [List.map_cons,List.cons.injEq] at e
  exact ⟨ZmH e.1,ZiH e.2⟩
theorem ofH (t:Tabs) (w:World) (s:Shared) (e:obsH t s=valH t w):saysH t w s.heap:=by
 simp only [obsH,valH,Prod.mk.injEq] at e
 exact ⟨allK s.heap,Znk _,Zh9 e.1,ZiT e.2.1,Ziu e.2.2.1,ZiH e.2.2.2⟩
theorem keepsH (t:Tabs) (w:World) (h h':Heap) (y:saysH t w h) (k:∀ b o,h.get? b=some o→h'.get? b=some o):saysH t w h':=by
 obtain ⟨K,x,r⟩:=y
 exact ⟨K,x.keeps k,r⟩
theorem FunOf.fnd {K:Frag} {h:Heap} {mg:Str→Option Value} {x:Str} {st:Stmt} {ps:List Str} (X:K.In h) (G:h.Ns mainGlobals mg) (F:FunOf K x st) (b:∀ f fd,Fun K x x st f fd→Binds K fd ps []):Fnd K mg x st ps:=by
 obtain ⟨f,fd,m,F⟩:=F
 exact ⟨f,fd,mg_of X G m,F,b f fd F⟩
theorem walkH {l:OpenLaw} {k:Nat} {q:Program} {loose:List Str} {XP:(Str→Option Value)→Heap→Prop} {t:Tabs} {d:DefRec} (hn:l.most=some 63) (hdf:d.params.defaults=[]) (hr:Room k callerA)
  (F:∀ (w:World) (K:Frag) (mg:Str→Option Value) (fa:Addr) (h:Heap),Tab t K→K.In h→h.Ns mainGlobals mg→mg d.name=some (.ref fa) →
   ∃ fd:FuncData,(∀ (s:Shared) (u:Value),BindsTo s fd ⟨[u],[]⟩ [("_law_script", u)])∧∀ base:Heap,K.In base→base.Ns mainGlobals mg→FnOk l.prog w K mg base CX0 k fa fd ["_law_script"] (Zkt K)) :
  WalkO q loose XP (saysH t) l.row.toRowW d [] (fun f vs=>PySem.call f vs):=by
 refine Att.attach_call hn hdf fun w s₀ s₁ mg mb fa o pm cd doc a vs ns G Y ho hd hcd hmg hobj hints hlen hg=>?_
 obtain ⟨K,KX,T⟩:=Y
 obtain ⟨fd,hb,hF⟩:=F w K mg fa _ T KX G.T.g hmg
 exact ZjN KX G.T.g G.T.b G.T.builtins G.T.nolimit hg hobj hints (Nat.le_trans hlen (by decide)) hr hF hb (fun H hO hS=>⟨a,ns,rfl,hS,hlen,fun _=>rfl⟩) fun H e s' z=>z
end L3
namespace Cut
open PySem L2 L3
open PySem.Builtin.Int (intBits)
def sld (g p:P3):P3:=(p.1 * g.2.2 + g.1 * p.2.2,p.2.1 * g.2.2 + g.2.1 * p.2.2,p.2.2 * g.2.2)
def trn (p:P3):P3:=(-p.1,-p.2.1,p.2.2)
theorem Zbb {a b:Int} (h:∀ k:Int,k ∣ a→k ∣ b→k ∣ 1):Int.gcd a b=1:=by
 have q:=Int.natAbs_dvd_natAbs.mpr (h _ (Int.gcd_dvd_left a b) (Int.gcd_dvd_right a b))
 simpa using q
theorem ZaZ {a b k:Int} (g:Int.gcd a b=1) (h1:k ∣ a) (h2:k ∣ b):k ∣ 1:=by
 have:=Int.dvd_coe_gcd h1 h2
 rw [g] at this
 exact this
theorem ZcU {k n m:Int} (h:k ∣ n * m) (g:Int.gcd k m=1):k ∣ n:=Zcn (by rw [Int.mul_comm]; exact h) g
theorem ZfB {a b k:Int} (g:Int.gcd a b=1) (h:k ∣ a):Int.gcd k b=1:=Zbb fun j h1 h2=>ZaZ g (Int.dvd_trans h1 h) h2
theorem ZfN {x y t b:Int} (l:Low x y) (hb:b≠0) (e:x * b=t * y):nrat t b=(x,y):=by
 rw [← ZkC l]
 exact Zch hb (Int.ne_of_gt l.1) e.symm
theorem ZkY {x y z a b n:Int} (p:Pt x y z) (hn:n≠0) (e1:x * n=a * z) (e2:y * n=b * z):npt a b n=(x,y,z):=by
 obtain ⟨q,f1,f2,_⟩:=ZaL (a:=a) (b:=b) hn
 obtain ⟨h1,h2,h3⟩:=ZmJ q p (Int.eq_of_mul_eq_mul_right hn (by grind)) (Int.eq_of_mul_eq_mul_right hn (by grind))
 exact Prod.ext h1 (Prod.ext h2 h3)
theorem Za1 {a b:Int} (h:a≠0∨b≠0):∃ x y:Int,a=((Int.gcd a b:Nat):Int) * x∧b=((Int.gcd a b:Nat):Int) * y∧Int.gcd x y=1:=by
 obtain ⟨x,hx⟩:=Int.gcd_dvd_left a b
 obtain ⟨y,hy⟩:=Int.gcd_dvd_right a b
 refine ⟨x,y,hx,hy,?_⟩
 have pos:0 < Int.gcd a b:=by
  rcases h with h | h
  ·exact Int.gcd_pos_of_ne_zero_left b h
  ·exact Int.gcd_pos_of_ne_zero_right a h
 have q:Int.gcd a b=(((Int.gcd a b:Nat):Int)).natAbs * Int.gcd x y:=Zec hx hy
 rw [Int.natAbs_natCast] at q
 exact Nat.eq_of_mul_eq_mul_left pos (by omega)
theorem ZlB {a b:Int} (h:a≠0∨b≠0):((Int.gcd a b:Nat):Int)≠0:=by
 have pos:0 < Int.gcd a b:=by
  rcases h with h | h
  ·exact Int.gcd_pos_of_ne_zero_left b h
  ·exact Int.gcd_pos_of_ne_zero_right a h
 omega
theorem ZaV {a b:Int} (h:a≠0∨b≠0):0 < ((Int.gcd a b:Nat):Int):=by
 have:=ZlB h
 omega
theorem ZeW {s y:Int} (s0:0 < s) (h:0 < s * y):0 < y:=Int.pos_of_mul_pos_right h s0
theorem ZhW {x y u k Y V:Int} (g:Int.gcd x y=1) (hy:Y ∣ y) (gY:Int.gcd Y V=1) (h1:k ∣ x * V + u * Y) (h2:k ∣ Y):k ∣ 1:=by
 have h3:k ∣ x * V:=by
  have:=Int.dvd_sub h1 (Int.dvd_mul_of_dvd_right h2 (b:=u))
  simpa using this
 exact ZaZ g (ZcU h3 (ZfB gY h2)) (Int.dvd_trans h2 hy)
theorem Zku {x y u v:Int} (l1:Low x y) (l2:Low u v) {s top d:Int} (hs:s=(Int.gcd y v:Nat)) (ht:top=x * v.fdiv s + u * y.fdiv s) (hd:d=(Int.gcd s top:Nat)) :
  (top.fdiv d,y.fdiv s * v.fdiv d)=nrat (x * v + u * y) (y * v):=by
 obtain ⟨y0,g1⟩:=l1
 obtain ⟨v0,g2⟩:=l2
 obtain ⟨Y,V,hY,hV,gYV⟩:=Za1 (a:=y) (b:=v) (.inl (Int.ne_of_gt y0))
 have s0:0 < s:=by rw [hs]; exact ZaV (.inl (Int.ne_of_gt y0))
 rw [← hs] at hY hV
 have s1:=Int.ne_of_gt s0
 rw [ZaE hV s1,ZaE hY s1] at ht
 obtain ⟨S,T,hS,hT,gST⟩:=Za1 (a:=s) (b:=top) (.inl s1)
 have d0:0 < d:=by rw [hd]; exact ZaV (.inl s1)
 rw [← hd] at hS hT
 have d1:=Int.ne_of_gt d0
 have hv2:v=d * (S * V):=by rw [hV,hS,Int.mul_assoc]
 rw [ZaE hT d1,ZaE hY s1,ZaE hv2 d1]
 have Y0:0 < Y:=ZeW s0 (by omega)
 have V0:0 < V:=ZeW s0 (by omega)
 have S0:0 < S:=ZeW d0 (by omega)
 refine (ZfN ⟨Int.mul_pos Y0 (Int.mul_pos S0 V0),?_⟩ (Int.ne_of_gt (Int.mul_pos y0 v0)) ?_).symm
 ·refine Zbb fun k h1 h2=>?_
  have kt:k ∣ top:=by rw [hT]; exact Int.dvd_mul_of_dvd_right h1
  have c1:Int.gcd k Y=1:=Zbb fun j j1 j2=>ZhW g1 ⟨s,by rw [hY,Int.mul_comm]⟩ gYV (by rw [← ht]; exact Int.dvd_trans j1 kt) j2
  have c2:Int.gcd k V=1:=Zbb fun j j1 j2=>ZhW (x:=u) (u:=x) (Y:=V) (V:=Y) g2 ⟨s,by rw [hV,Int.mul_comm]⟩ (by rw [Int.gcd_comm]; exact gYV) (by rw [Int.add_comm,← ht]; exact Int.dvd_trans j1 kt) j2
  exact ZaZ gST (ZcU (Zcn h2 c1) c2) h1
 ·grind
theorem Zik {x y u v:Int} (l1:Low x y) (l2:Low u v) :
  (x.fdiv ((Int.gcd x v:Nat):Int) * u.fdiv ((Int.gcd u y:Nat):Int),y.fdiv ((Int.gcd u y:Nat):Int) * v.fdiv ((Int.gcd x v:Nat):Int))=nrat (x * u) (y * v):=by
 obtain ⟨y0,g1⟩:=l1
 obtain ⟨v0,g2⟩:=l2
 obtain ⟨X,V,hX,hV,gXV⟩:=Za1 (a:=x) (b:=v) (.inr (Int.ne_of_gt v0))
 obtain ⟨U,Y,hU,hY,gUY⟩:=Za1 (a:=u) (b:=y) (.inr (Int.ne_of_gt y0))
 have f0:=ZaV (a:=x) (b:=v) (.inr (Int.ne_of_gt v0))
 have h0:=ZaV (a:=u) (b:=y) (.inr (Int.ne_of_gt y0))
 generalize ((Int.gcd x v:Nat):Int)=f at *
 generalize ((Int.gcd u y:Nat):Int)=h at *
 rw [ZaE hX (Int.ne_of_gt f0),ZaE hV (Int.ne_of_gt f0),ZaE hU (Int.ne_of_gt h0),ZaE hY (Int.ne_of_gt h0)]
 have Y0:0 < Y:=ZeW h0 (by omega)
 have V0:0 < V:=ZeW f0 (by omega)
 refine (ZfN ⟨Int.mul_pos Y0 V0,?_⟩ (Int.ne_of_gt (Int.mul_pos y0 v0)) ?_).symm
 ·refine Zbb fun k k1 k2=>?_
  have gXY:Int.gcd X Y=1:=Zbb fun j j1 j2=>ZaZ g1 (by rw [hX]; exact Int.dvd_mul_of_dvd_right j1) (by rw [hY]; exact Int.dvd_mul_of_dvd_right j2)
  have gUV:Int.gcd U V=1:=Zbb fun j j1 j2=>ZaZ g2 (by rw [hU]; exact Int.dvd_mul_of_dvd_right j1) (by rw [hV]; exact Int.dvd_mul_of_dvd_right j2)
  have c1:Int.gcd k Y=1:=Zbb fun j j1 j2=>by
   have h3:j ∣ X * U:=Int.dvd_trans j1 k1
   have h4:j ∣ U:=Zcn h3 (Zbb fun i i1 i2=>ZaZ gXY i2 (Int.dvd_trans i1 j2))
   exact ZaZ gUY h4 j2
  have h5:k ∣ V:=Zcn k2 c1
  have h6:k ∣ U:=Zcn k1 (Zbb fun i i1 i2=>ZaZ gXV i2 (Int.dvd_trans i1 h5))
  exact ZaZ gUV h6 h5
 ·grind
theorem pt_cop {x y z:Int} (h:∀ k:Int,k ∣ x→k ∣ y→k ∣ z→k ∣ 1):Int.gcd (Int.gcd x y:Nat) z=1 :=
 Zbb fun k h1 h2=>h k (Int.dvd_trans h1 (Int.gcd_dvd_left x y)) (Int.dvd_trans h1 (Int.gcd_dvd_right x y)) h2
theorem pt_out {x y z k:Int} (g:Int.gcd (Int.gcd x y:Nat) z=1) (h1:k ∣ x) (h2:k ∣ y) (h3:k ∣ z):k ∣ 1:=ZaZ g (Int.dvd_coe_gcd h1 h2) h3
theorem Zgf {a b n r w k N M:Int} (g:Int.gcd (Int.gcd a b:Nat) n=1) (hn:N ∣ n) (gN:Int.gcd N M=1) (h1:k ∣ a * M + r * N) (h2:k ∣ b * M + w * N) (h3:k ∣ N):k ∣ 1:=by
 have q1:k ∣ a * M:=by
  have:=Int.dvd_sub h1 (Int.dvd_mul_of_dvd_right h3 (b:=r))
  simpa using this
 have q2:k ∣ b * M:=by
  have:=Int.dvd_sub h2 (Int.dvd_mul_of_dvd_right h3 (b:=w))
  simpa using this
 exact pt_out g (ZcU q1 (ZfB gN h3)) (ZcU q2 (ZfB gN h3)) (Int.dvd_trans h3 hn)
theorem Zkk {a b n r w m : Int} (p1 : Pt a b n) (p2 : Pt r w m) {s X Y d : Int} (hs : s = (Int.gcd n m : Nat)) (hX : X = a * m.fdiv s + r * n.fdiv s) (hYY : Y = b * m.fdiv s + w * n.fdiv s) (hd : d = (Int.gcd ((Int.gcd s X : Nat) : Int) Y : Nat)) :
    (X.fdiv d, Y.fdiv d, n.fdiv s * m.fdiv d) = npt (a * m + r * n) (b * m + w * n) (n * m) := by
  obtain ⟨n0, g1⟩ := p1
  obtain ⟨m0, g2⟩ := p2
  obtain ⟨N, M, hN, hM, gNM⟩ := Za1 (a := n) (b := m) (.inl (Int.ne_of_gt n0))
  have s0 : 0 < s := by rw [hs]; exact ZaV (.inl (Int.ne_of_gt n0))
  rw [← hs] at hN hM
  have s1 := Int.ne_of_gt s0
  rw [ZaE hN s1, ZaE hM s1] at hX hYY
  obtain ⟨S1, X1, hS1, hX1, gSX⟩ := Za1 (a := s) (b := X) (.inl s1)
  have e1 := ZlB (a := s) (b := X) (.inl s1)
  obtain ⟨E, Y1, hE, hY1, gEY⟩ := Za1 (a := ((Int.gcd s X : Nat) : Int)) (b := Y) (.inl e1)
  have d0 : 0 < d := by rw [hd]; exact ZaV (.inl e1)
  rw [← hd] at hE hY1
  have d1 := Int.ne_of_gt d0
  have hS : s = d * (E * S1) := by rw [hS1]; conv => lhs; rw [hE]
                                   rw [Int.mul_assoc]
  have hX2 : X = d * (E * X1) := by rw [hX1]; conv => lhs; rw [hE]
                                    rw [Int.mul_assoc]
  have hm2 : m = d * (E * S1 * M) := by rw [hM, hS, Int.mul_assoc]
  rw [ZaE hX2 d1, ZaE hY1 d1, ZaE hN s1, ZaE hm2 d1]
  have N0 : 0 < N := ZeW s0 (by omega)
  have M0 : 0 < M := ZeW s0 (by omega)
  have S0 : 0 < E * S1 := ZeW d0 (by omega)
  refine (ZkY ⟨Int.mul_pos N0 (Int.mul_pos S0 M0), ?_⟩ (Int.ne_of_gt (Int.mul_pos n0 m0)) ?_ ?_).symm
  · refine pt_cop fun k h1 h2 h3 => ?_
    have kX : k ∣ X := by rw [hX2]; exact Int.dvd_mul_of_dvd_right h1
    have kY : k ∣ Y := by rw [hY1]; exact Int.dvd_mul_of_dvd_right h2
    have c1 : Int.gcd k N = 1 := Zbb fun j j1 j2 => Zgf g1 ⟨s, by rw [hN, Int.mul_comm]⟩ gNM (by rw [← hX]; exact Int.dvd_trans j1 kX) (by rw [← hYY]; exact Int.dvd_trans j1 kY) j2
    have c2 : Int.gcd k M = 1 := Zbb fun j j1 j2 => Zgf (a := r) (b := w) (n := m) (r := a) (w := b) (N := M) (M := N) g2 ⟨s, by rw [hM, Int.mul_comm]⟩ (by rw [Int.gcd_comm]; exact gNM) (by rw [Int.add_comm, ← hX]; exact Int.dvd_trans j1 kX) (by rw [Int.add_comm, ← hYY]; exact Int.dvd_trans j1 kY) j2
    have h4 : k ∣ E * S1 := ZcU (Zcn h3 c1) c2
    have h5 : k ∣ E := by
      have z := Int.dvd_coe_gcd h4 h1
      rw [Int.gcd_mul_left, gSX, Nat.mul_one] at z
      exact Int.dvd_trans z (Int.natAbs_dvd.mpr (Int.dvd_refl E))
    exact ZaZ gEY h5 h2
  · grind
  · grind
def nth (ps:List P3) (n:Nat):P3:=(ps[n]?).getD (0,0,1)
theorem Zlo {ps:List P3} {n:Nat} (h:n < ps.length):nth ps n=ps[n]:=by unfold nth; rw [List.getElem?_eq_getElem h]; rfl
theorem Zi2 {ps:List P3} {n:Nat} (h:n < ps.length):atI (ps.map dP) (n:Int)=some (dP (nth ps n)):=by rw [Zlo h]; exact ZbH (Zjg h)
theorem ZiL {ps:List P3} {k:Nat} (h:k < ps.length):atI (ps.map dP) ((k:Int) - 1)=some (dP (nth ps ((k + ps.length - 1) % ps.length))):=by
 cases k with
 | zero =>
  have e:((0:Nat) + ps.length - 1) % ps.length=ps.length - 1:=by rw [Nat.zero_add]; exact Nat.mod_eq_of_lt (by omega)
  rw [e,Zlo (by omega)]
  unfold atI ixN
  rw [if_neg (by omega),if_pos (by rw [List.length_map]; omega)]
  show (ps.map dP)[_]?=_
  rw [List.getElem?_map,List.length_map,show (((0:Nat):Int) - 1 + (ps.length:Int)).toNat=ps.length - 1 by omega,List.getElem?_eq_getElem (by omega)]
  rfl
 | succ k =>
  have e:(k + 1 + ps.length - 1) % ps.length=k:=by
   rw [show k + 1 + ps.length - 1=k + ps.length by omega,Nat.add_mod_right]; exact Nat.mod_eq_of_lt (by omega)
  rw [e,show (((k + 1:Nat):Int) - 1)=(k:Int) by omega]
  exact Zi2 (by omega)
theorem ZgH (a:P3) (r:List P3) (i:Nat):nth (a :: r) (i + 1)=nth r i:=rfl
theorem Zkl (a:P3) (r:List P3):nth (a :: r) 0=a:=rfl
end Cut
namespace L2
open PySem PySem.Spec PyProof.Rows PySem.W
section
variable {X:Cx} {pins:List (Addr×Obj)} {σ:St} {H:Hp} {s:Shared} {h':Heap}
theorem Inv.turned2 {t':Nat} {it e:Addr} (I:Inv X pins σ H s) (k:∀ b o,b≠it→b≠e→s.heap.get? b=some o→h'.get? b=some o) (fi:FpOk X pins H it) (fe:FpOk X pins H e):Inv X pins σ H { s with heap:=h',toks:=t' }:=by
 obtain ⟨i0,i1,i2,i3,i4,i5⟩:=fi
 obtain ⟨e0,e1,e2,e3,e4,e5⟩:=fe
 have nit:∀ b u,H b=some u→b≠it∧b≠e:=fun b u q=>⟨(fun z=>by rw [z,i0] at q; cases q),(fun z=>by rw [z,e0] at q; cases q)⟩
 have kk:∀ b o,b ∉ [it,e]→s.heap.get? b=some o→h'.get? b=some o:=fun b o hc q=>k b o (fun z=>hc (by simp [z])) (fun z=>hc (by simp [z])) q
 refine I.step (g':=s.gens) (d':=s.drawn) (ch:=[it,e]) (fun b hb=>?_) (fun b o _ _ hc q _=>kk b o hc q) (fun b o _ _ hc q _=>⟨o.slots,kk b o hc q⟩) (fun _ _ _ _ n=>n)
  (fun b o hc q=>⟨o,kk b o hc q⟩) (fun _ _ e=>e) (fun _ _ _ e=>e) (fun b ps q=>⟨#[],by rw [q]; simp⟩) (fun m hm=>?_) (fun b u q=>?_) I.bare
 ·rcases List.mem_cons.mp hb with rfl | hb
  ·exact ⟨i3,i1,i4,i5⟩
  ·rw [List.mem_singleton.mp hb]; exact ⟨e3,e1,e4,e5⟩
 ·obtain ⟨o,es,ep,ho,r⟩:=hm
  exact ⟨o,es,ep,k _ o (Ne.symm i1) (Ne.symm e1) ho,r⟩
 ·refine (I.hok b u q).stay (fun c v hc y=>k c v ?_ ?_ y) (fun _ q=>q) fun _ _ q=>q
  ·rcases hc with z | z
   ·rw [z]; exact (nit b u q).1
   ·exact (nit c _ z).1
  ·rcases hc with z | z
   ·rw [z]; exact (nit b u q).2
   ·exact (nit c _ z).2
end
def Ite (K:PySem.W.Frag) (a:Addr):It :=
 ⟨fun i H=>∃ xs x,SqL K H a xs∧xs[i]?=some x,fun i H x H'=>∃ p y,H p=none∧x=.ref p∧H'=upd H p (.tup [.int i,y])∧∀ xs,SqL K H a xs→xs[i]?=some y,fun i H=>∃ xs,SqL K H a xs∧xs.length≤i⟩
theorem Zif {P:Program} {w:World} {K:PySem.W.Frag} {elts:List Expr} {k:Nat} {pos:Pos} (a it e:Addr) (hne:e≠it):Turn P w K (.Tuple elts k pos) (Ite K a) [e,it] e (fun i h=>(∃ old,IsEnum h e it (i:Nat) old)∧h.IsListIter it a i) where
 mem:=by simp
 obj:=fun i h st b hb=>by
  obtain ⟨⟨old,he⟩,o,ho,c,d⟩:=st
  rcases List.mem_cons.mp hb with rfl | hb
  ·exact ⟨_,he,fun v z=>by cases z⟩
  ·rw [List.mem_singleton.mp hb]
   exact ⟨o,ho,fun v z=>by rw [d] at z; cases z⟩
 keep:=fun i h h' st kp=>by
  obtain ⟨⟨old,he⟩,hi⟩:=st
  exact ⟨⟨old,kp e (by simp) _ he⟩,hi.at fun o q=>kp it (by simp) o q⟩
 item:=by
  intro X hP hw hK hc i pins s σ H E I hf st hg
  subst hP hw hK
  obtain ⟨xs,x,hq,hx⟩:=hg
  obtain ⟨⟨old,he⟩,hi⟩:=st
  obtain ⟨its,rv,p,hz⟩:=I.list hq
  obtain ⟨u,hu,ru⟩:=rv.get hx
  have fe:=hf e (by simp)
  have fi:=hf it (by simp)
  have elt:e < s.heap.objs.size:=Heap.lt_size he
  have ilt:it < s.heap.objs.size:=by obtain ⟨o,ho,_⟩:=id hi; exact Heap.lt_size ho
  refine wpAny_pyNext_enum_item he hi p.isList (x:=u) (by simpa using hu) hne fun h1 out hi1 ht hs1 kp=>⟨_,rfl,wpAny_letOwnedTupleGo_enum out fun h2 he2 sb=>?_⟩
  have Te:s.heap.objs.size≠e:=Nat.ne_of_gt elt
  have Ti:s.heap.objs.size≠it:=Nat.ne_of_gt ilt
  have I0:Inv X pins σ (upd H s.heap.objs.size (.tup [.int i,x])) { s with heap:=s.heap.push { cls:=.type "tuple", data:=.seq #[.int i s.toks,u] },toks:=s.toks + 1 } :=
   I.laid (t':=s.toks + 1) (fun _ _ q=>Heap.get?_push_of_some _ q) (Nat.le_refl _) ⟨by show 2≤sizeLine; decide,[.int i s.toks,u],.cons ⟨_,rfl⟩ (.cons ru .nil),⟨_,Heap.get?_push_size _ rfl,rfl,_,rfl⟩⟩
  have up:∀ b,FpOk X pins H b→b≠s.heap.objs.size→FpOk X pins (upd H s.heap.objs.size (.tup [.int i,x])) b:=fun b f n=>⟨by rw [Zak n]; exact f.1,f.2⟩
  have I1:=I0.turned2 (h':=h2) (t':=s.toks + 1) (it:=it) (e:=e) (fun b o n1 n2 q=>by
   rw [sb.2 b n2]
   by_cases z:b=s.heap.objs.size
   ·subst z
    rw [Heap.get?_push_size _ rfl] at q
    rw [← q]; exact ht
   ·refine kp b o n2 n1 ?_
    rw [← q]
    exact (Heap.get?_push_ne s.heap b _ z).symm) (up it fi (Ne.symm Ti)) (up e fe (Ne.symm Te))
  refine ⟨.ref s.heap.objs.size,_,I1,rfl,⟨s.heap.objs.size,x,I.fresh,rfl,rfl,fun ys hy=>by rw [I.list_inj hy hq]; exact hx⟩,⟨⟨_,he2⟩,hi1.at fun o q=>(sb.2 it (Ne.symm hne)).trans q⟩,fun b hb=>?_⟩
  rcases List.mem_cons.mp hb with rfl | hb
  ·exact (up _ fe (Ne.symm Te)).1
  ·rw [List.mem_singleton.mp hb]; exact (up it fi (Ne.symm Ti)).1
 done:=by
  intro X hP hw hK hc i pins s σ H E I hf st hg
  subst hP hw hK
  obtain ⟨xs,hq,hx⟩:=hg
  obtain ⟨⟨old,he⟩,hi⟩:=st
  obtain ⟨its,rv,p,hz⟩:=I.list hq
  obtain ⟨f0,f1,f2,f3,f4,f5⟩:=hf it (by simp)
  have hl:=rv.length
  exact wpAny_pyNext_enum_end (I.ok.hd hc) he hi p.isList (by simp; omega) fun h' eb=>⟨rfl,I.turned (t':=s.toks) (fun b o hb q=>eb b o hb q) f0 f1 f3 f4 f5⟩
 self:=fun _ _ _ _ _ st h=>by
  obtain ⟨⟨old,he⟩,_⟩:=st
  exact wpAny_pyIter_enum he h
def iEnum (K:PySem.W.Frag) (ta:TA):TI:=fun σ H R=>ta σ H fun vs H1=>∃ a,vs=[.ref a]∧(∃ xs,SqL K H1 a xs)∧R (Ite K a) H1
theorem Zl0 {X:Cx} {elts:List Expr} {k:Nat} {tp:Pos} {a:Expr} {ta:TA} {p pos:Pos} (hg:Gl X "enumerate") (hm:X.mg "enumerate" = none) (ha:PA X [a] ta) (hs:starEach [a] X.env=[(false,eval a X.env)]:=by rfl):PI X (.Tuple elts k tp) (.Call (.Name "enumerate" p) [a] [] pos) (iEnum X.K ta):=by
 intro pins s σ H R I h
 refine Call_ (Zbs I hg hm (by decide +kernel:bootBuiltins "enumerate" = some (.type "enumerate")) (PyProof.Rows.callWith_type1 (thn (ha pos pins s σ H _ I h) fun us s1 ⟨vs,H1,I1,r1,q1⟩=>?_) hs rfl))
 obtain ⟨l,e,⟨xs,hq⟩,q⟩:=q1
 subst e
 obtain ⟨u,rfl,r⟩:=ZeQ r1
 cases r
 obtain ⟨its,rv,pl,hz⟩:=I1.list hq
 refine call_enumerate_list pl.isList fun h' en li sz kp=>wpAny_pyIter_enum en ?_
 refine ⟨s1.heap.objs.size + 1,[s1.heap.objs.size + 1,s1.heap.objs.size],_,_,H1,rfl,I1.kept (t':=s1.toks) kp,Zif l s1.heap.objs.size (s1.heap.objs.size + 1) (Nat.succ_ne_self _),⟨⟨_,en⟩,li⟩,fun b hb=>?_,q⟩
 rcases List.mem_cons.mp hb with rfl | hb
 ·exact I1.fpOk (Nat.le_succ _) (I1.hok.fresh (Nat.le_succ _))
 ·rw [List.mem_singleton.mp hb]; exact I1.fpOk (Nat.le_refl _) (I1.hok.fresh (Nat.le_refl _))
end L2
namespace L3
open PySem L2
def prs:Nat→List D→List D
 | _,[]=>[]
 | n,d :: r=>.tup [.int (n:Nat),d] :: prs (n + 1) r
def uForE (u:UE) (g:UG) (s:US):US:=fun U ρ=>u ρ fun d=>∃ ds,d=.lst ds∧forR g s U (prs 0 ds) ρ
section
variable {X:Cx} {a:Expr} {u:UE} {pos p:Pos}
theorem s_forE {elts:List Expr} {k:Nat} {tp:Pos} {body:List Stmt} {g:UG} {s:US} (hp:PassesOwn (model X.prog X.w) X.A X.env X.xe) (hc:X.calm=true) (ha:PE3 X a u) (hge:Gl X "enumerate") (hm:X.mg "enumerate" = none) (hg:PG3 X (.Tuple elts k tp) g) (hb:PSs3 X body s)
  (hsa:starEach [a] X.env=[(false,eval a X.env)]:=by rfl) (hs:∀ x,foldedSetIterable (.Call (.Name "enumerate" p) [a] [] pos) X.env x=pure x:=by intro _; rfl) {pos':Pos} :
  PS3 X (.For (.Tuple elts k tp) (.Call (.Name "enumerate" p) [a] [] pos) body [] pos') (uForE u g s):=by
 obtain ⟨_,h0,r0⟩:=ha; obtain ⟨_,h1,r1⟩:=hg; obtain ⟨_,h2,r2⟩:=hb
 refine ⟨_,Zld hp hc (Zl0 hge hm (Zau h0 ZaR (by rw [hsa]; rfl)) hsa) h1 h2 hs,fun U ρ h R W B H σ D e sm=>?_⟩
 refine r0 ρ _ h R W B H σ _ e fun d v B1 H1 z1 e1 g1 rv=>?_
 obtain ⟨ds,rfl,z1⟩:=z1
 obtain ⟨l,vs,rfl,hl,rs⟩:=rv.lstV
 refine ⟨l,rfl,⟨vs,SqL.of (e1.bh _ _ hl)⟩,?_⟩
 refine ⟨fun i m σ' H'=>∃ ρ' B',m=ds.length - i∧i≤ds.length∧forR g s U (prs i (ds.drop i)) ρ'∧Ev X.K R W B' H' σ' ρ'∧Grow R B B'∧Same B1 B',⟨ds.length,ρ,B1,by simp,Nat.zero_le _,z1,e1,g1,Same.refl _⟩,?_⟩
 rintro i m σ1 H2 ⟨ρ1,B2,rfl,hi,z2,e2,g2,s2⟩
 have hq:SqL X.K H2 l vs:=SqL.of (e2.bh _ _ (s2 _ _ hl))
 by_cases hlt:i < ds.length
 ·have hlv:i < vs.length:=by rw [rs.length]; exact hlt
  refine .inr ⟨⟨vs,vs[i],hq,List.getElem?_eq_getElem hlv⟩,fun σ' H'=>∃ ρ' B',forR g s U (prs (i + 1) (ds.drop (i + 1))) ρ'∧Ev X.K R W B' H' σ' ρ'∧Grow R B B'∧Same B1 B',?_,?_⟩
  ·rintro σ' H' ⟨ρ',B',z,e',g',s'⟩
   exact ⟨ds.length - (i + 1),by omega,ρ',B',rfl,hlt,z,e',g',s'⟩
  ·rintro x H' ⟨q,y,hq0,rfl,rfl,hy⟩
   obtain ⟨d,hd,rx⟩:=rs.getV (hy vs hq)
   have ed:ds.drop i=d :: ds.drop (i + 1):=by
    rw [List.drop_eq_getElem_cons hlt]
    rw [List.getElem?_eq_getElem hlt] at hd
    rw [Option.some.inj hd]
   rw [ed] at z2
   have g3:=e2.grow hq0 (.tup [.int i,y])
   have e3:=e2.alloc hq0 (.tup [.int i,y])
   refine r1 _ ρ1 _ z2 R W _ _ σ1 (.ref q) _ e3 (.tup Zal (.cons (.int _) (.cons (rx.mono (s2.trans g3.s)) .nil))) fun ρ' σ' z' e' _=>?_
   have g4:=g2.trans g3
   have s4:=s2.trans g3.s
   exact r2 _ ρ' z' R W _ _ σ' _ e' ⟨fun ρ' σ' B' H' z e' g=>⟨ρ',B',z,e',g4.trans g,s4.trans g.s⟩,fun ρ' σ' B' H' z e' g=>sm.nx ρ' σ' B' H' z e' (g4.trans g),fun ρ' σ' B' H' z e' g=>⟨ρ',B',z,e',g4.trans g,s4.trans g.s⟩,fun r v B' H' z e' g q=>sm.rt r v B' H' z e' (g4.trans g) q⟩
 ·have ei:i=ds.length:=by omega
  subst ei
  rw [List.drop_length] at z2
  exact .inl ⟨⟨vs,hq,by rw [rs.length]; exact Nat.le_refl _⟩,sm.nx ρ1 σ1 B2 H2 z2 e2 g2⟩
end
theorem ZgL {α:Type} {f:α→D} {s:US} {U:UEnds} {i j:Nat} (I:List α→List Sl→Prop):∀ {rs done:List α} {ρ:List Sl},I done ρ →
  (∀ (pre:List α) (r:α) (rest:List α) ρ,done ++ rs=pre ++ r :: rest→I pre ρ→∀ N:List Sl→Prop,(∀ r',I (pre ++ [r]) r'→N r')→s { U with nx:=N,ct:=N,bk:=U.nx } ((ρ.set i (.val (.int pre.length))).set j (.val (f r))))→(∀ ρ,I (done ++ rs) ρ→U.nx ρ) →
  forR (Zfm 2 (Zba (Zay i) (Zba (Zay j) Zfl))) s U (prs done.length (rs.map f)) ρ
 | [],done,ρ,h0,_,h2=>h2 ρ (by rw [List.append_nil]; exact h0)
 | r :: rs,done,ρ,h0,h1,h2=>by
  refine ⟨_,rfl,rfl,_,_,rfl,_,_,rfl,rfl,h1 done r rs ρ rfl h0 _ fun r' hr=>?_⟩
  have e:done ++ r :: rs=(done ++ [r]) ++ rs:=by simp
  rw [e] at h1 h2
  have:=ZgL I hr h1 h2
  rw [List.length_append] at this
  exact this
end L3
namespace Cut
open PySem L2 L3
theorem ZmA {α:Type} {xs:List α} {i:Nat} {x:α} (h:xs[i]?=some x):atI xs (i:Int)=some x:=by
 have lt:i < xs.length:=(List.getElem?_eq_some_iff.mp h).1
 unfold atI
 have e:L2.ixN xs.length (i:Int)=some i:=by
  unfold L2.ixN
  rw [if_pos (by omega)]
  simp [lt]
 rw [e]
 exact h
def prZ:P3→List P3→List (P3×P3)
 | _,[]=>[]
 | z,p :: r=>(z,p) :: prZ p r
def lz:P3→List P3→P3
 | z,[]=>z
 | _,p :: r=>lz p r
def eds (ps:List P3):List (P3×P3):=prZ (lz (0,0,1) ps) ps
theorem Zlp:∀ {z:P3} {L:List P3},L≠[]→lz z L∈L
 | _,[],h=>absurd rfl h
 | z,[p],_=>List.mem_cons_self
 | z,p :: q :: r,_=>List.mem_cons_of_mem _ (Zlp (z:=p) (L:=q :: r) (by simp))
theorem Zh5:∀ {z:P3} {L:List P3} {e:P3×P3},e∈prZ z L→(e.1=z∨e.1∈L)∧e.2∈L
 | _,[],_,h=>by cases h
 | z,p :: r,e,h=>by
  rcases List.mem_cons.mp h with rfl | h
  ·exact ⟨.inl rfl,List.mem_cons_self⟩
  ·obtain ⟨h1,h2⟩:=Zh5 h
   refine ⟨.inr ?_,List.mem_cons_of_mem _ h2⟩
   rcases h1 with h1 | h1
   ·rw [h1]; exact List.mem_cons_self
   ·exact List.mem_cons_of_mem _ h1
theorem Zi9 {L:List P3} {e:P3×P3} (h:e∈eds L):e.1∈L∧e.2∈L:=by
 have n:L≠[]:=by rintro rfl; cases h
 obtain ⟨h1,h2⟩:=Zh5 h
 refine ⟨?_,h2⟩
 rcases h1 with h1 | h1
 ·rw [h1]; exact Zlp n
 ·exact h1
end Cut
namespace Cut
open PySem L2 L3
open PySem.Builtin.Int (intBits)
def sumT (T:P3→P3→Rat) (es:List (P3×P3)):Rat:=(es.map fun e=>T e.1 e.2).sum
def rX (p:P3):Rat:=(p.1:Rat) / (p.2.2:Rat)
def rY (p:P3):Rat:=(p.2.1:Rat) / (p.2.2:Rat)
def crR (p q:P3):Rat:=rX p * rY q - rY p * rX q
theorem Za0 {x:Int} (h:0 < x):(x:Rat)≠0:=fun z=>by
 have:=Rat.intCast_eq_zero_iff.mp z
 omega
def Ze2 (ps:List P3):Rat:=sumT crR (eds ps)
end Cut
namespace L3
open PySem L2
section
variable {K:PySem.W.Frag} {X:Cx} {a b e:Expr} {es:List Expr} {ua ub u:UE} {w:UL} {pos p:Pos} {F:FS} {a0:Expr}
def uNotN (ua ub:UE):UE:=fun ρ k=>ua ρ fun x=>ub ρ fun y=>y=.non∧k (.bl (!isNon x))
theorem Zlu (ha:PE3 X a ua) (hb:PE3 X b ub) (hm:behindInMarks .IsNot b=false):PT3 X (.Compare a [.IsNot] [b] pos) (uB (uNotN ua ub)):=by
 obtain ⟨_,h1,r1⟩:=ha; obtain ⟨_,h2,r2⟩:=hb
 refine ⟨_,ZbC Zno h1 h2 hm,refB (ref2 (f:=fun x y k=>y=.non∧k (.bl (!isNon x))) r1 r2 fun x y k h R W B H σ ρ v w Q e rx ry q=>?_)⟩
 obtain ⟨rfl,hk⟩:=h
 have e1:w=.non:=by cases ry; rfl
 have e2:decide (v=V.non)=isNon x:=by cases rx <;> simp [isNon]
 refine ⟨e1,?_⟩
 rw [e2]
 exact q _ _ B H hk e (Grow.refl _ _) (.bl _)
end
section
variable {X:Cx} {e:Expr} {u:UE} {pos:Pos}
def uAug (i:Nat) (u:UE):US:=fun U ρ=>∃ m,ρ[i]?=some (.val (.int m))∧u ρ fun d=>∃ n,d=.int n∧U.nx (ρ.set i (.val (.int (m + n))))
theorem s_aug {i:Nat} {x:Str} {pos':Pos} (hN:X.N.Nodup) (hi:X.N[i]?=some x) (hx:Loc X.env.scope x) (he:PE3 X e u) (hf:X.fn x=true∨X.env.scope.names.lookup x=some .local:=by first | exact .inl rfl | exact .inr rfl | assumption) :
  PS3 X (.AugAssign (.Name x pos') .Add e pos) (uAug i u):=by
 obtain ⟨_,h1,r1⟩:=he
 refine ⟨_,Zln hN hi hx h1 ip_add hf,fun U ρ h R W B H σ D e s=>?_⟩
 obtain ⟨m,hm,h⟩:=h
 obtain ⟨v,hv,rv⟩:=e.val hm
 refine ⟨v,hv,?_⟩
 refine r1 ρ _ h R W B H σ _ e fun d w B1 H1 z1 e1 g1 s1=>?_
 obtain ⟨n,rfl,z⟩:=z1
 exact ⟨m,n,rv.intV,s1.intV,s.nx _ _ B1 H1 z (e1.setV i (.int _)) g1⟩
end
end L3
namespace Cut
open PySem L2 L3
open PySem.Builtin.Int (intBits)
def vq (a:Int×Int):Rat:=(a.1:Rat) / (a.2:Rat)
theorem Zht:∀ (z:P3) (L:List P3) (k:Nat),k < L.length→(prZ z L)[k]?=some (nth (z :: L) k,nth L k)
 | _,[],_,h=>absurd h (by simp)
 | z,p :: L,0,_=>rfl
 | z,p :: L,k + 1,h=>by
  have:=Zht p L k (by simpa using h)
  simpa [prZ,ZgH] using this
theorem Zho:∀ (z:P3) (L:List P3),(prZ z L).length=L.length
 | _,[]=>rfl
 | z,p :: L=>by simp [prZ,Zho p L]
theorem Zk9:∀ (z:P3) (L:List P3),L≠[]→lz z L=nth L (L.length - 1)
 | _,[],h=>absurd rfl h
 | z,[p],_=>rfl
 | z,p :: q :: L,_=>by
  have:=Zk9 p (q :: L) (by simp)
  show lz p (q :: L)=_
  rw [this]
  rfl
theorem Ze9 (ps:List P3):eds ps=(List.range ps.length).map fun k=>(nth ps ((k + ps.length - 1) % ps.length),nth ps k):=by
 apply List.ext_getElem?
 intro k
 by_cases h:k < ps.length
 ·have hn:ps≠[]:=by rintro rfl; simp at h
  rw [List.getElem?_map,List.getElem?_range h]
  unfold eds
  rw [Zht _ _ _ h]
  simp only [Option.map_some]
  congr 2
  cases k with
  | zero =>
   rw [Zkl,Zk9 _ _ hn,Nat.zero_add,Nat.mod_eq_of_lt (by omega)]
  | succ k =>
   rw [ZgH,show k + 1 + ps.length - 1=k + ps.length by omega,Nat.add_mod_right,Nat.mod_eq_of_lt (by omega)]
 ·rw [List.getElem?_eq_none (by unfold eds; rw [Zho]; omega),List.getElem?_eq_none (by simp; omega)]
end Cut
namespace L3
open PySem L2
theorem ZbV {α:Type} {f h:α→D} {P:α→Bool} {ut:UT} {u:UE} {fs:List Sl}:∀ {rs:List α} {v0:Sl} {k:List D→Prop},(∀ r∈rs,∀ k:Bool→Prop,k (P r)→ut (.val (f r) :: fs) k)→(∀ r∈rs,∀ k:D→Prop,k (h r)→u (.val (f r) :: fs) k)→k ((rs.filter P).map h)→Za8 (Zay 0) ut u (rs.map f) (v0 :: fs) k
 | [],_,_,_,_,hk=>hk
 | r :: rs,v0,k,h1,h2,hk=>by
  refine h1 r List.mem_cons_self _ ?_
  cases c:P r with
  | true =>
   rw [if_pos rfl]
   refine h2 r List.mem_cons_self _ ?_
   refine ZbV (P:=P) (fun x hx=>h1 x (List.mem_cons_of_mem _ hx)) (fun x hx=>h2 x (List.mem_cons_of_mem _ hx)) ?_
   rw [List.filter_cons_of_pos c] at hk
   exact hk
  | false =>
   rw [if_neg Bool.false_ne_true]
   refine ZbV (P:=P) (fun x hx=>h1 x (List.mem_cons_of_mem _ hx)) (fun x hx=>h2 x (List.mem_cons_of_mem _ hx)) ?_
   rw [List.filter_cons_of_neg (by rw [c]; decide)] at hk
   exact hk
end L3
namespace Cut
open PySem L2 L3
open PySem.Builtin.Int (intBits)
theorem ZjX {ps:List P3} {i:Nat} (h:i < ps.length):(eds ps).take (i + 1)=(eds ps).take i ++ [(nth ps ((i + ps.length - 1) % ps.length),nth ps i)]:=by
 rw [List.take_succ,Ze9,List.getElem?_map,List.getElem?_range h]
 rfl
end Cut
namespace L3
open PySem L2
def dPr (e:Cut.P3×Cut.P3):D:=.tup [Cut.dP e.1,Cut.dP e.2]
end L3
namespace Tab
open PySem PySem.SetTable
def Msk (m:Nat):Prop:=m=7∨m=15∨m=31∨m=63∨m=127∨m=255
def stp1 (m i:Nat):Nat:=(i * 5 + 1) % (m + 1)
def orb (m:Nat):Nat→Nat→Nat
 | 0,i=>i
 | k + 1,i=>orb m k (stp1 m i)
theorem Zd7 (m:Nat):∀ (a b i:Nat),orb m (a + b) i=orb m b (orb m a i)
 | 0,b,i=>by rw [Nat.zero_add]; rfl
 | a + 1,b,i=>by
  rw [show a + 1 + b=(a + b) + 1 by omega]
  exact Zd7 m a b _
def whn (m:Nat):List Nat:=if m=7 then [0,1,6,7,4,5,2,3] else if m=15 then [0,1,6,15,12,13,2,11,8,9,14,7,4,5,10,3] else if m=31 then [0,1,6,15,28,13,2,27,24,25,30,7,20,5,26,19,16,17,22,31,12,29,18,11,8,9,14,23,4,21,10,3] else if m=63 then [0,1,6,47,28,45,2,59,56,25,62,7,20,5,58,19,48,49,54,31,12,29,50,43,40,9,46,55,4,53,42,3,32,33,38,15,60,13,34,27,24,57,30,39,52,37,26,51,16,17,22,63,44,61,18,11,8,41,14,23,36,21,10,35] else if m=127 then [0,1,70,111,28,109,2,123,120,25,126,71,20,5,58,83,112,49,54,31,12,29,114,43,104,73,110,119,4,53,42,3,96,97,38,79,124,77,98,91,88,121,94,39,116,101,26,51,80,17,22,127,108,125,82,11,72,41,78,87,100,21,10,99,64,65,6,47,92,45,66,59,56,89,62,7,84,69,122,19,48,113,118,95,76,93,50,107,40,9,46,55,68,117,106,67,32,33,102,15,60,13,34,27,24,57,30,103,52,37,90,115,16,81,86,63,44,61,18,75,8,105,14,23,36,85,74,35] else [0,1,70,239,156,109,2,123,120,25,254,71,148,5,58,83,240,49,182,159,140,157,114,43,104,73,110,247,132,53,170,3,224,97,38,79,124,205,226,219,88,121,222,167,116,101,26,179,208,145,150,255,108,253,82,139,72,169,78,87,100,149,138,99,192,193,6,175,92,45,194,59,56,217,190,7,84,197,250,19,176,241,118,95,76,93,50,235,40,9,46,183,68,245,106,195,160,33,230,15,60,141,162,155,24,57,158,103,52,37,218,115,144,81,86,191,44,189,18,75,8,105,14,23,36,85,74,35,128,129,198,111,28,237,130,251,248,153,126,199,20,133,186,211,112,177,54,31,12,29,242,171,232,201,238,119,4,181,42,131,96,225,166,207,252,77,98,91,216,249,94,39,244,229,154,51,80,17,22,127,236,125,210,11,200,41,206,215,228,21,10,227,64,65,134,47,220,173,66,187,184,89,62,135,212,69,122,147,48,113,246,223,204,221,178,107,168,137,174,55,196,117,234,67,32,161,102,143,188,13,34,27,152,185,30,231,180,165,90,243,16,209,214,63,172,61,146,203,136,233,142,151,164,213,202,163]
theorem whn7:(List.range 8).all (fun e=>orb 7 ((whn 7).getD e 0) 0 == e && decide ((whn 7).getD e 0≤7))=true:=by decide +kernel
theorem whn15:(List.range 16).all (fun e=>orb 15 ((whn 15).getD e 0) 0 == e && decide ((whn 15).getD e 0≤15))=true:=by decide +kernel
theorem whn31:(List.range 32).all (fun e=>orb 31 ((whn 31).getD e 0) 0 == e && decide ((whn 31).getD e 0≤31))=true:=by decide +kernel
theorem whn63:(List.range 64).all (fun e=>orb 63 ((whn 63).getD e 0) 0 == e && decide ((whn 63).getD e 0≤63))=true:=by decide +kernel
theorem whn127:(List.range 128).all (fun e=>orb 127 ((whn 127).getD e 0) 0 == e && decide ((whn 127).getD e 0≤127))=true:=by decide +kernel
theorem whn255:(List.range 256).all (fun e=>orb 255 ((whn 255).getD e 0) 0 == e && decide ((whn 255).getD e 0≤255))=true:=by decide +kernel
theorem Zia {m e:Nat} (hm:Msk m) (he:e≤m):∃ k,k≤m∧orb m k 0=e:=by
 have go:∀ {m:Nat},(List.range (m + 1)).all (fun e=>orb m ((whn m).getD e 0) 0 == e && decide ((whn m).getD e 0≤m))=true→e≤m→∃ k,k≤m∧orb m k 0=e:=fun h he=>by
  have:=List.all_eq_true.mp h e (List.mem_range.mpr (by omega))
  rw [Bool.and_eq_true] at this
  exact ⟨_,of_decide_eq_true this.2,eq_of_beq this.1⟩
 rcases hm with rfl | rfl | rfl | rfl | rfl | rfl
 ·exact go whn7 he
 ·exact go whn15 he
 ·exact go whn31 he
 ·exact go whn63 he
 ·exact go whn127 he
 ·exact go whn255 he
theorem Zip {m:Nat} (hm:Msk m):orb m (m + 1) 0=0:=by
 rcases hm with rfl | rfl | rfl | rfl | rfl | rfl <;> decide +kernel
theorem ZhI {m i e:Nat} (hm:Msk m) (hi:i≤m) (he:e≤m):∃ k,k≤m∧orb m (k + 1) i=e:=by
 obtain ⟨a,a1,a2⟩:=Zia hm hi
 obtain ⟨b,b1,b2⟩:=Zia hm he
 by_cases c:a < b
 ·refine ⟨b - a - 1,by omega,?_⟩
  rw [← a2,← Zd7,show a + (b - a - 1 + 1)=b by omega]
  exact b2
 ·refine ⟨m - a + b,by omega,?_⟩
  rw [← a2,← Zd7,show a + (m - a + b + 1)=(m + 1) + b by omega,Zd7,Zip hm]
  exact b2
def lps (m:Nat):Nat→Nat→Nat→Nat×Nat
 | 0,i,q=>(i,q)
 | k + 1,i,q=>lps m k (leap m i q).1 (leap m i q).2
theorem Zjw (m:Nat):∀ (a b i q:Nat),lps m (a + b) i q=lps m b (lps m a i q).1 (lps m a i q).2
 | 0,b,i,q=>by rw [Nat.zero_add]; rfl
 | a + 1,b,i,q=>by
  rw [show a + 1 + b=(a + b) + 1 by omega]
  exact Zjw m a b _ _
theorem lps_q (m:Nat):∀ (k i q:Nat),(lps m k i q).2=q / 32 ^ k
 | 0,i,q=>by simp [lps]
 | k + 1,i,q=>by
  show (lps m k (leap m i q).1 (leap m i q).2).2=_
  rw [lps_q m k]
  show q / 32 / 32 ^ k=_
  rw [Nat.div_div_eq_div_mul,Nat.pow_succ,Nat.mul_comm]
theorem ZlF (m:Nat):∀ (k i q:Nat),0 < k→(lps m k i q).1≤m
 | 0,_,_,h=>absurd h (by omega)
 | k + 1,i,q,_=>by
  show (lps m k (leap m i q).1 (leap m i q).2).1≤m
  cases k with
  | zero =>
   show (i * 5 + 1 + q / 32) % (m + 1)≤m
   exact Nat.le_of_lt_succ (Nat.mod_lt _ (Nat.succ_pos _))
  | succ k=>exact ZlF m (k + 1) _ _ (by omega)
theorem ZjB (m:Nat):∀ (k i:Nat),(lps m k i 0).1=orb m k i∧(lps m k i 0).2=0
 | 0,i=>⟨rfl,rfl⟩
 | k + 1,i=>by
  have e:leap m i 0=(stp1 m i,0):=by simp [leap,stp1]
  show (lps m k (leap m i 0).1 (leap m i 0).2).1=orb m k (stp1 m i)∧_
  rw [e]
  exact ZjB m k (stp1 m i)
theorem Ze7 {m i q e:Nat} (hm:Msk m) (hq:q < 2 ^ 64) (he:e≤m):∃ k,1≤k∧k≤m + 14∧(lps m k i q).1=e:=by
 have z:(lps m 13 i q).2=0:=by
  rw [lps_q]
  exact Nat.div_eq_of_lt (Nat.lt_of_lt_of_le hq (by decide))
 obtain ⟨k,h1,h2⟩:=ZhI hm (ZlF m 13 i q (by decide)) he
 refine ⟨13 + (k + 1),by omega,by omega,?_⟩
 rw [Zjw,z,(ZjB m (k + 1) _).1]
 exact h2
variable {t:SetTable} {hashAt:Nat→Int} {h:Int}
theorem ZaS (hd:t.dummies = #[]) (j:Nat):t.slot j≠.dummy:=by
 unfold SetTable.slot
 dsimp only
 split
 ·exact fun z=>by cases z
 ·rw [if_neg]
  ·exact fun z=>by cases z
  ·rw [hd]; simp [SetTable.has]
theorem ZcN (m i:Nat):runEnd m i - i≤9:=by unfold runEnd; split <;> omega
theorem ZjH (hd:t.dummies = #[]):∀ (k:Nat) (fuel:Nat) (p:Probe),1≤k→t.slot (lps t.mask k p.i p.perturb).1=.empty→p.more + 10 * k≤fuel→p.more≤9→∃ met,SetTable.probe.go t hashAt h (fuel + 1) p=some met:=by
 intro k
 induction k with
 | zero=>intro _ _ h; omega
 | succ k ihk =>
  intro fuel
  induction fuel with
  | zero=>intro p _ _ hf; omega
  | succ fuel ih =>
   intro p hk hs hf hm
   unfold SetTable.probe.go
   cases q:t.slot p.j with
   | empty=>exact ⟨_,rfl⟩
   | dummy=>exact absurd q (ZaS hd _)
   | live i =>
    dsimp only
    split
    ·exact ⟨_,rfl⟩
    ·unfold SetTable.advance
     by_cases c:p.more > 0
     ·rw [if_pos c]
      exact ih { p with j:=p.j + 1,more:=p.more - 1 } hk hs (by dsimp only; omega) (by dsimp only; omega)
     ·rw [if_neg c]
      dsimp only
      have hr:=ZcN t.mask (leap t.mask p.i p.perturb).1
      cases k with
      | zero =>
       have hs:t.slot (leap t.mask p.i p.perturb).1=.empty:=hs
       unfold SetTable.probe.go
       dsimp only
       rw [hs]
       exact ⟨_,rfl⟩
      | succ k=>exact ihk fuel { p with j:=(leap t.mask p.i p.perturb).1,more:=runEnd t.mask (leap t.mask p.i p.perturb).1 - (leap t.mask p.i p.perturb).1,i:=(leap t.mask p.i p.perturb).1,perturb:=(leap t.mask p.i p.perturb).2 } (by omega) hs (by dsimp only; omega) (by dsimp only; omega)
theorem sub_len:∀ {l m:List Nat},l.Nodup→(∀ x∈l,x∈m)→l.length≤m.length
 | [],_,_,_=>Nat.zero_le _
 | a :: l,m,hn,h=>by
  have ha:=h a List.mem_cons_self
  have ih:=sub_len (l:=l) (m:=m.erase a) (List.nodup_cons.mp hn).2 fun x hx=>(List.mem_erase_of_ne (fun e=>(List.nodup_cons.mp hn).1 (by rw [← e]; exact hx))).mpr (h x (List.mem_cons_of_mem _ hx))
  have e:=List.length_erase_of_mem ha
  have p:=List.length_pos_of_mem ha
  rw [List.length_cons]
  omega
theorem Zfb {j i:Nat} (e:t.slot j=.live i):t.place[i]?=some j:=by
 unfold SetTable.slot at e
 dsimp only at e
 split at e
 ·rename_i z
  injection e with e
  subst e
  exact eq_of_beq z
 ·split at e <;> cases e
theorem Zhc (hd:t.dummies = #[]) (hf:t.place.size≤t.mask):∃ j,j≤t.mask∧t.slot j=.empty:=by
 apply Classical.byContradiction
 intro n
 have all:∀ j∈List.range (t.mask + 1),j∈t.place.toList:=fun j hj=>by
  cases q:t.slot j with
  | empty=>exact absurd ⟨j,by have:=List.mem_range.mp hj; omega,q⟩ n
  | dummy=>exact absurd q (ZaS hd _)
  | live i =>
   have:=Zfb q
   exact Array.mem_toList_iff.mpr (Array.mem_of_getElem? this)
 have:=sub_len (List.nodup_range (n:=t.mask + 1)) all
 rw [List.length_range,Array.length_toList] at this
 omega
structure Stand (t:SetTable) (p:Probe):Prop where
 more:p.more≤9
 pert:p.perturb < 2 ^ 64
theorem Zi6 (h:Int):bits h < 2 ^ 64:=by
 unfold bits
 have h1:=Int.emod_nonneg h (show (2 ^ 64:Int)≠0 by decide)
 have h2:=Int.emod_lt_of_pos h (show (0:Int) < 2 ^ 64 by decide)
 omega
theorem ZbO (t:SetTable) (h:Int):Stand t (t.probeStart h):=⟨ZcN _ _,Zi6 h⟩
theorem Stand.next {p:Probe} (s:Stand t p):Stand t (t.advance p):=by
 unfold SetTable.advance
 split
 ·exact ⟨by dsimp only; have:=s.more; omega,s.pert⟩
 ·refine ⟨ZcN _ _,?_⟩
  show p.perturb / 32 < 2 ^ 64
  exact Nat.lt_of_le_of_lt (Nat.div_le_self _ _) s.pert
theorem Zb3 (hm:Msk t.mask) (hd:t.dummies = #[]) (hf:t.place.size≤t.mask) {p:Probe} (s:Stand t p):∃ met,t.probe hashAt h p=some met:=by
 obtain ⟨e,he,hs⟩:=Zhc hd hf
 obtain ⟨k,k1,k2,k3⟩:=Ze7 (i:=p.i) hm s.pert he
 have fu:10 * turns t.mask=(10 * turns t.mask - 1) + 1:=by unfold turns; omega
 unfold SetTable.probe
 rw [fu]
 exact ZjH hd k _ p k1 (by rw [k3]; exact hs) (by unfold turns; have:=s.more; omega) s.more
end Tab
namespace Tab
open PySem PySem.SetTable
theorem ZeP {m:Nat} {owner:Array (Option Nat)}:∀ (k fuel i q:Nat),(owner.getD (lps m k i q).1 (some 0)).isNone=true→k < fuel→∃ j,SetTable.layClean.free m owner fuel i q=some j∧(owner.getD j (some 0)).isNone=true
 | _,0,_,_,_,h=>absurd h (by omega)
 | k,fuel + 1,i,q,hs,hk=>by
  unfold SetTable.layClean.free
  cases c:(List.range (runEnd m i + 1 - i)).find? fun k=>(owner.getD (i + k) (some 0)).isNone with
  | some a=>exact ⟨i + a,rfl,List.find?_some (p:=fun k=>(owner.getD (i + k) (some 0)).isNone) c⟩
  | none =>
   cases k with
   | zero =>
    have n:=List.find?_eq_none.mp c 0 (List.mem_range.mpr (by unfold runEnd; split <;> omega))
    exact absurd hs n
   | succ k=>exact ZeP k fuel (leap m i q).1 (leap m i q).2 hs (by omega)
def cnt (owner:Array (Option Nat)):Nat:=owner.toList.countP Option.isSome
structure Own (m:Nat) (owner:Array (Option Nat)) (k:Nat):Prop where
 sz:owner.size=m + 1
 ct:cnt owner=k
 lt:∀ x∈owner.toList,∀ v,x=some v→v < k
theorem Own.empty {m k:Nat} {owner:Array (Option Nat)} (o:Own m owner k) (hk:k≤m):∃ e,e≤m∧(owner.getD e (some 0)).isNone=true:=by
 apply Classical.byContradiction
 intro n
 have all:∀ x∈owner.toList,Option.isSome x=true:=fun x hx=>by
  obtain ⟨i,hi,e⟩:=List.getElem_of_mem hx
  rw [Array.length_toList] at hi
  cases x with
  | some v=>rfl
  | none =>
   refine absurd ⟨i,by have:=o.sz; omega,?_⟩ n
   rw [Array.getD_eq_getD_getElem?,Array.getElem?_eq_getElem hi]
   have:owner[i]=none:=by rw [← e,Array.getElem_toList]
   rw [this]; rfl
 have e:=List.countP_eq_length.mpr all
 have:=o.ct
 unfold cnt at this
 rw [Array.length_toList,o.sz] at e
 omega
theorem Own.put {m k j:Nat} {owner:Array (Option Nat)} (o:Own m owner k) (hj:(owner.getD j (some 0)).isNone=true):Own m (owner.setIfInBounds j (some k)) (k + 1):=by
 have lt:j < owner.size:=by
  by_cases c:j < owner.size
  ·exact c
  ·rw [Array.getD_eq_getD_getElem?,Array.getElem?_eq_none (by omega)] at hj
   cases hj
 have nn:owner[j]=none:=by
  rw [Array.getD_eq_getD_getElem?,Array.getElem?_eq_getElem lt] at hj
  exact Option.isNone_iff_eq_none.mp hj
 have el:(owner.setIfInBounds j (some k)).toList=owner.toList.set j (some k):=Array.toList_setIfInBounds
 have lt':j < owner.toList.length:=by rw [Array.length_toList]; exact lt
 have nn':owner.toList[j]=none:=by rw [Array.getElem_toList]; exact nn
 refine ⟨by rw [Array.size_setIfInBounds]; exact o.sz,?_,fun x hx v e=>?_⟩
 ·unfold cnt
  rw [el,List.countP_set lt',nn']
  have:=o.ct
  unfold cnt at this
  rw [this]
  rfl
 ·rw [el] at hx
  rcases List.mem_or_eq_of_mem_set hx with h | h
  ·exact Nat.lt_succ_of_lt (o.lt x h v e)
  ·rw [e] at h
   have:=Option.some.inj h
   omega
theorem Zep {m:Nat} (hm:Msk m):∀ (hs:List Int) (owner:Array (Option Nat)) (k:Nat),Own m owner k→k + hs.length≤m →
  ∃ owner',hs.foldl (init:=some (owner,k)) (fun acc h=>do
   let (owner,k) ← acc
   let j ← SetTable.layClean.free m owner (turns m) (bits h % (m + 1)) (bits h)
   pure (owner.setIfInBounds j (some k),k + 1))=some (owner',k + hs.length)∧Own m owner' (k + hs.length)
 | [],owner,k,o,_=>⟨owner,rfl,o⟩
 | h :: hs,owner,k,o,hl=>by
  rw [List.length_cons] at hl
  obtain ⟨e,he,z⟩:=o.empty (by omega)
  obtain ⟨a,_,a2,a3⟩:=Ze7 (i:=bits h % (m + 1)) hm (Zi6 h) he
  obtain ⟨j,j1,j2⟩:=ZeP (m:=m) (owner:=owner) a (turns m) (bits h % (m + 1)) (bits h) (by rw [a3]; exact z) (by unfold turns; omega)
  obtain ⟨o',e1,e2⟩:=Zep hm hs _ (k + 1) (o.put j2) (by omega)
  refine ⟨o',?_,by rw [List.length_cons,show k + (hs.length + 1)=k + 1 + hs.length by omega]; exact e2⟩
  rw [List.foldl_cons,List.length_cons,show k + (hs.length + 1)=k + 1 + hs.length by omega,← e1]
  congr 1
  show (do let j ← SetTable.layClean.free m owner (turns m) (bits h % (m + 1)) (bits h); pure (owner.setIfInBounds j (some k),k + 1))=some (owner.setIfInBounds j (some k),k + 1)
  rw [j1]
  rfl
theorem ZeR (m:Nat):Own m (Array.replicate (m + 1) none) 0:=by
 refine ⟨Array.size_replicate,?_,fun x hx v e=>?_⟩
 ·unfold cnt
  rw [Array.toList_replicate]
  refine List.countP_eq_zero.mpr fun x hx=>?_
  rw [List.eq_of_mem_replicate hx]
  decide
 ·rw [Array.toList_replicate] at hx
  have:=List.eq_of_mem_replicate hx
  rw [e] at this
  cases this
theorem Zcu (owner:Array (Option Nat)):owner.toList=(List.range owner.size).map fun j=>owner.getD j none:=by
 apply List.ext_getElem?
 intro i
 by_cases h:i < owner.size
 ·rw [List.getElem?_map,List.getElem?_range h,Array.getElem?_toList,Array.getElem?_eq_getElem h]
  simp [Array.getD_eq_getD_getElem?,Array.getElem?_eq_getElem h]
 ·rw [List.getElem?_eq_none (by rw [Array.length_toList]; omega),List.getElem?_eq_none (by simp; omega)]
theorem ZiB {m finger moves:Nat} {led plain:Bool} {hashes:Array Int} (hm:Msk m) (hn:hashes.size≤m) :
  ∃ t order,SetTable.laid m finger moves led plain hashes=some (t,order)∧t.mask=m∧t.dummies = #[]∧t.place.size=hashes.size∧order.size=hashes.size∧(∀ x∈order.toList,x < hashes.size)∧t.led=led∧t.plain=plain:=by
 obtain ⟨o,e,w⟩:=Zep hm hashes.toList _ 0 (ZeR m) (by rw [Array.length_toList]; omega)
 rw [Nat.zero_add,Array.length_toList] at e w
 have lc:SetTable.layClean m hashes=some o:=by
  unfold SetTable.layClean
  rw [← Array.foldl_toList,e]
  rfl
 have len:((List.range (m + 1)).filterMap fun j=>(o.getD j none).map (j,·)).length=hashes.size:=by
  rw [List.length_filterMap_eq_countP]
  have c:=w.ct
  unfold cnt at c
  rw [Zcu,List.countP_map,w.sz] at c
  rw [← c]
  congr 1
  funext j
  simp
 refine ⟨_,_,by unfold SetTable.laid; rw [lc]; rfl,rfl,rfl,?_,?_,fun x hx=>?_,rfl,rfl⟩
 ·show ((((List.range (m + 1)).filterMap fun j=>(o.getD j none).map (j,·)).map (·.1)).toArray).size=_
  rw [List.size_toArray,List.length_map,len]
 ·show ((((List.range (m + 1)).filterMap fun j=>(o.getD j none).map (j,·)).map (·.2)).toArray).size=_
  rw [List.size_toArray,List.length_map,len]
 ·have hx:x∈(((List.range (m + 1)).filterMap fun j=>(o.getD j none).map (j,·)).map (·.2)).toArray.toList:=hx
  rw [List.toList_toArray] at hx
  obtain ⟨p,hp,rfl⟩:=List.mem_map.mp hx
  obtain ⟨j,hj,e2⟩:=List.mem_filterMap.mp hp
  have jl:=List.mem_range.mp hj
  cases q:o.getD j none with
  | none=>rw [q] at e2; cases e2
  | some v =>
   rw [q] at e2
   have e2:=Option.some.inj e2
   rw [← e2]
   refine w.lt (some v) ?_ v rfl
   rw [Zcu]
   exact List.mem_map.mpr ⟨j,by rw [w.sz]; exact hj,q⟩
def advN (t:SetTable):Nat→Probe→Probe
 | 0,p=>p
 | n + 1,p=>advN t n (t.advance p)
section
variable {t:SetTable} {hashAt:Nat→Int} {h:Int}
theorem ZeS (p:Probe):(t.advance p).dummy=p.dummy:=by
 unfold SetTable.advance
 split <;> rfl
theorem Zgo (hd:t.dummies = #[]):∀ (fuel:Nat) (p:Probe) (met:Met),SetTable.probe.go t hashAt h fuel p=some met →
  (∃ j n,met=.empty j p.dummy∧n < fuel∧t.slot (advN t n p).j=.empty)∨(∃ j i n,met=.candidate j i (advN t (n + 1) p)∧t.slot j=.live i∧∀ m,m≤n→t.slot (advN t m p).j≠.empty)
 | 0,p,met,e=>by cases e
 | fuel + 1,p,met,e=>by
  unfold SetTable.probe.go at e
  cases q:t.slot p.j with
  | empty =>
   rw [q] at e
   cases e
   exact .inl ⟨_,0,rfl,Nat.succ_pos _,q⟩
  | dummy=>exact absurd q (ZaS hd _)
  | live i =>
   rw [q] at e
   dsimp only at e
   split at e
   ·cases e
    refine .inr ⟨p.j,i,0,rfl,q,fun m hm=>?_⟩
    have:m=0:=by omega
    subst this
    show t.slot p.j≠.empty
    rw [q]; exact fun z=>by cases z
   ·rcases Zgo hd fuel (t.advance p) met e with ⟨j,n,a,b,c⟩ | ⟨j,i',n,a,b,c⟩
    ·exact .inl ⟨j,n + 1,by rw [a,ZeS],by omega,c⟩
    ·refine .inr ⟨j,i',n + 1,a,b,fun m hm=>?_⟩
     cases m with
     | zero=>show t.slot p.j≠.empty; rw [q]; exact fun z=>by cases z
     | succ m=>exact c m (by omega)
theorem ZjE (hm:Msk t.mask) (hd:t.dummies = #[]) (hf:t.place.size≤t.mask) {p:Probe} (s:Stand t p):∃ n,n < 10 * turns t.mask∧t.slot (advN t n p).j=.empty:=by
 obtain ⟨met,e⟩:=Zb3 (hashAt:=fun _=>1) (h:=0) hm hd hf s
 have e':=e
 unfold SetTable.probe at e
 rcases Zgo hd _ p met e with ⟨j,n,_,b,c⟩ | ⟨j,i,n,a,b,c⟩
 ·exact ⟨n,b,c⟩
 ·-- no hash is alike
  exfalso
  have no:∀ (fuel:Nat) (p:Probe) (j i:Nat) (nx:Probe),SetTable.probe.go t (fun _=>1) 0 fuel p≠some (.candidate j i nx):=fun fuel=>by
   induction fuel with
   | zero=>intro p j i nx z; cases z
   | succ fuel ih =>
    intro p j i nx z
    unfold SetTable.probe.go at z
    cases q:t.slot p.j with
    | empty=>rw [q] at z; cases z
    | dummy=>exact absurd q (ZaS hd _)
    | live i' =>
     rw [q] at z
     exact ih _ _ _ _ z
  rw [a] at e
  exact no _ _ _ _ _ e
theorem ZdI {p:Probe}:∀ (n:Nat) {p:Probe},Stand t p→Stand t (advN t n p)
 | 0,_,s=>s
 | n + 1,_,s=>ZdI (p:=p) n s.next
theorem ZdN:∀ (n:Nat) (p:Probe),(advN t n p).dummy=p.dummy
 | 0,_=>rfl
 | n + 1,p=>by
  show (advN t n (t.advance p)).dummy=_
  rw [ZdN n,ZeS]
theorem ZgE:∀ (a b:Nat) (p:Probe),advN t (a + b) p=advN t b (advN t a p)
 | 0,b,p=>by rw [Nat.zero_add]; rfl
 | a + 1,b,p=>by
  rw [show a + 1 + b=(a + b) + 1 by omega]
  exact ZgE a b _
end
section
variable {prog:Program} {w:World} {A:Around} {E:Value→Shared→Prop} {s:Shared}
abbrev TK (prog:Program) (w:World) (h:Heap) (b:Addr):Prop:=∃ ks,IsTupleKey (intKind prog w) h ks b
theorem ZmG {ks:List Int} {vs:List Value} (h:ItemsAre (intKind prog w) ks vs):∀ v∈vs,∃ i tk,v=.int i tk:=by
 induction h with
 | nil=>intro v hv; cases hv
 | @cons k v ks vs h1 _ ih =>
  intro u hu
  rcases List.mem_cons.mp hu with rfl | hu
  ·cases u with
   | int i tk=>exact ⟨i,tk,rfl⟩
   | _=>cases h1
  ·exact ih u hu
theorem TK.at {b:Addr} (k:TK prog w s.heap b):∃ o items n,s.heap.get? b=some o∧o.cls=.type "tuple" ∧ o.data=.seq items n∧∀ v∈items.toList,∃ i tk,v=.int i tk:=by
 obtain ⟨ks,o,items,n,h1,h2,h3,h4⟩:=k
 exact ⟨o,items,n,h1,h2,h3,ZmG h4⟩
theorem Zb9 {b:Addr} {o:Obj} {items:Array Value} {n:Nat} {Q:Option (Array Value)→Shared→Prop} (ho:s.heap.get? b=some o) (hd:o.data=.seq items n) (h:Q (some items) s):wpAny (model prog w) A (seqItems? (.ref b)) Q E s:=by
 unfold seqItems?
 refine wpAny_bind (wpAny_load ho ?_)
 rw [hd]
 exact wpAny_pure h
theorem ZgJ {b:Addr} {Q:Bool→Shared→Prop} (k:TK prog w s.heap b) (h:Q false s):wpAny (model prog w) A (ofAClassStatement 8 (.ref b)) Q E s:=by
 obtain ⟨o,items,n,ho,hc,hd,hi⟩:=k.at
 unfold ofAClassStatement
 refine wpAny_bind (wpAny_typeOf ⟨o,ho,hc⟩ ?_)
 refine wpAny_bind (wpAny_pure ?_)
 simp only [Bool.not_true,Bool.false_eq_true,if_false]
 refine wpAny_bind (Zb9 ho hd ?_)
 dsimp only
 refine wpAny_bind ?_
 rw [← Array.forIn_toList]
 refine wpAny_forIn_list _ (fun rest r s'=>r.1=none∧s'=s∧∀ v∈rest,∃ i tk,v=.int i tk) _ ?_ ?_ _ _ ⟨rfl,rfl,hi⟩
 ·rintro v rest r s' ⟨hr,rfl,hv⟩
  obtain ⟨i,tk,rfl⟩:=hv v List.mem_cons_self
  refine wpAny_bind (wpAny_pure ?_)
  exact wpAny_pure ⟨rfl,rfl,fun u hu=>hv u (List.mem_cons_of_mem _ hu)⟩
 ·rintro ⟨r1,r2⟩ s' ⟨hr,rfl,_⟩
  simp only at hr
  subst hr
  exact wpAny_pure h
theorem ZkQ {x:Addr} {Q:Bool→Shared→Prop} (hx:TK prog w s.heap x) (ys:List Value) (hy:∀ y∈ys,∃ b,y=.ref b∧TK prog w s.heap b) (h:Q false s):wpAny (model prog w) A (searchCouldBeSeen (.ref x) ys) Q E s:=by
 unfold searchCouldBeSeen
 refine wpAny_bind ?_
 refine wpAny_forIn_list _ (fun rest r s'=>r.1=none∧s'=s∧∀ y∈rest,∃ b,y=.ref b∧TK prog w s.heap b) _ ?_ ?_ _ _ ⟨rfl,rfl,hy⟩
 ·rintro v rest r s' ⟨hr,rfl,hv⟩
  obtain ⟨b,rfl,hb⟩:=hv v List.mem_cons_self
  have tl:∀ y∈rest,∃ b,y=.ref b∧TK prog w s'.heap b:=fun u hu=>hv u (List.mem_cons_of_mem _ hu)
  dsimp only
  split
  ·exact wpAny_pure ⟨rfl,rfl,tl⟩
  ·obtain ⟨kx,kx'⟩:=id hx
   obtain ⟨kb,kb'⟩:=id hb
   refine wpAny_bind (wpAny_eqIsQuiet_tuple kx' ?_)
   simp only [Bool.not_true,Bool.false_eq_true,if_false]
   refine wpAny_bind (wpAny_eqIsQuiet_tuple kb' ?_)
   simp only [Bool.not_true,Bool.false_eq_true,if_false]
   refine wpAny_bind (ZgJ hx ?_)
   simp only [Bool.false_eq_true,if_false]
   refine wpAny_bind (ZgJ hb ?_)
   simp only [Bool.false_eq_true,if_false]
   exact wpAny_pure ⟨rfl,rfl,tl⟩
 ·rintro ⟨r1,r2⟩ s' ⟨hr,rfl,_⟩
  simp only at hr
  subst hr
  exact wpAny_pure h
end
section
variable {prog:Program} {w:World} {A:Around} {E:Value→Shared→Prop} {s:Shared}
def TKs (prog:Program) (w:World) (h:Heap) (es:Array (Int×Value)):Prop:=∀ e∈es.toList,∃ b,e.2=.ref b∧TK prog w h b
structure TOk (t:SetTable) (n:Nat):Prop where
 msk:Msk t.mask
 dum:t.dummies = #[]
 sz:t.place.size=n
 lo:n * 5 < t.mask * 3
theorem Msk.odd {m:Nat} (h:Msk m):(m % 2 == 0)=false:=by rcases h with rfl | rfl | rfl | rfl | rfl | rfl <;> rfl
theorem TOk.fits {t:SetTable} {n:Nat} (o:TOk t n):t.fits n=true:=by
 have:=o.lo
 unfold SetTable.fits SetTable.fill
 rw [o.sz,o.dum]
 simp only [beq_self_eq_true,Bool.true_and,decide_eq_true_eq]
 show n + 0≤_
 omega
theorem TK.same {h h':Heap} {a b:Addr} {o:Obj} (k:TK prog w h b) (hs:Heap.SameBut a h h') (ho:h.get? a=some o) (hc:o.cls=.type "set"):TK prog w h' b:=by
 obtain ⟨ks,ob,items,n,h1,h2,h3,h4⟩:=k
 refine ⟨ks,ob,items,n,?_,h2,h3,h4⟩
 rw [hs.2 b (fun e=>?_)]
 ·exact h1
 ·subst e
  rw [ho] at h1
  have:=Option.some.inj h1
  subst this
  rw [hc] at h2
  exact absurd h2 (by decide)
theorem TKs.same {h h':Heap} {a:Addr} {o:Obj} {es:Array (Int×Value)} (k:TKs prog w h es) (hs:Heap.SameBut a h h') (ho:h.get? a=some o) (hc:o.cls=.type "set"):TKs prog w h' es:=fun e he =>
 let ⟨b,e1,e2⟩:=k e he
 ⟨b,e1,e2.same hs ho hc⟩
theorem ZkX {t:SetTable} {n:Nat} (hm:Msk t.mask) (hd:t.dummies = #[]) (hz:t.place.size=n) (j:Nat):(t.put j).1.mask=t.mask∧(t.put j).1.dummies = #[]∧(t.put j).1.place.size=n + 1∧(t.put j).1.led=t.led:=by
 unfold SetTable.put
 refine ⟨rfl,?_,?_,rfl⟩
 ·dsimp only
  rw [hd]
  rfl
 ·show (SetTable.insertAt t.place _ j).size=_
  rw [← Array.length_toList,(SetTable.insertAt_perm _ _ _).length_eq,Array.length_toList,Array.size_push,hz]
theorem Zmn {n m:Nat} (hm:Msk m) (lo:n * 5 < m * 3) (hi:¬ (n + 1) * 5 < m * 3) (hn:n + 1≤76):Msk (SetTable.sizeAbove (SetTable.grown (n + 1)) - 1)∧(n + 1) * 5 < (SetTable.sizeAbove (SetTable.grown (n + 1)) - 1) * 3∧SetTable.sizeAbove (SetTable.grown (n + 1))≤256:=by
 rcases hm with rfl | rfl | rfl | rfl | rfl | rfl
 ·have:n=4:=by omega
  subst this
  refine ⟨.inr (.inr (.inl rfl)),by decide,by decide⟩
 ·have:n=8:=by omega
  subst this
  refine ⟨.inr (.inr (.inr (.inl rfl))),by decide,by decide⟩
 ·have:n=18:=by omega
  subst this
  refine ⟨.inr (.inr (.inr (.inr (.inl rfl)))),by decide,by decide⟩
 ·have:n=37:=by omega
  subst this
  refine ⟨.inr (.inr (.inr (.inr (.inr rfl)))),by decide,by decide⟩
 ·omega
 ·omega
theorem Zfs {es:Array (Int×Value)}:∀ (order:List Nat),(∀ x∈order,x < es.size)→(order.filterMap (es[·]?)).length=order.length
 | [],_=>rfl
 | x :: l,h=>by
  have hx:=h x List.mem_cons_self
  rw [List.filterMap_cons_some (Array.getElem?_eq_getElem hx)]
  simp only [List.length_cons]
  rw [Zfs l fun y hy=>h y (List.mem_cons_of_mem _ hy)]
theorem Zex {h:Heap} {a:Addr} {o:Obj} {es:Array (Int×Value)} {ep:Nat} {t:SetTable} (ho:h.get? a=some o) (hd:o.data=.set es ep t) (es':Array (Int×Value)) (t':SetTable) :
  (h.update a (Obj.putSet es' t')).get? a=some { o with data:=.set es' (ep + 1) t' }:=by
 have:=Heap.get?_update_self (Obj.putSet es' t') ho (by rw [putSet_of es' t' hd]; rfl)
 rw [putSet_of es' t' hd] at this
 exact this
end
section
variable {prog:Program} {w:World} {A:Around} {E:Value→Shared→Prop} {s:Shared}
abbrev fresh (led:Bool):Obj:={ cls:=.type "set", dict:=none,data:=.set #[] 0 (.fresh 0 0 led) }
end
end Tab
namespace L3
open PySem L2
section
variable {K:PySem.W.Frag} {X:Cx} {pos p:Pos} {tg:Expr}
theorem ItOk.rng2 {B:Hp} (i0:Int) (n:Nat):ItOk K B (Itr i0 n) ((List.range n).map fun i:Nat=>D.int (i0 + i)):=by
 intro H s i
 rw [List.length_map,List.length_range]
 refine ⟨fun hi=>hi,fun hi=>hi,fun x H' hi ⟨e1,e2⟩=>⟨e1,?_⟩⟩
 refine ⟨.int (i0 + i),?_,?_⟩
 ·rw [List.getElem?_map,List.getElem?_range hi]; rfl
 ·rw [e2]; exact .int _
def uiR2 (u u2:UE):UL:=fun ρ k=>u ρ fun d=>u2 ρ fun d2=>∃ i j,d=.int i∧d2=.int j∧(-(2 ^ 62)≤i∧i < 2 ^ 62 ∧ -(2 ^ 62)≤j∧j < 2 ^ 62)∧k ((List.range (j - i).toNat).map fun t:Nat=>D.int (i + t))
theorem i_rng2 {a b:Expr} {u u2:UE} (ha:PE3 X a u) (hb:PE3 X b u2) (hg:Gl X "range") (hm:X.mg "range" = none) (hs:starEach [a,b] X.env=[(false,eval a X.env),(false,eval b X.env)]:=by rfl) (hs2:starEach [b] X.env=[(false,eval b X.env)]:=by rfl):PI3 X tg (.Call (.Name "range" p) [a,b] [] pos) (uiR2 u u2):=by
 obtain ⟨_,h1,r1⟩:=ha
 obtain ⟨_,h2,r2⟩:=hb
 refine ⟨_,Ziq hg hm (Zau h1 (Zau h2 ZaR (by rw [hs2]; rfl)) (by rw [hs,hs2])) hs hs2,fun ρ k h R W B H σ Q e q=>?_⟩
 refine r1 ρ _ h R W B H σ _ e fun d v B1 H1 z1 e1 g1 s1=>?_
 refine r2 ρ _ z1 R W B1 H1 σ _ e1 fun d2 v2 B2 H2 z2 e2 g2 s2=>?_
 obtain ⟨i,j,rfl,rfl,jj,z⟩:=z2
 exact ⟨i,j,by rw [s1.intV,s2.intV],jj,q _ _ B2 H2 z e2 (g1.trans g2) (ItOk.rng2 _ _)⟩
end
section
variable {P:Program} {w:World} {A:Around} {E:Value→Shared→Prop} {s:Shared}
inductive TupsAre (h:Heap):List (List Int)→List Value→Prop
 | nil:TupsAre h [] []
 | cons {l:List Int} {a:Addr} {ks:List (List Int)} {us:List Value} (k:IsTupleKey (intKind P w) h l a) (r:TupsAre h ks us):TupsAre h (l :: ks) (.ref a :: us)
def IsKey2 (P:Program) (w:World) (h:Heap) (ks:List (List Int)) (a:Addr):Prop:=∃ ob us n,h.get? a=some ob∧ob.cls=.type "tuple" ∧ ob.data=.seq us n∧TupsAre (P:=P) (w:=w) h ks us.toList
theorem TupsAre.inj2 {h:Heap} {us:List Value}:∀ {x y:List (List Int)},TupsAre (P:=P) (w:=w) h x us→TupsAre (P:=P) (w:=w) h y us→x=y:=by
 intro x y p
 induction p generalizing y with
 | nil=>intro q; cases q; rfl
 | cons k r ih =>
  intro q
  cases q with
  | cons k' r'=>rw [k.inj k',ih r']
theorem IsKey2.ty {ks:List (List Int)} {a:Addr} (x:IsKey2 P w s.heap ks a):s.TypeIs (.ref a) "tuple" := let ⟨ob,_,_,h1,h2,_⟩:=x; ⟨ob,h1,h2⟩
theorem IsKey2.inj2 {h:Heap} {a:Addr} {x y:List (List Int)} (p:IsKey2 P w h x a) (q:IsKey2 P w h y a):x=y:=by
 obtain ⟨o1,u1,n1,a1,_,c1,d1⟩:=p
 obtain ⟨o2,u2,n2,a2,_,c2,d2⟩:=q
 rw [a1] at a2; cases a2
 rw [c1] at c2; cases c2
 exact d1.inj2 d2
theorem TupsAre.keep {h h':Heap} {d:Addr} {ob:Obj} {es:Array DictEntry} {ep:Nat} (ho:h.get? d=some ob) (hd:ob.data=.dict es ep) (hs:Heap.SameBut d h h'):∀ {ks:List (List Int)} {us:List Value},TupsAre (P:=P) (w:=w) h ks us→TupsAre (P:=P) (w:=w) h' ks us
 | _,_,.nil=>.nil
 | _,_,.cons k r=>.cons (k.keeps ho hd hs) (TupsAre.keep ho hd hs r)
theorem IsKey2.keep {h h':Heap} {ks:List (List Int)} {a d:Addr} {ob:Obj} {es:Array DictEntry} {ep:Nat} (x:IsKey2 P w h ks a) (ho:h.get? d=some ob) (hd:ob.data=.dict es ep) (hs:Heap.SameBut d h h'):IsKey2 P w h' ks a:=by
 obtain ⟨o1,u1,n1,a1,b1,c1,d1⟩:=x
 refine ⟨o1,u1,n1,?_,b1,c1,d1.keep ho hd hs⟩
 have ne:a≠d:=by
  rintro rfl
  rw [ho] at a1; cases a1
  rw [hd] at c1; cases c1
 exact (hs.2 a ne).trans a1
def ZgD (ks:List (List Int)):Nat:=(ks.map fun l=>l.length + 1).sum + 1
theorem hash2 {ks:List (List Int)} {a:Addr} {Q:Int→Shared→Prop} (hu:A.units + 3 < cLine) (hk:IsKey2 P w s.heap ks a) (h:Q (ZfE true ks) { s with toks:=s.toks + ZgD ks }):wpAny (model P w) A (pyHash (.ref a)) Q E s:=by
 have hT:=hk.ty
 obtain ⟨ob,us,n,h1,_,h3,h4⟩:=hk
 unfold pyHash
 first | unfold pyHashByItsType | skip
 first | refine wpAny_bind (wpAny_cRoomFor_or (.inr (by omega)) ?_) | skip
 refine wpAny_bind (wpAny_specialOf hT F.slot_tuple_hash.lookup ?_)
 show wpAny (model P w) A (if (some (Value.builtin "tuple.__hash__") == some Value.none)=true then _ else _) Q E s
 rw [if_neg (by rw [beq_builtin_none]; exact Bool.false_ne_true)]
 refine wpAny_bind (wpAny_specialOf hT F.slot_tuple_hash.lookup ?_)
 show wpAny (model P w) A (callSpecialIfBoundUnlessNone? (.ref a) "__hash__" _ >>= _) Q E s
 refine wpAny_bind (wpAny_callSpecialIfBoundUnlessNone?_slot hT F.slot_tuple_hash (wpAny_call_entry F.slot_tuple_hash hT F.entry_tuple_hash ?_ (F.args_tuple_hash_1 _)))
 show wpAny (model P w) _ (Builtin.Tuple.tupleItemsOf (.ref a) >>= _) _ _ s
 refine wpAny_bind (wpAny_tupleItemsOf h1 h3 ?_)
 refine wpAny_bind ?_
 rw [← Array.forIn_toList]
 refine wpAny_forIn_list _
  (fun rest (b:Array Int) s'=>∃ done left,ks=done ++ left∧TupsAre (P:=P) (w:=w) s.heap left rest∧b.toList=done.map (fun l=>reduceHash (Builtin.Tuple.tupleHashOf (l.map hashInt)))∧s'={ s with toks:=s.toks + (done.map fun l=>l.length + 1).sum })
  _ ?_ ?_ _ _ ⟨[],ks,rfl,h4,rfl,rfl⟩
 ·rintro x rest b s' ⟨done,left,rfl,hl,hb,rfl⟩
  cases hl with
  | @cons l c ks' _ k1 r1 =>
   have fin:∃ dn lf,done ++ l :: ks'=dn ++ lf∧TupsAre (P:=P) (w:=w) s.heap lf rest∧(b.push (reduceHash (Builtin.Tuple.tupleHashOf (l.map hashInt)))).toList=dn.map (fun l=>reduceHash (Builtin.Tuple.tupleHashOf (l.map hashInt))) ∧
     ({ s with toks:=s.toks + (done.map fun l=>l.length + 1).sum + (l.length + 1) }:Shared)={ s with toks:=s.toks + (dn.map fun l=>l.length + 1).sum }:=⟨done ++ [l],ks',by simp,r1,by simp [hb],by simp [Nat.add_assoc]⟩
   refine wpAny_bind (wpAny_pyHash_tuple (s:={ s with toks:=s.toks + (done.map fun l=>l.length + 1).sum }) (by show A.units + _ < cLine; omega) k1 ?_)
   first
    | exact wpAny_pure fin
    | exact wpAny_bind (wpAny_pure (wpAny_pure fin))
 ·rintro b s' ⟨done,left,rfl,hl,hb,rfl⟩
  cases hl
  rw [List.append_nil] at h
  show wpAny (model P w) _ (retInt (Builtin.Tuple.tupleHashOf b.toList)) _ _ _
  rw [hb]
  refine wpAny_ret_mkInt ?_
  generalize hz:Builtin.Tuple.tupleHashOf (done.map fun l=>reduceHash (Builtin.Tuple.tupleHashOf (l.map hashInt)))=z
  have e2:ZfE true done=reduceHash z:=by rw [← hz]; rfl
  rw [e2] at h
  show wpAny (model P w) _ (if (decide (-(2:Int) ^ 63≤z) && decide (z < 2 ^ 63))=true then _ else _) Q E _
  unfold reduceHash at h
  by_cases hr:(decide (-(2:Int) ^ 63≤z) && decide (z < 2 ^ 63))=true
  ·rw [if_pos hr]
   rw [if_pos hr] at h
   exact wpAny_pure (by simpa [Nat.add_assoc,ZgD] using h)
  ·rw [if_neg hr]
   rw [if_neg hr] at h
   exact wpAny_bind (wpAny_rule (wpAny_pure (by simpa [Nat.add_assoc,ZgD] using h)))
theorem tree2 {x y:List (List Int)} {a b:Addr} {R:PySem.Fin→Shared→Prop} (hu:A.units + 2 < cLine) (hx:IsKey2 P w s.heap x a) (hy:IsKey2 P w s.heap y b) (h:R (.done (.ret (.bool (decide (x=y))))) s) :
  wpAny (model P w) A (Builtin.«tuple.__eq__» ⟨[.ref a,.ref b],[]⟩) R E s:=by
 have hT:=hy.ty
 obtain ⟨o1,xs,n1,a1,_,c1,d1⟩:=hx
 obtain ⟨o2,ys,n2,a2,_,c2,d2⟩:=hy
 show wpAny (model P w) A (isInstance (.ref b) (.type "tuple") >>= _) _ _ s
 refine wpAny_bind (wpAny_isInstance hT isSubtype_tuple_tuple ?_)
 simp only [Bool.not_true,Bool.false_eq_true,if_false]
 refine wpAny_bind (wpAny_tupleItemsOf a1 c1 (wpAny_bind (wpAny_tupleItemsOf a2 c2 (wpAny_bind ?_))))
 refine wpAny_forIn_list _
  (fun rest r s'=>r.1=none∧s'=s∧∃ x' y' xs' ys',rest=List.zip xs' ys'∧TupsAre (P:=P) (w:=w) s.heap x' xs'∧TupsAre (P:=P) (w:=w) s.heap y' ys'∧decide (x'=y')=decide (x=y)∧(xs'.length == ys'.length)=(xs.size == ys.size))
  _ ?_ ?_ _ _ ⟨rfl,rfl,x,y,xs.toList,ys.toList,rfl,d1,d2,rfl,by simp⟩
 ·rintro ⟨u,v⟩ rest r s' ⟨hr,rfl,x',y',xs',ys',hz,hx',hy',hdec,hlen⟩
  cases hx' with
  | nil=>simp at hz
  | @cons k1 ad1 x2 xs2 h1 hx2 =>
   cases hy' with
   | nil=>simp at hz
   | @cons k2 ad2 y2 ys2 h2 hy2 =>
    rw [List.zip_cons_cons,List.cons.injEq,Prod.mk.injEq] at hz
    obtain ⟨⟨rfl,rfl⟩,rfl⟩:=hz
    refine wpAny_bind (wpAny_eqBool_tuple (by omega) h1 h2 ?_)
    by_cases hk:k1=k2
    ·subst hk
     rw [decide_eq_true rfl]
     simp only [Bool.not_true,Bool.false_eq_true,if_false]
     refine wpAny_pure ⟨rfl,rfl,x2,y2,xs2,ys2,rfl,hx2,hy2,?_,by simpa using hlen⟩
     rw [← hdec]
     by_cases e2:x2=y2 <;> simp [e2]
    ·rw [decide_eq_false hk]
     simp only [Bool.not_false,if_true]
     have hf:decide (x=y)=false:=by rw [← hdec]; simp [hk]
     rw [hf] at h
     exact wpAny_bind (wpAny_pure (wpAny_pure (wpAny_pure h)))
 ·rintro ⟨r1,r2⟩ s' ⟨hr,rfl,x',y',xs',ys',hz,hx',hy',hdec,hlen⟩
  simp only at hr
  subst hr
  refine wpAny_pure ?_
  have hfin:(xs.size == ys.size)=decide (x=y):=by
   rw [← hdec,← hlen]
   cases hx' with
   | nil=>cases hy' <;> simp
   | cons _ _ =>
    cases hy' with
    | nil=>simp
    | cons _ _=>simp at hz
  show R (.done (.ret (.bool (xs.size == ys.size)))) s'
  rw [hfin]; exact h
theorem eq2 {x y:List (List Int)} {a b:Addr} {Q:Bool→Shared→Prop} (hu:A.units + 3 < cLine) (hx:IsKey2 P w s.heap x a) (hy:IsKey2 P w s.heap y b) (h:Q (decide (x=y)) s):wpAny (model P w) A (eqBool (.ref a) (.ref b)) Q E s:=by
 unfold eqBool
 try with_reducible refine wpAny_holding ?_
 show wpAny (model P w) A (if (Value.ref a == Value.ref b)=true then _ else _) Q E s
 by_cases hab:(Value.ref a == Value.ref b)=true
 ·rw [if_pos hab]
  obtain rfl:a=b:=by have:=eq_of_beq hab; injection this
  obtain rfl:=hx.inj2 hy
  exact wpAny_bind (wpAny_rule (wpAny_pure (by simpa using h)))
 ·rw [if_neg hab]
  exact wpAny_bind (wpAny_richCompare_same_room (op:=.Eq) hx.ty hy.ty F.slot_tuple_eq
   (wpAny_call_entry F.slot_tuple_eq hx.ty F.entry_tuple_eq (tree2 (by show A.units + _ + 2 < cLine; omega) hx hy ⟨_,rfl,(fun e=>nomatch e),wpAny_truthy_bool h⟩) (F.args_tuple_eq_2 _ _)) (by omega))
theorem quiet1 (n:Nat) {l:List Int} {a:Addr} {Q:Bool→Shared→Prop} (hk:IsTupleKey (intKind P w) s.heap l a) (h:Q true s):wpAny (model P w) A (eqIsQuiet (n + 1) (.ref a)) Q E s:=by
 have hT:=hk.typeIs
 obtain ⟨ob,us,m,h1,_,h3,h4⟩:=hk
 unfold eqIsQuiet
 refine wpAny_bind (wpAny_specialOf hT F.slot_tuple_eq.lookup ?_)
 show wpAny (model P w) A (isInstance (.ref a) (.type "tuple") >>= _) _ _ s
 refine wpAny_bind (wpAny_isInstance hT isSubtype_tuple_tuple ?_)
 simp only [Bool.not_true,Bool.false_eq_true,if_false]
 refine wpAny_bind (wpAny_seqItems h1 h3 (wpAny_bind ?_))
 show wpAny (model P w) A (forIn us _ _) _ _ s
 rw [← Array.forIn_toList]
 refine wpAny_forIn_list _ (fun rest r s'=>r.1=none∧s'=s∧∀ v∈rest,carriedByValue v=true) _ ?_ ?_ _ _ ⟨rfl,rfl,h4.byValue⟩
 ·rintro v rest r s' ⟨hr,rfl,hall⟩
  rw [eqIsQuiet_byValue _ (hall v List.mem_cons_self)]
  refine wpAny_bind (wpAny_pure ?_)
  simp only [Bool.not_true,Bool.false_eq_true,if_false]
  exact wpAny_pure ⟨rfl,rfl,fun u hu'=>hall u (List.mem_cons_of_mem _ hu')⟩
 ·rintro ⟨r1,r2⟩ s' ⟨hr,rfl,_⟩
  simp only at hr
  subst hr
  exact wpAny_pure h
theorem quiet2 {ks:List (List Int)} {a:Addr} {Q:Bool→Shared→Prop} (hk:IsKey2 P w s.heap ks a) (h:Q true s):wpAny (model P w) A (eqIsQuiet 8 (.ref a)) Q E s:=by
 have hT:=hk.ty
 obtain ⟨ob,us,m,h1,_,h3,h4⟩:=hk
 unfold eqIsQuiet
 refine wpAny_bind (wpAny_specialOf hT F.slot_tuple_eq.lookup ?_)
 show wpAny (model P w) A (isInstance (.ref a) (.type "tuple") >>= _) _ _ s
 refine wpAny_bind (wpAny_isInstance hT isSubtype_tuple_tuple ?_)
 simp only [Bool.not_true,Bool.false_eq_true,if_false]
 refine wpAny_bind (wpAny_seqItems h1 h3 (wpAny_bind ?_))
 show wpAny (model P w) A (forIn us _ _) _ _ s
 rw [← Array.forIn_toList]
 refine wpAny_forIn_list _ (fun rest r s'=>r.1=none∧s'=s∧∃ left,TupsAre (P:=P) (w:=w) s.heap left rest) _ ?_ ?_ _ _ ⟨rfl,rfl,ks,h4⟩
 ·rintro v rest r s' ⟨hr,rfl,left,hl⟩
  cases hl with
  | @cons l c ks' _ k1 r1 =>
   refine wpAny_bind (quiet1 6 k1 ?_)
   simp only [Bool.not_true,Bool.false_eq_true,if_false]
   exact wpAny_pure ⟨rfl,rfl,ks',r1⟩
 ·rintro ⟨r1,r2⟩ s' ⟨hr,rfl,_⟩
  simp only at hr
  subst hr
  exact wpAny_pure h
end
def kd (P:Program) (w:World):Bool→HeapKind P w (List (List Int))
 | false=>{
  is:=fun h k a=>∃ l,k=[l]∧IsTupleKey (intKind P w) h l a
  hash:=ZfE false
  draws:=fun k=>(k.headD []).length + 1
  room:=fun A=>A.units + 3 < cLine
  inj:=by rintro h a x y ⟨l,rfl,p⟩ ⟨m,rfl,q⟩; rw [p.inj q]
  keeps:=fun ⟨l,e,p⟩ ho hd hs=>⟨l,e,p.keeps ho hd hs⟩
  pyHash:=fun hu ⟨l,e,p⟩ h=>by subst e; exact wpAny_pyHash_tuple (by omega) p h
  eqBool:=fun hu ⟨l,e,p⟩ ⟨m,e',q⟩ h=>by subst e e'; exact wpAny_eqBool_tuple (by omega) p q (by simpa using h)
  quiet:=fun ⟨l,e,p⟩ h=>wpAny_eqIsQuiet_tuple p h }
 | true=>{
  is:=IsKey2 P w
  hash:=ZfE true
  draws:=ZgD
  room:=fun A=>A.units + 3 < cLine
  inj:=fun p q=>p.inj2 q
  keeps:=fun p ho hd hs=>p.keep ho hd hs
  pyHash:=fun hu p h=>hash2 hu p h
  eqBool:=fun hu p q h=>eq2 hu p q h
  quiet:=fun p h=>quiet2 p h }
theorem Zm3 (P:Program) (w:World) (b:Bool) (k:List (List Int)):(kd P w b).hash k=ZfE b k:=by cases b <;> rfl
theorem ZdY {P:Program} {w:World} {b:Bool} {A:Around} (h:A.units + 4 < cLine):(kd P w b).room A.in1:=by
 cases b <;> exact (show A.units + 1 + 3 < cLine by omega)
def lkA {α:Type}:List (List (List Int))→List α→List (List Int)→Option α
 | k' :: ks,d :: ds,k=>if k'=k then some d else lkA ks ds k
 | _,_,_=>none
def rpA {α:Type}:List (List (List Int))→List α→List (List Int)→α→List α
 | k' :: ks,d :: ds,k,x=>(if k'=k then x else d) :: rpA ks ds k x
 | _,ds,_,_=>ds
def ptK (ks:List (List (List Int))) (k:List (List Int)):List (List (List Int)):=if k∈ks then ks else ks ++ [k]
def ptA {α:Type} (ks:List (List (List Int))) (ds:List α) (k:List (List Int)) (x:α):List α:=if k∈ks then rpA ks ds k x else ds ++ [x]
def ent3:List (List (List Int))→List Addr→List Value→List (List (List Int)×Addr×Value)
 | k :: ks,a :: as,u :: us=>(k,a,u) :: ent3 ks as us
 | _,_,_=>[]
section
variable {P:Program} {w:World} {b:Bool}
theorem ZdQ:∀ (ks:List (List (List Int))) (as:List Addr) (us:List Value),entK b ks as us=(ent3 ks as us).map (entryOfKey (kd P w b))
 | k :: ks,a :: as,u :: us=>by
  rw [entK,ent3,List.map_cons,← ZdQ ks as us]
  unfold entryOfKey
  rw [Zm3]
 | [],_,_=>by simp [entK,ent3]
 | _ :: _,[],_=>by simp [entK,ent3]
 | _ :: _,_ :: _,[]=>by simp [entK,ent3]
theorem ZcA:∀ {ks:List (List (List Int))} {as:List Addr} {us:List Value},as.length=ks.length→us.length=ks.length→(ent3 ks as us).map (·.1)=ks
 | [],_,_,_,_=>by simp [ent3]
 | k :: ks,[],_,h,_=>by simp at h
 | k :: ks,_ :: _,[],_,h=>by simp at h
 | k :: ks,a :: as,u :: us,h1,h2=>by
  rw [ent3,List.map_cons,ZcA (by simpa using h1) (by simpa using h2)]
theorem ZdW:∀ {ks:List (List (List Int))} {as:List Addr} {us:List Value} (k:List (List Int)),as.length=ks.length→us.length=ks.length→(atKey (ent3 ks as us) k).map (·.2)=lkA ks us k
 | [],_,_,_,_,_=>by simp [ent3,atKey,lkA]
 | k :: ks,[],_,_,h,_=>by simp at h
 | k :: ks,_ :: _,[],_,_,h=>by simp at h
 | k' :: ks,a :: as,u :: us,k,h1,h2=>by
  have ih:=ZdW (ks:=ks) (as:=as) (us:=us) k (by simpa using h1) (by simpa using h2)
  by_cases e:k'=k
  ·simp [ent3,atKey,lkA,e]
  ·rw [lkA,if_neg e,← ih]
   simp [ent3,atKey,List.find?_cons,e]
theorem Zca {α:Type}:∀ {ks:List (List (List Int))} {ds:List α} {k:List (List Int)},ds.length=ks.length→(lkA ks ds k=none↔k ∉ ks)
 | [],_,_,_=>by simp [lkA]
 | k' :: ks,[],_,h=>by simp at h
 | k' :: ks,d :: ds,k,h=>by
  have ih:=Zca (ks:=ks) (ds:=ds) (k:=k) (by simpa using h)
  rw [lkA]
  by_cases e:k'=k
  ·simp [e]
  ·rw [if_neg e,ih,List.mem_cons]
   constructor
   ·intro z w
    rcases w with w | w
    ·exact e w.symm
    ·exact z w
   ·exact fun z w=>z (.inr w)
theorem Zjb {α:Type} {x:α}:∀ (ks:List (List (List Int))) (ds:List α) (k:List (List Int)),(rpA ks ds k x).length=ds.length
 | [],_,_=>by simp [rpA]
 | k' :: ks,[],_=>by simp [rpA]
 | k' :: ks,d :: ds,k=>by rw [rpA,List.length_cons,Zjb ks ds k,List.length_cons]
theorem Zjj:∀ {ks:List (List (List Int))} {as:List Addr} {us:List Value} (k:List (List Int)) (u:Value),(ent3 ks as us).map (putAt k u)=ent3 ks as (rpA ks us k u)
 | [],_,_,_,_=>by simp [ent3]
 | k :: ks,[],_,_,_=>by simp [ent3]
 | k :: ks,_ :: _,[],_,_=>by simp [ent3,rpA]
 | k' :: ks,a :: as,v :: us,k,u=>by
  rw [ent3,List.map_cons,Zjj k u,rpA,ent3]
  unfold putAt
  by_cases e:k'=k
  ·rw [if_pos e,if_pos e]
  ·rw [if_neg e,if_neg e]
theorem ZfV:∀ {ks:List (List (List Int))} {as:List Addr} {us:List Value} (k:List (List Int)) (a:Addr) (u:Value),as.length=ks.length→us.length=ks.length→ent3 (ks ++ [k]) (as ++ [a]) (us ++ [u])=ent3 ks as us ++ [(k,a,u)]
 | [],[],[],_,_,_,_,_=>rfl
 | [],_ :: _,_,_,_,_,h,_=>by simp at h
 | [],[],_ :: _,_,_,_,_,h=>by simp at h
 | k :: ks,[],_,_,_,_,h,_=>by simp at h
 | k :: ks,_ :: _,[],_,_,_,_,h=>by simp at h
 | k' :: ks,a' :: as,u' :: us,k,a,u,h1,h2=>by
  rw [List.cons_append,List.cons_append,List.cons_append,ent3,ZfV k a u (by simpa using h1) (by simpa using h2),ent3,List.cons_append]
theorem ZdE {ks:List (List (List Int))} {as:List Addr} {us:List Value} (k:List (List Int)) (a:Addr) (u:Value) (h1:as.length=ks.length) (h2:us.length=ks.length) :
  storedH (ent3 ks as us) k a u=ent3 (ptK ks k) (if k∈ks then as else as ++ [a]) (ptA ks us k u):=by
 have g:=ZdW (as:=as) (us:=us) k h1 h2
 unfold storedH ptK ptA
 by_cases m:k∈ks
 ·have s:(atKey (ent3 ks as us) k).isSome=true:=by
   have z:((atKey (ent3 ks as us) k).map (·.2)).isSome=true:=by
    rw [g]
    cases q:lkA ks us k with
    | none=>exact absurd m ((Zca h2).mp q)
    | some x=>rfl
   rwa [Option.isSome_map] at z
  rw [if_pos s,if_pos m,if_pos m,if_pos m,Zjj]
 ·have s:¬ (atKey (ent3 ks as us) k).isSome=true:=by
   have z:((atKey (ent3 ks as us) k).map (·.2)).isSome=false:=by
    rw [g,(Zca h2).mpr m]; rfl
   rw [Option.isSome_map] at z
   rw [z]; simp
  rw [if_neg s,if_neg m,if_neg m,if_neg m,ZfV k a u h1 h2]
def KeyAt (H:Hp) (b:Bool) (k:List (List Int)) (a:Addr):Prop:=match b with
 | false=>∃ l:List Int,k=[l]∧H a=some (.tup (l.map V.int))
 | true=>∃ as:List Addr,H a=some (.tup (as.map V.ref))∧Paired (fun (l:List Int) c=>H c=some (.tup (l.map V.int))) k as
theorem ZgI:∀ {l:List Int} {us:List Value},Vals (l.map V.int) us→ItemsAre (intKind P w) l us
 | [],_,r=>by rw [List.map_nil] at r; cases r; exact .nil
 | i :: l,_,r=>by
  rw [List.map_cons] at r
  cases r with
  | cons h t =>
   obtain ⟨t',e⟩:=(show ∃ t,_=Value.int i t from h)
   subst e
   exact .cons (by simp [intKind,Value.isInt]) (ZgI t)
theorem Zdc {H:Hp} {h:Heap} {l:List Int} {a:Addr} (ok:HOk P w H h) (e:H a=some (.tup (l.map V.int))):IsTupleKey (intKind P w) h l a:=by
 obtain ⟨_,its,r,o,h1,h2,n,h3⟩:=(show ObjOk P w H h a (.tup (l.map V.int)) from ok a _ e)
 exact ⟨o,its.toArray,n,h1,h2,h3,by simpa using ZgI r⟩
theorem Zgl {H:Hp} {h:Heap} (ok:HOk P w H h):∀ {ks:List (List Int)} {as:List Addr} {us:List Value},Paired (fun (l:List Int) c=>H c=some (.tup (l.map V.int))) ks as→Vals (as.map V.ref) us→TupsAre (P:=P) (w:=w) h ks us
 | [],[],_,.nil,r=>by rw [List.map_nil] at r; cases r; exact .nil
 | _ :: _,a :: as,_,.cons p q,r=>by
  rw [List.map_cons] at r
  cases r with
  | cons h t =>
   cases (show _=Value.ref a from h)
   exact .cons (Zdc ok p) (Zgl ok q t)
theorem KeyAt.is {H:Hp} {h:Heap} {k:List (List Int)} {a:Addr} (x:KeyAt H b k a) (ok:HOk P w H h):(kd P w b).is h k a:=by
 cases b with
 | false =>
  obtain ⟨l,rfl,e⟩:=x
  exact ⟨l,rfl,Zdc ok e⟩
 | true =>
  obtain ⟨as,e,p⟩:=x
  obtain ⟨_,its,r,o,h1,h2,n,h3⟩:=(show ObjOk P w H h a (.tup (as.map V.ref)) from ok a _ e)
  exact ⟨o,its.toArray,n,h1,h2,h3,by simpa using Zgl ok p r⟩
structure DcAt (H:Hp) (b:Bool) (a:Addr) (ep:Nat) (ks:List (List (List Int))) (as:List Addr) (vs:List V):Prop where
 h:H a=some (DicO b a ep ks as vs)
 k:Paired (KeyAt H b) ks as
theorem Zhy {H:Hp} {h:Heap} (ok:HOk P w H h):∀ {ks:List (List (List Int))} {as:List Addr} {us:List Value},Paired (KeyAt H b) ks as→∀ x∈ent3 ks as us,(kd P w b).is h x.1 x.2.1
 | _,_,[],p,x,m=>by cases p <;> simp [ent3] at m
 | [],[],_ :: _,.nil,x,m=>by simp [ent3] at m
 | k :: ks,a :: as,u :: us,.cons p q,x,m=>by
  rw [ent3] at m
  rcases List.mem_cons.mp m with e | m
  ·subst e; exact p.is ok
  ·exact Zhy ok q x m
theorem DcAt.raw {H:Hp} {h:Heap} {a:Addr} {ep:Nat} {ks:List (List (List Int))} {as:List Addr} {vs:List V} (d:DcAt H b a ep ks as vs) (ok:HOk P w H h) :
  ks.length≤sizeLine∧as.length=ks.length∧vs.length=ks.length∧(a == sysModules)=false∧∃ us,Vals vs us∧h.DictOfH (kd P w b) a (ent3 ks as us)∧ks.Nodup:=by
 obtain ⟨⟨h1,h2,h3,h4,us,h5,o,es,h6,h7,h8,h9,h10⟩,_⟩:=(show ObjOk P w H h a (DicO b a ep ks as vs) from ok a _ d.h)
 have l5:=h5.length
 exact ⟨h1,h2,h3,h4,us,h5,⟨o,es,ep,h6,h7,h8,by rw [h9,ZdQ (P:=P) (w:=w)],Zhy ok d.k,by rw [ZcA h2 (by omega)]; exact h10⟩,h10⟩
theorem ZfC:∀ {ks:List (List (List Int))} {vs:List V} {us:List Value} (k:List (List Int)),Vals vs us→RelO (lkA ks vs k) (lkA ks us k)
 | [],_,_,_,_=>by simp [lkA]; trivial
 | _ :: _,_,_,_,.nil=>by simp [lkA]; trivial
 | k' :: ks,_,_,k,.cons r t=>by
  rw [lkA,lkA]
  by_cases e:k'=k
  ·rw [if_pos e,if_pos e]; exact r
  ·rw [if_neg e,if_neg e]; exact ZfC k t
theorem Zjx {v:V} {u:Value} (r:RelV v u):∀ {ks:List (List (List Int))} {vs:List V} {us:List Value} (k:List (List Int)),Vals vs us→Vals (rpA ks vs k v) (rpA ks us k u)
 | [],_,_,_,t=>by simp only [rpA]; exact t
 | _ :: _,_,_,_,.nil=>by simp only [rpA]; exact .nil
 | k' :: ks,_,_,k,.cons q t=>by
  rw [rpA,rpA]
  refine .cons ?_ (Zjx r k t)
  by_cases e:k'=k
  ·rw [if_pos e,if_pos e]; exact r
  ·rw [if_neg e,if_neg e]; exact q
theorem Zmg {v:V} {u:Value} (r:RelV v u) {ks:List (List (List Int))} {vs:List V} {us:List Value} (k:List (List Int)) (t:Vals vs us):Vals (ptA ks vs k v) (ptA ks us k u):=by
 unfold ptA
 by_cases m:k∈ks
 ·rw [if_pos m,if_pos m]; exact Zjx r k t
 ·rw [if_neg m,if_neg m]; exact Paired.snoc t r
end
theorem Zix {o:Option V} {u:Option Value} {d:V} {d':Value} (r:RelO o u) (rd:RelV d d'):RelV (o.getD d) (u.getD d'):=by
 cases o <;> cases u <;> first | exact rd | exact r | exact r.elim
def rIxD (b:Bool):R2:=fun x y H Q=>∃ a c ep ks as vs k v,x=.ref a∧y=.ref c∧DcAt H b a ep ks as vs∧KeyAt H b k c∧lkA ks vs k=some v∧Q v H
def IsDc (H:Hp) (a:Addr):Prop:=∃ b ep ks as vs,DcAt H b a ep ks as vs
def tCNew (b:Bool):TE:=fun _ H Q=>∀ p,H p=none→Q (.ref p) (upd H p (DicO b p 0 [] [] []))
def tCGet2 (b:Bool) (td ty tx:TE):TE:=fun σ H Q=>td σ H fun x H1=>∃ a,x=.ref a∧IsDc H1 a∧ty σ H1 fun y H2=>tx σ H2 fun z H3=>∃ c ep ks as vs k,y=.ref c∧DcAt H3 b a ep ks as vs∧KeyAt H3 b k c∧Q ((lkA ks vs k).getD z) H3
def sCPut (b:Bool) (td ty tv:TE):TS:=fun D σ H=>tv σ H fun v H1=>td σ H1 fun x H2=>ty σ H2 fun y H3=>∃ a c ep ks as vs k,x=.ref a∧y=.ref c∧DcAt H3 b a ep ks as vs∧KeyAt H3 b k c∧ks.length < sizeLine ∧
 ∀ ep',D.nx σ (upd H3 a (DicO b a ep' (ptK ks k) (if k∈ks then as else as ++ [c]) (ptA ks vs k v)))
section
variable {X:Cx} {b:Bool} {pos pos' apos cpos:Pos} {o e f i value:Expr} {td ty tx tv:TE}
theorem DcAt.typ {H:Hp} {s:Shared} {pins:List (Addr×Obj)} {σ:St} {a:Addr} {ep:Nat} {ks:List (List (List Int))} {as:List Addr} {vs:List V} (I:Inv X pins σ H s) (d:DcAt H b a ep ks as vs) :
  s.TypeIs (.ref a) "dict" ∧ ∀ c,Value.ref a=.ref c→∃ ob,s.heap.get? c=some ob∧ob.dict=none:=by
 obtain ⟨_,_,_,_,us,_,dd,_⟩:=d.raw I.hok
 refine ⟨dd.typeIs,fun c q=>?_⟩
 cases q
 obtain ⟨ob,_,_,h1,h2,_⟩:=dd
 exact ⟨ob,h1,h2.2.1⟩
theorem ix_dic (hu:X.A.units + 4 < cLine):IxR X (rIxD b):=by
 intro va sl pins s σ H x y v u Q I rx ry h hs
 obtain ⟨a,c,ep,ks,as,vs,k,z,rfl,rfl,d,ka,l,q⟩:=h
 cases rx
 cases (show u=Value.ref c from ry)
 obtain ⟨h1,h2,h3,h4,us,h5,dd,h6⟩:=d.raw I.hok
 have l5:=h5.length
 have g:=ZdW (as:=as) (us:=us) k h2 (by omega)
 obtain ⟨u',hu',ru⟩:=RelO.some_of (v:=z) (o:=lkA ks us k) (by rw [← l]; exact ZfC k h5)
 rw [hu'] at g
 obtain ⟨p,hp,hp2⟩:=Option.map_eq_some_iff.mp g
 exact PyProof.Rows.subscriptTail_builtinR (x:=u') dd.typeIs PySem.F.slot_dict_getitem.lookup
  (wpAny_getItem_heap (Q:=fun r s'=>r=u'∧EP X pins σ Q r s') (ZdY hu) (ka.is I.hok) dd hp ⟨hp2,by rw [hp2]; exact ⟨z,H,I.tok _,ru,q⟩⟩) hs
theorem Zkp (hu:X.A.units + 4 < cLine) (ho:PE X o td) (he:PE X e ty) (hf:PE X f tx)
  (hbase:attributeBase o "get" X.env (eval o X.env)=eval o X.env:=by rfl)
  (hfew:((backTo cpos (starEach [e,f] X.env)).all (fun x => !x.1) && (backToKw cpos (keywordEach [] X.env)).all (fun x=>x.1.isSome)
   && decide (([e,f]:List Expr).length + ([]:List Keyword).length + (if ([]:List Keyword).isEmpty then 0 else 1) < 30))=true:=by rfl)
  (hline:(apos.endLine == cpos.line)=true:=by rfl) (htr:backTo cpos (starEach [e,f] X.env)=[(false,eval e X.env),(false,eval f X.env)]:=by rfl) :
  PE X (.Call (.Attribute o "get" apos) [e,f] [] cpos) (tCGet2 b td ty tx):=by
 intro pins s σ H Q I h
 refine wpAny_Call_method hbase hfew hline PySem.F.plainAttrs_dict PySem.F.slot_dict_get PySem.F.type_dict_get (thn (ho pins s σ H _ I h) fun u s1 ⟨x,H1,I1,rx,a,ex,dI,q1⟩=>?_)
 obtain ⟨b1,ep1,ks1,as1,vs1,d⟩:=dI
 subst ex
 obtain rfl:u=Value.ref a:=rx
 obtain ⟨t1,t2⟩:=d.typ I1
 refine ⟨t1,t2,?_⟩
 rw [htr]
 refine Calls.callWith_builtin rfl (Calls.evalArgs_plain (Calls.spliced_cons (thn (he pins s1 σ H1 _ I1 q1) fun iv s2 ⟨y,H2,I2,ry,q2⟩ =>
  Calls.spliced_cons (thn (hf pins s2 σ H2 _ I2 q2) fun fv s3 ⟨z,H3,I3,rz,c,ep,ks,as,vs,k,ey,dc,ka,q3⟩=>Calls.spliced_nil ?_))))
 subst ey
 obtain rfl:iv=Value.ref c:=ry
 obtain ⟨h1,h2,h3,h4,us,h5,dd,h6⟩:=dc.raw I3.hok
 have l5:=h5.length
 refine call_meetsIn PySem.F.slot_dict_get dd.typeIs PySem.F.entry_dict_get (PySem.F.args_dict_get_3 _ _ _) (meetsH_dict_get_default (kd X.prog X.w b) a c h4 fv) ⟨ZdY hu,k,ent3 ks as us,ka.is I3.hok,dd,?_⟩
 rw [ZdW k h2 (by omega)]
 exact ⟨_,H3,I3.tok _,Zix (ZfC k h5) rz,q3⟩
theorem ZgN {ks:List (List (List Int))} {k:List (List Int)} (h:ks.Nodup):(ptK ks k).Nodup:=by
 unfold ptK
 by_cases m:k∈ks
 ·rw [if_pos m]; exact h
 ·rw [if_neg m]
  refine List.nodup_append.mpr ⟨h,by simp,fun x hx y hy=>?_⟩
  rw [List.mem_singleton.mp hy]
  rintro rfl
  exact m hx
theorem ZlO (hu:X.A.units + 4 < cLine) (ho:PE X o td) (hi:PE X i ty) (hv:PE X value tv) (hs:swapsWith value (some (.Subscript o i pos')) pos.line X.env=pure false:=by rfl) :
  PS X (.Assign [.Subscript o i pos'] value pos) (sCPut b td ty tv):=by
 intro pins s σ H D I h
 refine wpAny_Assign_Subscript (thn (hv pins s σ H _ I h) fun r s1 ⟨v,H1,I1,rv,q1⟩=>thn (ho pins s1 σ H1 _ I1 q1) fun u s2 ⟨x,H2,I2,rx,q2⟩=>thn (hi pins s2 σ H2 _ I2 q2) fun iv s3 ⟨y,H3,I3,ry,a,c,ep0,ks,as,vs,k,ex,ey,dc,ka,hl,q3⟩=>?_) hs
 subst ex ey
 obtain rfl:u=Value.ref a:=rx
 obtain rfl:iv=Value.ref c:=ry
 obtain ⟨h1,h2,h3,h4,us,h5,dd,h6⟩:=dc.raw I3.hok
 have l5:=h5.length
 have le:(ent3 ks as us).length=ks.length:=by
  have:=congrArg List.length (ZcA (as:=as) (us:=us) h2 (by omega))
  rwa [List.length_map] at this
 refine wpAny_setItem_heap (ZdY hu) (ka.is I3.hok) dd (fun h' dn sb=>?_) (by omega)
 rw [ZdE k c r h2 (by omega)] at dn
 have lk:(ptK ks k).length≤sizeLine:=by
  unfold ptK
  split
  ·exact h1
  ·rw [List.length_append,List.length_singleton]; omega
 have la:(if k∈ks then as else as ++ [c]).length=(ptK ks k).length:=by
  unfold ptK
  split
  ·exact h2
  ·rw [List.length_append,List.length_append,h2]; rfl
 have lv:(ptA ks vs k v).length=(ptK ks k).length:=by
  unfold ptK ptA
  split
  ·rw [Zjb]; exact h3
  ·rw [List.length_append,List.length_append,h3]; rfl
 obtain ⟨ob,es,ep,o1,o2,o3,o4,o5,o6⟩:=dn
 have hI:Inv X pins σ (upd H3 a (DicO b a ep (ptK ks k) (if k∈ks then as else as ++ [c]) (ptA ks vs k v))) { s3 with heap:=h',toks:=s3.toks + (kd X.prog X.w b).draws k }:=by
  refine I3.write (x:=a) (e:=a) (by rw [dc.h]; trivial) (.inl rfl) (fun c' q hb z=>(sb.2 c' hb).trans z) ⟨ob,o1⟩ ?_
  refine ⟨⟨lk,la,lv,h4,_,Zmg rv k h5,ob,es,o1,o2,o3,?_,ZgN h6⟩,⟨ob,o1⟩,?_⟩
  ·rw [o4,ZdQ (P:=X.prog) (w:=X.w)]
  ·rintro g1 g2 ⟨z1,z2,z3,z4,us',z5,ob',es',z6,z7⟩ hk
   exact ⟨z1,z2,z3,z4,us',z5,ob',es',hk _ z6,z7⟩
 exact ⟨σ,_,hI,q3 ep⟩
theorem Znj:PE X (.Dict [] [] pos) (tCNew b):=fun pins s σ H Q I h=>by
 have big:sysModules < s.heap.objs.size:=Nat.lt_trans (by decide) ((I.mod.glob.keeps I.bk).lt:mainGlobals < s.heap.objs.size)
 refine wpAny_Dict_empty ⟨.ref s.heap.objs.size,_,I.laid (a:=s.heap.objs.size) (o:=DicO b s.heap.objs.size 0 [] [] []) (t':=s.toks) (fun _ _ q=>Heap.get?_push_of_some _ q) (Nat.le_refl _) ?_,rfl,h _ (I.hok.fresh (Nat.le_refl _))⟩
 refine ⟨⟨Nat.zero_le _,rfl,rfl,beq_eq_false_iff_ne.mpr (Ne.symm (Nat.ne_of_lt big)),[],.nil,_,#[],Heap.get?_push_size _ rfl,⟨rfl,rfl,rfl⟩,rfl,rfl,List.nodup_nil⟩,⟨_,Heap.get?_push_size _ rfl⟩,?_⟩
 rintro g1 g2 ⟨z1,z2,z3,z4,us',z5,ob',es',z6,z7⟩ hk
 exact ⟨z1,z2,z3,z4,us',z5,ob',es',hk _ z6,z7⟩
end
def RawD (h:Heap) (d:Addr) (es:Array DictEntry) (ep:Nat):Prop:=∃ o,h.get? d=some o∧o.ExactDict∧o.data=.dict es ep
section
variable {prog:Program} {w:World} {A:Around} {E:Value→Shared→Prop} {s:Shared} {d it:Addr} {i ep:Nat} {es:Array DictEntry}
theorem Zki {Q:Value→Shared→Prop} (hd:(d == sysModules)=false) (hm:RawD s.heap d es ep)
  (hQ:Q (.ref s.heap.objs.size) { s with heap:=s.heap.push { cls:=.type "dict_keyiterator", data:=.fields #[.ref d,.int 0 0,.int es.size 0,.int ep 0] } }):wpAny (model prog w) A (pyIter (.ref d)) Q E s:=by
 obtain ⟨o,ho,hc,he⟩:=hm
 have ty:s.TypeIs (.ref d) "dict" := ⟨o,ho,hc.1⟩
 have no:¬ (d == sysModules)=true:=fun z=>by rw [hd] at z; cases z
 refine wpAny_pyIter_slot ty F.slot_dict_iter (wpAny_call_entry F.slot_dict_iter ty F.entry_dict_iter ?_ (F.args_dict_iter_1 _))
 unfold Builtin.«dict.__iter__» Builtin.Dict.dictSlotNone
 refine wpAny_bind (wpAny_bind (wpAny_notOrdered_dict ty (show wpAny _ _ (pure (Value.ref d)) _ _ s from wpAny_pure ?_)))
 show wpAny _ _ (Builtin.Dict.showsAll d >>= _) _ _ s
 unfold Builtin.Dict.showsAll
 rw [if_neg no]
 refine wpAny_bind (wpAny_pure (wpAny_bind (wpAny_dictEntries ho he (wpAny_bind (wpAny_dictEpoch ho he (wpAny_bind (wpAny_newObj_type (wpAny_pure ?_))))))))
 exact ⟨_,rfl, "dict_keyiterator", _,⟨_,Heap.get?_push_size _ rfl,rfl⟩,F.slot_dict_keyiterator_next.lookup,by simpa [rawInt] using hQ⟩
theorem ZgO {Q:Option Value→Shared→Prop} (hh:A.handled=none) (hit:s.heap.IsKeyIter it d i es.size ep) (hm:RawD s.heap d es ep)
  (more:∀ e h',es[i]?=some e→h'.IsKeyIter it d (i + 1) es.size ep→Heap.SameBut it s.heap h'→Q (some e.key) { s with heap:=h' })
  (done:∀ h',es[i]?=none→Heap.ExtBut it s.heap h'→Q none { s with heap:=h' }):wpAny (model prog w) A (pyNext (.ref it)) Q E s:=by
 have ty:=hit.typeIs
 obtain ⟨oi,hi,ci,di⟩:=hit
 obtain ⟨o,ho,hc,he⟩:=hm
 have own:Builtin.Dict_items.ownsTuple "dict_keyiterator" = false:=by decide
 have n0:¬ ((i:Int) < 0):=by omega
 have none_:¬ (Value.ref d == Value.none)=true:=Bool.false_ne_true
 unfold pyNext
 refine wpAny_bind (wpAny_attempt (wpAny_callSpecial?_slot (name := "__next__") ty F.slot_dict_keyiterator_next (wpAny_call_entry F.slot_dict_keyiterator_next ty F.entry_dict_keyiterator_next ?_ (F.args_dict_keyiterator_next_1 _))))
 refine wpAny_bind (wpAny_pure (wpAny_bind (wpAny_bind ?_)))
 first | refine wpAny_bind (wpAny_typeNameOfWhole_keyiter ty (wpAny_pure (wpAny_bind (wpAny_fieldsOf hi di ?_)))) | refine wpAny_bind (wpAny_typeNameOf_keyiter ty (wpAny_pure (wpAny_bind (wpAny_fieldsOf hi di ?_))))
 rw [own]
 show wpAny _ _ (if (Value.ref d == Value.none)=true then _ else _) _ _ s
 rw [if_neg none_]
 refine wpAny_bind (wpAny_pure (wpAny_bind (wpAny_dictEntries ho he ?_)))
 rw [if_neg (by simp)]
 refine wpAny_bind (wpAny_pure (wpAny_bind (wpAny_dictEpoch ho he ?_)))
 rw [if_neg (by simp)]
 refine wpAny_pure ?_
 simp only [n0,if_false,Int.toNat_natCast]
 cases q:es[i]? with
 | some e =>
  let h1:=s.heap.update it (Obj.mapFields (·.setIfInBounds 1 (rawInt ((i:Int) + 1))))
  have k1:h1.IsKeyIter it d (i + 1) es.size ep:=by
   refine ⟨_,Heap.get?_update_self _ hi ?_,(Obj.cls_mapFields ..).trans ci,?_⟩
   ·exact Obj.isFreed_of_fields (Obj.data_mapFields di _)
   ·rw [Obj.data_mapFields di]; simp [rawInt]
  refine wpAny_bind ?_
  first | refine wpAny_bind (wpAny_typeNameOfWhole_keyiter ty (wpAny_pure (wpAny_bind (wpAny_isOneOf_keyiter ty ?_)))) | refine wpAny_bind (wpAny_typeNameOf_keyiter ty (wpAny_pure (wpAny_bind (wpAny_isOneOf_keyiter ty ?_))))
  show wpAny _ _ (setField (.ref it) 1 (rawInt ((i:Int) + 1)) >>= _) _ _ s
  refine wpAny_bind (wpAny_setField hi di (by simp) (wpAny_bind (wpAny_holding (wpAny_bind (wpAny_isOneOf_keyiter (s:={ s with heap:=h1 }) k1.typeIs ?_)))))
  exact wpAny_pure (wpAny_pure ⟨_,rfl,wpAny_pure (more e h1 q k1 (Heap.SameBut.update ..))⟩)
 | none =>
  refine wpAny_bind ?_
  first | refine wpAny_bind (wpAny_typeNameOfWhole_keyiter ty (wpAny_pure ?_)) | refine wpAny_bind (wpAny_typeNameOf_keyiter ty (wpAny_pure ?_))
  show wpAny _ _ (setField (.ref it) 0 .none >>= _) _ _ s
  refine wpAny_bind (wpAny_setField hi di (by simp) ?_)
  show wpAny _ _ (newExc (.type "StopIteration") [] >>= _) _ _ _
  unfold newExc newTuple
  refine wpAny_bind (wpAny_bind (wpAny_newObj_type (wpAny_bind (m:=firstArgMember _ _) (wpAny_of_eq (a:=Value.none) (by first | rfl | (unfold firstArgMember; rfl)) (wpAny_newObj_type ?_ (by size_fits)))) (by size_fits)))
  unfold raiseNew
  refine wpAny_bind (wpAny_handled ?_)
  rw [show A.in1.handled=none from hh]
  refine wpAny_bind (wpAny_pure (wpAny_throw ?_))
  refine wpAny_bind (wpAny_isInstance (T := "StopIteration") (b:=true) (by exact ⟨_,Heap.get?_push_size _ rfl,rfl⟩) isSubtype_stop ?_)
  exact wpAny_pure (done _ q (((Heap.SameBut.update ..).extBut.push _).push _))
theorem ZjK {k v:Value} {hsh:Int} {Q:Option Value→Shared→Prop} (hh:A.handled=none) (hit:s.heap.IsKeyIter it d i es.size ep) (hm:RawD s.heap d es ep) (hx:es[i]?=some ⟨hsh,k,v⟩)
  (hQ:∀ h',h'.IsKeyIter it d (i + 1) es.size ep→Heap.SameBut it s.heap h'→Q (some k) { s with heap:=h' }):wpAny (model prog w) A (pyNext (.ref it)) Q E s :=
 ZgO hh hit hm (fun e h' q a b=>by rw [hx] at q; cases q; exact hQ h' a b) fun h' q _=>by rw [hx] at q; cases q
theorem Zm2 {Q:Option Value→Shared→Prop} (hh:A.handled=none) (hit:s.heap.IsKeyIter it d i es.size ep) (hm:RawD s.heap d es ep) (hx:es.size≤i) (hQ:∀ h',Heap.ExtBut it s.heap h'→Q none { s with heap:=h' }):wpAny (model prog w) A (pyNext (.ref it)) Q E s :=
 ZgO hh hit hm (fun e h' q _ _=>by rw [Array.getElem?_eq_none hx] at q; cases q) fun h' _ eb=>hQ h' eb
end
theorem ZhP {b:Bool}:∀ {ks:List (List (List Int))} {as:List Addr} {us:List Value},as.length=ks.length→us.length=ks.length→(entK b ks as us).length=ks.length
 | [],_,_,_,_=>by simp [entK]
 | k :: ks,[],_,h,_=>by simp at h
 | k :: ks,_ :: _,[],_,h=>by simp at h
 | k :: ks,a :: as,u :: us,h1,h2=>by rw [entK,List.length_cons,List.length_cons,ZhP (by simpa using h1) (by simpa using h2)]
theorem Zjo {b:Bool}:∀ {ks:List (List (List Int))} {as:List Addr} {us:List Value} {i:Nat},as.length=ks.length→us.length=ks.length→i < ks.length→∃ k c u,as[i]?=some c∧us[i]?=some u∧(entK b ks as us)[i]?=some ⟨ZfE b k,.ref c,u⟩
 | [],_,_,i,_,_,h=>by simp at h
 | k :: ks,[],_,_,h,_,_=>by simp at h
 | k :: ks,_ :: _,[],_,_,h,_=>by simp at h
 | k :: ks,a :: as,u :: us,0,_,_,_=>⟨k,a,u,rfl,rfl,rfl⟩
 | k :: ks,a :: as,u :: us,i + 1,h1,h2,h3=>by
  obtain ⟨k',c,u',z1,z2,z3⟩:=Zjo (b:=b) (ks:=ks) (as:=as) (us:=us) (i:=i) (by simpa using h1) (by simpa using h2) (by simpa using h3)
  exact ⟨k',c,u',by simpa using z1,by simpa using z2,by simpa [entK] using z3⟩
section
variable {P:Program} {w:World} {K:PySem.W.Frag} {tg:Expr} {b:Bool} {a:Addr} {ep:Nat} {ks:List (List (List Int))} {as:List Addr} {vs:List V}
theorem Ze3 {H:Hp} {h:Heap} (ok:HOk P w H h) (e:H a=some (DicO b a ep ks as vs)):∃ us es,RawD h a es ep∧es.toList=entK b ks as us∧as.length=ks.length∧us.length=ks.length∧es.size=ks.length∧Vals vs us∧(a == sysModules)=false:=by
 obtain ⟨⟨h1,h2,h3,h4,us,h5,o,es,h6,h7,h8,h9,h10⟩,_⟩:=(show ObjOk P w H h a (DicO b a ep ks as vs) from ok a _ e)
 have l5:=h5.length
 exact ⟨us,es,⟨o,h6,h7,h8⟩,h9,h2,by omega,by rw [← Array.length_toList,h9,ZhP h2 (by omega)],h5,h4⟩
end
section
variable {K:PySem.W.Frag} {B H:Hp}
theorem ZcY:∀ {vs:List V} {l:List Int},Reps K B vs (l.map D.int)→vs=l.map V.int
 | _,[],r=>by cases r; rfl
 | _,i :: l,r=>by
  rw [List.map_cons] at r
  cases r with
  | cons h t=>rw [h.intV,ZcY t]; rfl
theorem ZeU (s:Same B H):∀ {vs:List V} {k:List (List Int)},Reps K B vs (k.map fun ks=>.tup (ks.map D.int))→∃ as:List Addr,vs=as.map V.ref∧Paired (fun (l:List Int) c=>H c=some (.tup (l.map V.int))) k as
 | _,[],r=>by cases r; exact ⟨[],rfl,.nil⟩
 | _,l :: k,r=>by
  rw [List.map_cons] at r
  cases r with
  | cons h t =>
   obtain ⟨c,us,rfl,hc,rs⟩:=h.tupV
   rw [ZcY rs] at hc
   obtain ⟨as,rfl,p⟩:=ZeU s t
   exact ⟨c :: as,rfl,.cons (s _ _ hc) p⟩
theorem Zc9 {b:Bool} {k:List (List Int)} {v:V} (r:Rep K B v (keyD b k)):∃ c,v=.ref c:=by
 unfold keyD at r
 split at r
 ·obtain ⟨c,_,rfl,_⟩:=r.tupV; exact ⟨c,rfl⟩
 ·obtain ⟨c,_,rfl,_⟩:=r.tupV; exact ⟨c,rfl⟩
theorem Zcz {b:Bool} {k:List (List Int)} {c:Addr} (s:Same B H) (hb:b=false→∃ l,k=[l]) (r:Rep K B (.ref c) (keyD b k)):KeyAt H b k c:=by
 cases b with
 | false =>
  obtain ⟨l,rfl⟩:=hb rfl
  obtain ⟨c',us,e,hc,rs⟩:=(show Rep K B (.ref c) (.tup (l.map D.int)) from r).tupV
  cases e
  rw [ZcY rs] at hc
  exact ⟨l,rfl,s _ _ hc⟩
 | true =>
  obtain ⟨c',us,e,hc,rs⟩:=(show Rep K B (.ref c) (.tup (k.map fun ks=>.tup (ks.map D.int))) from r).tupV
  cases e
  obtain ⟨as,rfl,p⟩:=ZeU s rs
  exact ⟨as,s _ _ hc,p⟩
theorem Za3 {b:Bool} (s:Same B H):∀ {ks:List (List (List Int))} {as:List Addr},(b=false→∀ k∈ks,∃ l,k=[l])→Reps K B (as.map V.ref) (ks.map (keyD b))→Paired (KeyAt H b) ks as
 | [],[],_,_=>.nil
 | [],_ :: _,_,r=>by cases r
 | _ :: _,[],_,r=>by cases r
 | k :: ks,a :: as,hb,r=>by
  rw [List.map_cons,List.map_cons] at r
  cases r with
  | cons h t=>exact .cons (Zcz s (fun z=>hb z k List.mem_cons_self) h) (Za3 s (fun z k' m=>hb z k' (List.mem_cons_of_mem _ m)) t)
theorem Zib {b:Bool} {z:V} {dz:D} (rz:Rep K B z dz) (k:List (List Int)):∀ {ks:List (List (List Int))} {vs:List V} {ds:List D},Reps K B vs ds→Rep K B ((lkA ks vs k).getD z) ((lkA ks ds k).getD dz)
 | [],_,_,_=>by simp only [lkA,Option.getD_none]; exact rz
 | _ :: _,_,_,.nil=>by simp only [lkA,Option.getD_none]; exact rz
 | k' :: ks,_,_,.cons h t=>by
  rw [lkA,lkA]
  by_cases e:k'=k
  ·rw [if_pos e,if_pos e]; exact h
  ·rw [if_neg e,if_neg e]; exact Zib (b:=b) rz k t
theorem ZfO {d:D} (k:List (List Int)):∀ {ks:List (List (List Int))} {vs:List V} {ds:List D},Reps K B vs ds→lkA ks ds k=some d→∃ v,lkA ks vs k=some v∧Rep K B v d
 | [],_,_,_,e=>by simp [lkA] at e
 | _ :: _,_,_,.nil,e=>by simp [lkA] at e
 | k' :: ks,_,_,.cons h t,e=>by
  rw [lkA] at e ⊢
  by_cases z:k'=k
  ·rw [if_pos z] at e ⊢; cases e; exact ⟨_,rfl,h⟩
  ·rw [if_neg z] at e ⊢; exact ZfO k t e
theorem Zhs {v:V} {d:D} (r:Rep K B v d) (k:List (List Int)):∀ {ks:List (List (List Int))} {vs:List V} {ds:List D},Reps K B vs ds→Reps K B (rpA ks vs k v) (rpA ks ds k d)
 | [],_,_,t=>by simp only [rpA]; exact t
 | _ :: _,_,_,.nil=>by simp only [rpA]; exact .nil
 | k' :: ks,_,_,.cons h t=>by
  rw [rpA,rpA]
  refine .cons ?_ (Zhs r k t)
  by_cases e:k'=k
  ·rw [if_pos e,if_pos e]; exact r
  ·rw [if_neg e,if_neg e]; exact h
theorem Zma {v:V} {d:D} (r:Rep K B v d) (k:List (List Int)) {ks:List (List (List Int))} {vs:List V} {ds:List D} (t:Reps K B vs ds):Reps K B (ptA ks vs k v) (ptA ks ds k d):=by
 unfold ptA
 by_cases m:k∈ks
 ·rw [if_pos m,if_pos m]; exact Zhs r k t
 ·rw [if_neg m,if_neg m]; exact t.append (.cons r .nil)
theorem Zkw {b:Bool} {c:Addr} {k:List (List Int)} {ks:List (List (List Int))} {as:List Addr} (r:Rep K B (.ref c) (keyD b k)) (t:Reps K B (as.map V.ref) (ks.map (keyD b))) :
  Reps K B ((if k∈ks then as else as ++ [c]).map V.ref) ((ptK ks k).map (keyD b)):=by
 unfold ptK
 by_cases m:k∈ks
 ·rw [if_pos m,if_pos m]; exact t
 ·rw [if_neg m,if_neg m,List.map_append,List.map_append]; exact t.append (.cons r .nil)
end
def ZkL (b:Bool) (k:List (List Int)):Prop:=b=false→∃ l,k=[l]
theorem ptK_ok {b:Bool} {k:List (List Int)} {ks:List (List (List Int))} (h:b=false→∀ k∈ks,∃ l,k=[l]) (hk:ZkL b k):b=false→∀ k'∈ptK ks k,∃ l,k'=[l]:=fun z k' m=>by
 unfold ptK at m
 split at m
 ·exact h z k' m
 ·rcases List.mem_append.mp m with m | m
  ·exact h z k' m
  ·rw [List.mem_singleton.mp m]; exact hk z
def uDnew (b:Bool) (i:Nat):US:=fun U ρ=>U.nx (ρ.set i (.own (.d b none [] [])))
def uDget2 (b:Bool) (n:Nat) (ue uf:UE):UE:=fun ρ k=>∃ t ks ds,ρ[n]?=some (.own (.d b t ks ds))∧ue ρ fun y=>uf ρ fun z=>∃ kk,y=keyD b kk∧ZkL b kk∧k ((lkA ks ds kk).getD z)
def uDput (b:Bool) (n:Nat) (ue uv:UE):US:=fun U ρ=>uv ρ fun d=>∃ t ks ds,ρ[n]?=some (.own (.d b t ks ds))∧ue ρ fun y=>∃ kk,y=keyD b kk∧ZkL b kk∧ks.length < sizeLine∧U.nx (ρ.set n (.own (.d b t (ptK ks kk) (ptA ks ds kk d))))
def uIxD (b:Bool) (uo ue:UE):UE:=fun ρ k=>uo ρ fun x=>ue ρ fun y=>∃ ks ds kk d,x=.dct b ks ds∧y=keyD b kk∧ZkL b kk∧lkA ks ds kk=some d∧k d
def uFzD (i:Nat) (s:US):US:=fun U ρ=>∃ b t ks ds,ρ[i]?=some (.own (.d b t ks ds))∧s U (ρ.set i (.val (.dct b ks ds)))
section
variable {X:Cx} {b:Bool} {n:Nat} {x:Str} {px pos pos' apos cpos pd:Pos} {o e f i value:Expr} {uo ue uf uv:UE} {tg:Expr}
theorem ZhX {i:Nat} (hN:X.N.Nodup) (hi:X.N[i]?=some x) (hx:Loc X.env.scope x) (hs:swapsWith (.Dict [] [] pd) (some (.Name x pos')) pos.line X.env=pure false:=by rfl) (hf:X.fn x=true∨X.env.scope.names.lookup x=some .local:=by first | exact .inl rfl | exact .inr rfl | assumption) :
  PS3 X (.Assign [.Name x pos'] (.Dict [] [] pd) pos) (uDnew b i):=by
 refine ⟨_,ZdD hN hi hx (Znj (b:=b)) hs hf,fun U ρ h R W B H σ D e s=>?_⟩
 intro p hp
 obtain ⟨f1,f2,f3⟩:=e.toWd.fresh hp
 exact s.nx _ _ B _ h ((e.allocH hp _).setC i f1 f3 ⟨0,[],[],(fun _ z=>nomatch z),Zal,.nil,fun _ _ z=>by simp at z,.nil⟩ fun j _ m=>e.notNew hp m rfl) (Grow.refl _ _)
theorem Zc1 (n:Nat) (hu:X.A.units + 4 < cLine) (he:PE3 X e ue) (hf:PE3 X f uf) (hN:X.N[n]?=some x:=by rfl) (hv:Vis X.env.scope x:=by first | exact Or.inl rfl | exact Or.inr (Or.inl rfl) | exact Or.inr (Or.inr rfl)) (hd:(x == ("__debug__" : Str))=false:=by decide)
  (hcd:(x == ("__classdict__" : Str))=false:=by decide)
  (hbase:attributeBase (.Name x px) "get" X.env (eval (.Name x px) X.env)=eval (.Name x px) X.env:=by rfl)
  (hfew:((backTo cpos (starEach [e,f] X.env)).all (fun x => !x.1) && (backToKw cpos (keywordEach [] X.env)).all (fun x=>x.1.isSome)
   && decide (([e,f]:List Expr).length + ([]:List Keyword).length + (if ([]:List Keyword).isEmpty then 0 else 1) < 30))=true:=by rfl)
  (hline:(apos.endLine == cpos.line)=true:=by rfl) (htr:backTo cpos (starEach [e,f] X.env)=[(false,eval e X.env),(false,eval f X.env)]:=by rfl) :
  PE3 X (.Call (.Attribute (.Name x px) "get" apos) [e,f] [] cpos) (uDget2 b n ue uf):=by
 obtain ⟨_,h1,r1⟩:=he
 obtain ⟨_,h2,r2⟩:=hf
 refine ⟨_,Zkp (b:=b) hu (ZdM hN hv hd hcd) h1 h2 hbase hfew hline htr,fun ρ k z R W B H σ Q ev q=>?_⟩
 obtain ⟨t,ks,ds,ho,z⟩:=z
 obtain ⟨a,e1,e2,e3,ep,as,vs,_,e4,e5,e6,e7⟩:=ev.ownC ho
 refine ⟨_,e1,a,rfl,⟨b,ep,ks,as,vs,e4,Za3 ev.bh e6 e5⟩,?_⟩
 refine r1 ρ _ z R W B H σ _ ev fun y v B1 H1 z1 f1 g1 s1=>?_
 refine r2 ρ _ z1 R W B1 H1 σ _ f1 fun y2 v2 B2 H2 z2 f2 g2 s2=>?_
 obtain ⟨kk,rfl,hk,hq⟩:=z2
 obtain ⟨c,rfl⟩:=Zc9 s1
 obtain ⟨a',c1,c2,c3,ep',as',vs',_,c4,c5,c6,c7⟩:=f2.ownC ho
 rw [e1] at c1; cases c1
 exact ⟨c,ep',ks,as',vs',kk,rfl,⟨c4,Za3 f2.bh c6 c5⟩,Zcz f2.bh hk (s1.mono g2.s),q _ _ B2 H2 hq f2 (g1.trans g2) (Zib (b:=b) s2 kk c7)⟩
theorem ZkF (b:Bool) (hu:X.A.units + 4 < cLine) (ho:PE3 X o uo) (he:PE3 X e ue) (hs:Zfy e):PE3 X (.Subscript o e pos) (uIxD b uo ue):=by
 obtain ⟨_,h1,r1⟩:=ho
 obtain ⟨_,h2,r2⟩:=he
 refine ⟨_,Zee (ix_dic (b:=b) hu) h1 h2 hs,fun ρ k z R W B H σ Q ev q=>?_⟩
 refine r1 ρ _ z R W B H σ _ ev fun x v B1 H1 z1 f1 g1 s1=>?_
 refine r2 ρ _ z1 R W B1 H1 σ _ f1 fun y v2 B2 H2 z2 f2 g2 s2=>?_
 obtain ⟨ks,ds,kk,d,rfl,rfl,hk,hl,hq⟩:=z2
 obtain ⟨c,rfl⟩:=Zc9 s2
 cases s1.mono g2.s with
 | @dct a _ ep _ as vs _ hB hkk hbb rr =>
  obtain ⟨v,hv,rv⟩:=ZfO kk rr hl
  exact ⟨a,c,ep,ks,as,vs,kk,v,rfl,rfl,⟨f2.bh _ _ hB,Za3 f2.bh hbb hkk⟩,Zcz f2.bh hk s2,hv,q _ _ B2 H2 hq f2 (g1.trans g2) rv⟩
theorem ZjA (n:Nat) (hu:X.A.units + 4 < cLine) (he:PE3 X e ue) (hv:PE3 X value uv) (hN:X.N[n]?=some x:=by rfl) (hvi:Vis X.env.scope x:=by first | exact Or.inl rfl | exact Or.inr (Or.inl rfl) | exact Or.inr (Or.inr rfl)) (hd:(x == ("__debug__" : Str))=false:=by decide)
  (hcd:(x == ("__classdict__" : Str))=false:=by decide) (hs:swapsWith value (some (.Subscript (.Name x px) e pos')) pos.line X.env=pure false:=by rfl) :
  PS3 X (.Assign [.Subscript (.Name x px) e pos'] value pos) (uDput b n ue uv):=by
 obtain ⟨_,h1,r1⟩:=hv
 obtain ⟨_,h2,r2⟩:=he
 refine ⟨_,ZlO (b:=b) hu (ZdM hN hvi hd hcd) h2 h1 hs,fun U ρ z R W B H σ D ev sm=>?_⟩
 refine r1 ρ _ z R W B H σ _ ev fun d v B1 H1 z1 f1 g1 s1=>?_
 obtain ⟨t,ks,ds,ho,z1⟩:=z1
 obtain ⟨a,e1,e2,e3,_⟩:=f1.ownC ho
 refine ⟨_,e1,?_⟩
 refine r2 ρ _ z1 R W B1 H1 σ _ f1 fun y v2 B2 H2 z2 f2 g2 s2=>?_
 obtain ⟨kk,rfl,hk,hl,hq⟩:=z2
 obtain ⟨c,rfl⟩:=Zc9 s2
 obtain ⟨a',c1,c2,c3,ep,as,vs,c0,c4,c5,c6,c7⟩:=f2.ownC ho
 rw [e1] at c1; cases c1
 refine ⟨a,c,ep,ks,as,vs,kk,rfl,rfl,⟨c4,Za3 f2.bh c6 c5⟩,Zcz f2.bh hk s2,hl,fun ep'=>?_⟩
 exact sm.nx _ _ B2 _ hq (f2.writeC e1 ho ⟨ep',_,_,c0,Zal,Zkw s2 c5,ptK_ok c6 hk,Zma (s1.mono g2.s) kk c7⟩) (g1.trans g2)
theorem Znf {st:List Stmt} {s:US} (i:Nat) (h:PSs3 X st s):PSs3 X st (uFzD i s):=by
 obtain ⟨_,h1,r1⟩:=h
 refine ⟨_,h1,fun U ρ h R W B H σ D e sm=>?_⟩
 obtain ⟨b,t,ks,ds,ho,z⟩:=h
 obtain ⟨B',e',g⟩:=e.fzD ho
 exact r1 U _ z R W B' H σ D e' (sm.grow g)
end
theorem hu4 {A:Around} {k:Nat} (hr:Room k A):A.units + 4 < cLine:=Nat.lt_of_le_of_lt (Nat.add_le_add_left (by decide:4≤64) _) hr.units
end L3
namespace Cut
open PySem L2 L3
abbrev RS:=List (List F2)
abbrev dH (ps:List P3):D:=.lst (ps.map dP)
theorem ZgK {α β:Type} {f:α→β} {L:List α} {i:Int} (h1 : -(L.length:Int)≤i) (h2:i < L.length):∃ x∈L,atI (L.map f) i=some (f x):=by
 have e:∃ j,L2.ixN (L.map f).length i=some j∧j < L.length:=by
  unfold L2.ixN
  rw [List.length_map]
  by_cases h0:0≤i
  ·rw [if_pos h0,if_pos h2]
   exact ⟨_,rfl,by omega⟩
  ·rw [if_neg h0,if_pos h1]
   exact ⟨_,rfl,by omega⟩
 obtain ⟨j,e,hj⟩:=e
 refine ⟨L[j],List.getElem_mem _,?_⟩
 unfold atI
 rw [e]
 simp [hj]
theorem ZeI {α:Type} {f:α→D} {u:UE} {fs:List Sl} {Pp:α→Prop}:∀ {ds:List D} {v0:Sl} {k:List D→Prop},(∀ d∈ds,∀ k:D→Prop,(∀ p,Pp p→k (f p))→u (.val d :: fs) k)→(∀ ps:List α,ps.length=ds.length→(∀ p∈ps,Pp p)→k (ps.map f))→Za8 (Zay 0) Zbd u ds (v0 :: fs) k
 | [],_,_,_,hk=>hk [] rfl (fun _ h=>by simp at h)
 | d :: ds,v0,k,h,hk=>by
  show (if true=true then u (.val d :: fs) fun y=>Za8 (Zay 0) Zbd u ds (.val d :: fs) fun ys=>k (y :: ys) else Za8 (Zay 0) Zbd u ds (.val d :: fs) k)
  rw [if_pos rfl]
  refine h d List.mem_cons_self _ fun p hp=>ZeI (fun d' hd=>h d' (List.mem_cons_of_mem _ hd)) fun ps hl hps=>?_
  exact hk (p :: ps) (by simp [hl]) fun q hq=>by
   rcases List.mem_cons.mp hq with rfl | hq
   ·exact hp
   ·exact hps q hq
abbrev up (p:Int×Int):P3:=(p.1,p.2,1)
abbrev crI (e:P3×P3):Int:=e.1.1 * e.2.2.1 - e.2.1 * e.1.2.1
def tw (ps:List (Int×Int)):Int:=((eds (ps.map up)).map crI).sum
theorem Zl3 {ps:List (Int×Int)} {i:Nat} (h:i < ps.length):∃ p q,p∈ps∧q∈ps∧atI (ps.map dR) ((i:Int) - 1)=some (dR p)∧atI (ps.map dR) (i:Int)=some (dR q)∧(eds (ps.map up)).take (i + 1)=(eds (ps.map up)).take i ++ [(up p,up q)]:=by
 obtain ⟨p,mp,hp⟩:=ZgK (f:=id) (L:=ps) (i:=(i:Int) - 1) (by omega) (by omega)
 obtain ⟨q,mq,hq⟩:=ZgK (f:=id) (L:=ps) (i:=(i:Int)) (by omega) (by omega)
 rw [List.map_id] at hp hq
 have hu:i < (ps.map up).length:=by rw [List.length_map]; exact h
 have e1:nth (ps.map up) ((i + (ps.map up).length - 1) % (ps.map up).length)=up p:=ZlC (Option.some.inj ((ZiL hu).symm.trans (ZbH (ZbH hp))))
 have e2:nth (ps.map up) i=up q:=ZlC (Option.some.inj ((Zi2 hu).symm.trans (ZbH (ZbH hq))))
 refine ⟨p,q,mp,mq,ZbH hp,ZbH hq,?_⟩
 rw [ZjX hu,e1,e2]
end Cut
namespace Cut
open PySem L2 L3
open PySem.Builtin.Int (intBits)
theorem ZdJ {N m n:Nat} {l:List F2} {T:F2} (h:∀ x∈l,intBits x.1≤2 * m + 1∧intBits x.2≤2 * m + 1) (hl:l.length≤n) (hm:n * (2 * m + 2) + 1≤N) (i:Nat) (hT:IsF T (fsum (l.take i))):intBits T.1≤N∧intBits T.2≤N:=by
 obtain ⟨b1,b2⟩:=ZcQ (m:=2 * m + 1) (l:=l.take i) fun x hx=>h x (List.mem_of_mem_take hx)
 have q:(l.take i).length * (2 * m + 1 + 1) + 1≤N:=by
  refine Nat.le_trans (Nat.succ_le_succ (Nat.mul_le_mul_right _ ?_)) hm
  rw [List.length_take]
  omega
 obtain ⟨c1,c2⟩:=hT.bounds
 exact ⟨Nat.le_trans (Zai c1 b1) q,Nat.le_trans (Zai c2 b2) q⟩
theorem ZlJ {x y:F2} (hx:0 < x.2) (hy:0 < y.2):vq (fadd x y)=vq x + vq y:=by
 have a:=Za0 hx
 have b:=Za0 hy
 unfold vq fadd
 simp only [Rat.intCast_add,Rat.intCast_mul]
 generalize (x.1:Rat)=x1 at *
 generalize (x.2:Rat)=x2 at *
 generalize (y.1:Rat)=y1 at *
 generalize (y.2:Rat)=y2 at *
 grind
theorem Zk6:∀ {l:List F2},(∀ x∈l,0 < x.2)→0 < (fsum l).2∧vq (fsum l)=(l.map vq).sum
 | [],_=>⟨by decide,by show vq (0,1)=0; unfold vq; rw [show (((0:Int),(1:Int)).1:Rat)=0 from rfl]; grind⟩
 | x :: l,h=>by
  obtain ⟨a,b⟩:=Zk6 (l:=l) fun y hy=>h y (List.mem_cons_of_mem _ hy)
  have hx:=h x List.mem_cons_self
  refine ⟨Int.mul_pos hx a,?_⟩
  show vq (fadd x (fsum l))=_
  rw [ZlJ hx a,b,List.map_cons,List.sum_cons]
theorem vq_sdf {p q:P3} (hp:0 < p.2.2) (hq:0 < q.2.2):vq (sdf p q)=crR p q:=by
 have a:=Za0 hp
 have b:=Za0 hq
 unfold vq sdf crR rX rY
 simp only [Rat.intCast_sub,Rat.intCast_mul]
 generalize (p.1:Rat)=x1 at *
 generalize (p.2.1:Rat)=x2 at *
 generalize (p.2.2:Rat)=x3 at *
 generalize (q.1:Rat)=y1 at *
 generalize (q.2.1:Rat)=y2 at *
 generalize (q.2.2:Rat)=y3 at *
 grind
theorem ZiO:∀ (z:P3) (ps:List P3),chn z ps=(prZ z ps).map fun e=>sdf e.1 e.2
 | _,[]=>rfl
 | z,p :: r=>by
  show sdf z p :: chn p r=sdf z p :: _
  rw [ZiO p r]
theorem Zis:∀ (z:P3) (ps:List P3),lz z ps=Zg0 z ps
 | _,[]=>rfl
 | _,p :: r=>Zis p r
theorem ZkS:∀ {ps:List P3},(∀ p∈ps,0 < p.2.2)→0 < (fsum (cyc ps)).2∧vq (fsum (cyc ps))=Ze2 ps
 | [],_=>⟨by decide,by show vq (0,1)=0; unfold vq; rw [show (((0:Int),(1:Int)).1:Rat)=0 from rfl]; grind⟩
 | x :: l,h=>by
  rw [← Zky,ZiO,← Zis]
  have e:prZ (lz x l) (x :: l)=eds (x :: l):=rfl
  rw [e]
  have hp:∀ e∈eds (x :: l),0 < e.1.2.2∧0 < e.2.2.2:=fun e he=>⟨h _ (Zi9 he).1,h _ (Zi9 he).2⟩
  obtain ⟨a,b⟩:=Zk6 (l:=(eds (x :: l)).map fun e=>sdf e.1 e.2) fun y hy=>by
   obtain ⟨e,he,rfl⟩:=List.mem_map.mp hy
   exact Int.mul_pos (hp e he).1 (hp e he).2
  refine ⟨a,?_⟩
  rw [b,List.map_map]
  show _=((eds (x :: l)).map fun e=>crR e.1 e.2).sum
  congr 1
  refine List.map_congr_left fun e he=>vq_sdf (hp e he).1 (hp e he).2
theorem vq_inj {r t:F2} (hr:Low r.1 r.2) (ht:Low t.1 t.2) (h:vq r=vq t):r=t:=by
 have a:=Za0 hr.1
 have b:=Za0 ht.1
 have e:(r.1:Rat) * t.2=t.1 * r.2:=by
  unfold vq at h
  generalize (r.1:Rat)=x at *
  generalize (r.2:Rat)=y at *
  generalize (t.1:Rat)=z at *
  generalize (t.2:Rat)=w at *
  grind
 rw [← Rat.intCast_mul,← Rat.intCast_mul] at e
 exact IsF.uniq (s:=t) ⟨hr,ht.1,Rat.intCast_inj.mp e⟩ ⟨ht,ht.1,rfl⟩
theorem IsF.vq {r s:F2} (h:IsF r s):vq r=vq s:=by
 have a:=Za0 h.1.1
 have b:=Za0 h.2.1
 have e:(r.1:Rat) * s.2=s.1 * r.2:=by rw [← Rat.intCast_mul,← Rat.intCast_mul,h.2.2]
 unfold Cut.vq
 generalize (r.1:Rat)=x at *
 generalize (r.2:Rat)=y at *
 generalize (s.1:Rat)=z at *
 generalize (s.2:Rat)=w at *
 grind
def hf (x:F2):F2:=(x.1,2 * x.2)
theorem vq_hf {x:F2} (hx:0 < x.2):vq (hf x)=vq x / 2:=by
 have a:=Za0 hx
 unfold vq hf
 simp only [Rat.intCast_mul]
 rw [show ((2:Int):Rat)=2 from rfl]
 generalize (x.1:Rat)=x1 at *
 generalize (x.2:Rat)=x2 at *
 grind
theorem ZlL {T x:F2} (h:IsF T x):IsF (nrat (T.1 * 1) (T.2 * 2)) (hf x):=by
 have d:0 < T.2 * 2:=Int.mul_pos h.1.1 (by decide)
 have l:=IsF.low (c:=T.1 * 1) d
 refine ⟨l.1,Int.mul_pos (by decide) h.2.1,?_⟩
 have e1:=l.2.2
 have e2:=h.2.2
 have p:=h.1.1
 show _ * (2 * x.2)=x.1 * _
 simp only at e1
 generalize (nrat (T.1 * 1) (T.2 * 2)).1=u at *
 generalize (nrat (T.1 * 1) (T.2 * 2)).2=v at *
 have:T.2 * (u * (2 * x.2))=T.2 * (x.1 * v):=by grind
 exact Int.eq_of_mul_eq_mul_left (Int.ne_of_gt p) this
theorem hf_add {T x y:F2} (hx:0 < x.2) (hy:0 < y.2) (h:IsF T (fadd (hf x) (hf y))):IsF T (hf (fadd x y)):=by
 refine ⟨h.1,Int.mul_pos (by decide) (Int.mul_pos hx hy),?_⟩
 have e:=h.2.2
 unfold hf fadd at *
 simp only at *
 have:2 * (T.1 * (2 * (x.2 * y.2)))=2 * ((x.1 * y.2 + y.1 * x.2) * T.2):=by grind
 exact Int.eq_of_mul_eq_mul_left (by decide) this
end Cut
namespace Cut
open PySem L2 L3
theorem Zio (h:P3→P3):∀ (z:P3) (ps:List P3),prZ (h z) (ps.map h)=(prZ z ps).map fun e=>(h e.1,h e.2)
 | _,[]=>rfl
 | z,p :: r=>by
  show (h z,h p) :: prZ (h p) (r.map h)=(h z,h p) :: _
  rw [Zio h p r]
theorem Zlv (h:P3→P3):∀ (z:P3) (ps:List P3),lz (h z) (ps.map h)=h (lz z ps)
 | _,[]=>rfl
 | _,p :: r=>Zlv h p r
theorem ZlV (h:P3→P3):∀ (ps:List P3),eds (ps.map h)=(eds ps).map fun e=>(h e.1,h e.2)
 | []=>rfl
 | p :: r=>by
  show prZ (lz (h p) (r.map h)) ((p :: r).map h)=(prZ (lz p r) (p :: r)).map _
  rw [Zlv,Zio]
theorem Zke {h:P3→P3} {ps:List P3} (S:P3×P3→Rat) (hs:∀ e∈eds ps,crR (h e.1) (h e.2)=S e):Ze2 (ps.map h)=((eds ps).map S).sum:=by
 unfold Ze2 sumT
 rw [ZlV,List.map_map]
 congr 1
 exact List.map_congr_left hs
theorem rX_nP {p:P3} (h:0 < p.2.2):rX (nP p)=rX p:=by
 obtain ⟨pt,e,_⟩:=ZaL (a:=p.1) (b:=p.2.1) (Int.ne_of_gt h)
 have a:=Za0 h
 have b:=Za0 pt.1
 have e:((nP p).1:Rat) * p.2.2=p.1 * (nP p).2.2:=by rw [← Rat.intCast_mul,← Rat.intCast_mul]; exact congrArg _ e
 have b:((nP p).2.2:Rat)≠0:=b
 unfold rX
 generalize ((nP p).1:Rat)=x at *
 generalize ((nP p).2.2:Rat)=y at *
 generalize (p.1:Rat)=z at *
 generalize (p.2.2:Rat)=w at *
 grind
theorem rY_nP {p:P3} (h:0 < p.2.2):rY (nP p)=rY p:=by
 obtain ⟨pt,_,e,_⟩:=ZaL (a:=p.1) (b:=p.2.1) (Int.ne_of_gt h)
 have a:=Za0 h
 have b:=Za0 pt.1
 have e:((nP p).2.1:Rat) * p.2.2=p.2.1 * (nP p).2.2:=by rw [← Rat.intCast_mul,← Rat.intCast_mul]; exact congrArg _ e
 have b:((nP p).2.2:Rat)≠0:=b
 unfold rY
 generalize ((nP p).2.1:Rat)=x at *
 generalize ((nP p).2.2:Rat)=y at *
 generalize (p.2.1:Rat)=z at *
 generalize (p.2.2:Rat)=w at *
 grind
theorem ZfD {n:Int} (hn:0 < n) (ps:List F2):Ze2 (ps.map fun p=>npt p.1 p.2 n)=(tw ps:Rat) / ((n:Rat) * n):=by
 have e:(ps.map fun p=>npt p.1 p.2 n)=(ps.map up).map fun q=>nP (q.1,q.2.1,n):=by rw [List.map_map]; rfl
 have n0:=Za0 hn
 rw [e,Zke (fun e=>(crI e:Rat) / ((n:Rat) * n)) fun e he=>?_]
 ·unfold tw
  generalize eds (ps.map up)=es
  induction es with
  | nil=>show (0:Rat)=((0:Int):Rat) / _; rw [show ((0:Int):Rat)=0 from rfl]; grind
  | cons e es ih =>
   rw [List.map_cons,List.sum_cons,ih,List.map_cons,List.sum_cons,Rat.intCast_add]
   grind
 ·unfold crR
  rw [rX_nP (p:=(e.1.1,e.1.2.1,n)) hn,rY_nP (p:=(e.1.1,e.1.2.1,n)) hn,rX_nP (p:=(e.2.1,e.2.2.1,n)) hn,rY_nP (p:=(e.2.1,e.2.2.1,n)) hn]
  unfold rX rY
  simp only [crI,Rat.intCast_sub,Rat.intCast_mul]
  grind
theorem Zf9:∀ {cs:List (List P3)},(∀ ps∈cs,∀ p∈ps,0 < p.2.2)→0 < (fsum (cs.flatMap cyc)).2∧vq (fsum (cs.flatMap cyc))=(cs.map Ze2).sum
 | [],_=>⟨by decide,by show vq (0,1)=0; unfold vq; rw [show (((0:Int),(1:Int)).1:Rat)=0 from rfl]; grind⟩
 | ps :: cs,h=>by
  obtain ⟨a,b⟩:=Zf9 (cs:=cs) fun qs hq=>h qs (List.mem_cons_of_mem _ hq)
  obtain ⟨c,d⟩:=ZkS (h ps List.mem_cons_self)
  rw [List.flatMap_cons,ZaP]
  exact ⟨Int.mul_pos c a,by rw [ZlJ c a,b,d,List.map_cons,List.sum_cons]⟩
theorem Zlh {n:Int} {f:List F2→List P3}:∀ {rs:RS},(∀ ps∈rs,Ze2 (f ps)=(tw ps:Rat) / ((n:Rat) * n))→((rs.map f).map Ze2).sum=(((rs.map tw).sum:Int):Rat) / ((n:Rat) * n)
 | [],_=>by show (0:Rat)=((0:Int):Rat) / _; rw [show ((0:Int):Rat)=0 from rfl]; grind
 | ps :: rs,h=>by
  rw [List.map_cons,List.map_cons,List.sum_cons,h ps List.mem_cons_self,Zlh fun qs hq=>h qs (List.mem_cons_of_mem _ hq),List.map_cons,List.sum_cons,Rat.intCast_add]
  grind
theorem due_is {n:Int} {f:List F2→List P3} {rs:RS} {T:F2} (hn:0 < n) (hp:∀ ps∈rs,∀ p∈f ps,0 < p.2.2) (ha:∀ ps∈rs,Ze2 (f ps)=(tw ps:Rat) / ((n:Rat) * n)) (h:IsF T (hf (fsum ((rs.map f).flatMap cyc)))) :
  T=nrat (rs.map tw).sum (2 * n * n):=by
 obtain ⟨a,b⟩:=Zf9 (cs:=rs.map f) fun qs hq=>by
  obtain ⟨ps,hm,rfl⟩:=List.mem_map.mp hq
  exact hp ps hm
 have d:0 < 2 * n * n:=Int.mul_pos (Int.mul_pos (by decide) hn) hn
 have l:=IsF.low (c:=(rs.map tw).sum) d
 refine vq_inj h.1 l.1 ?_
 rw [h.vq,vq_hf a,b,Zlh ha,l.vq]
 have n0:=Za0 hn
 unfold vq
 simp only [Rat.intCast_mul]
 rw [show ((2:Int):Rat)=2 from rfl]
 generalize (((rs.map tw).sum:Int):Rat)=x
 generalize (n:Rat)=y at *
 grind
end Cut
namespace Cut
open PySem L2 L3
open PySem.Builtin.Int (intBits)
abbrev RP:=List (List P3)
theorem ZeV:∀ (cs:RP),(cs.flatMap cyc).length=(cs.map List.length).sum
 | []=>rfl
 | ps :: cs=>by rw [List.flatMap_cons,List.length_append,Zdy,ZeV cs,List.map_cons,List.sum_cons]
theorem ZdG {m:Nat} {cs:RP} (h:∀ ps∈cs,∀ p∈ps,BP m p):intBits (fsum (cs.flatMap cyc)).1≤(cs.map List.length).sum * (2 * m + 2) + 1∧intBits (fsum (cs.flatMap cyc)).2≤(cs.map List.length).sum * (2 * m + 2) + 1:=by
 have b:=ZcQ (m:=2 * m + 1) (l:=cs.flatMap cyc) fun x hx=>by
  obtain ⟨ps,hp,hx⟩:=List.mem_flatMap.mp hx
  exact ZiJ (P:=fun x=>intBits x.1≤2 * m + 1∧intBits x.2≤2 * m + 1) (G:=fun p=>p∈ps) (fun p q hp' hq=>ZdV (h ps hp p hp') (h ps hp q hq)) (fun p hp=>hp) x hx
 rw [ZeV] at b
 exact b
theorem Zjf {T X:F2} {N:Nat} (h:IsF T (hf X)) (b1:intBits X.1≤N) (b2:intBits X.2≤N):intBits T.1≤N + 2∧intBits T.2≤N + 2:=by
 obtain ⟨c1,c2⟩:=h.bounds
 have b3:intBits (2 * X.2)≤2 + N:=intBits_mul_le (by decide) b2
 exact ⟨Nat.le_trans (Zai c1 b1) (by omega),Nat.le_trans (Zai c2 b3) (by omega)⟩
theorem lk_put {α:Type} (k:List (List Int)) (x:α):∀ {ks:List (List (List Int))} {ds:List α} (key:List (List Int)),ds.length=ks.length→lkA (ptK ks k) (ptA ks ds k x) key=if key=k then some x else lkA ks ds key:=by
 have rp:∀ {ks:List (List (List Int))} {ds:List α} (key:List (List Int)),ds.length=ks.length→lkA ks (rpA ks ds k x) key=if key=k∧k∈ks then some x else lkA ks ds key:=by
  intro ks
  induction ks with
  | nil=>intro ds key h; simp [lkA]
  | cons k' ks ih =>
   intro ds key h
   cases ds with
   | nil=>simp at h
   | cons d ds =>
    have ih:=ih (ds:=ds) key (by simpa using h)
    rw [rpA,lkA,lkA]
    by_cases e:k'=key
    ·rw [if_pos e,if_pos e]
     by_cases e2:k'=k
     ·rw [if_pos e2,if_pos ⟨by rw [← e,e2],by rw [e2]; simp⟩]
     ·rw [if_neg e2,if_neg (fun z=>e2 (e.trans z.1))]
    ·rw [if_neg e,if_neg e,ih]
     by_cases z:key=k∧k∈ks
     ·rw [if_pos z,if_pos ⟨z.1,List.mem_cons_of_mem _ z.2⟩]
     ·rw [if_neg z,if_neg (fun y=>z ⟨y.1,by
       rcases List.mem_cons.mp y.2 with q | q
       ·exact absurd (q.symm.trans y.1.symm) e
       ·exact q⟩)]
 have ap:∀ {ks:List (List (List Int))} {ds:List α} (key:List (List Int)),ds.length=ks.length→lkA (ks ++ [k]) (ds ++ [x]) key=(lkA ks ds key).or (if k=key then some x else none):=by
  intro ks
  induction ks with
  | nil =>
   intro ds key h
   cases ds with
   | nil=>simp [lkA]
   | cons d ds=>simp at h
  | cons k' ks ih =>
   intro ds key h
   cases ds with
   | nil=>simp at h
   | cons d ds =>
    have ih:=ih (ds:=ds) key (by simpa using h)
    rw [List.cons_append,List.cons_append,lkA,lkA]
    by_cases e:k'=key
    ·rw [if_pos e,if_pos e]; rfl
    ·rw [if_neg e,if_neg e,ih]
 intro ks ds key h
 unfold ptK ptA
 by_cases m:k∈ks
 ·rw [if_pos m,if_pos m,rp key h]
  by_cases e:key=k
  ·rw [if_pos ⟨e,m⟩,if_pos e]
  ·rw [if_neg (fun z=>e z.1),if_neg e]
 ·rw [if_neg m,if_neg m,ap key h]
  by_cases e:key=k
  ·subst e
   rw [(Zca h).mpr m,if_pos rfl]; rfl
  ·rw [if_neg e,if_neg (fun z=>e z.symm)]
   cases lkA ks ds key <;> rfl
theorem Zgp {α:Type} {k:List (List Int)} {x:α} {ks:List (List (List Int))} {ds:List α} (h:ds.length=ks.length):(ptA ks ds k x).length=(ptK ks k).length∧(ptK ks k).length≤ks.length + 1:=by
 unfold ptK ptA
 by_cases m:k∈ks
 ·rw [if_pos m,if_pos m,Zjb]; exact ⟨h,by omega⟩
 ·rw [if_neg m,if_neg m,List.length_append,List.length_append,h]; exact ⟨rfl,Nat.le_refl _⟩
theorem ZeF {α β:Type} (f:α→β):∀ (ks:List (List (List Int))) (ds:List α) (key:List (List Int)),lkA ks (ds.map f) key=(lkA ks ds key).map f
 | [],_,_=>by simp [lkA]
 | _ :: _,[],_=>by simp [lkA]
 | k' :: ks,d :: ds,key=>by
  rw [List.map_cons,lkA,lkA]
  by_cases e:k'=key
  ·rw [if_pos e,if_pos e]; rfl
  ·rw [if_neg e,if_neg e,ZeF f ks ds key]
theorem ZhG {α β:Type} (f:α→β) (k:List (List Int)) (x:α) (ks:List (List (List Int))) (ds:List α):(ptA ks ds k x).map f=ptA ks (ds.map f) k (f x):=by
 have rp:∀ (ks:List (List (List Int))) (ds:List α),(rpA ks ds k x).map f=rpA ks (ds.map f) k (f x):=by
  intro ks
  induction ks with
  | nil=>intro ds; simp [rpA]
  | cons k' ks ih =>
   intro ds
   cases ds with
   | nil=>simp [rpA]
   | cons d ds =>
    rw [rpA,List.map_cons,ih,List.map_cons,rpA]
    by_cases e:k'=k
    ·rw [if_pos e,if_pos e]
    ·rw [if_neg e,if_neg e]
 unfold ptA
 by_cases m:k∈ks
 ·rw [if_pos m,if_pos m,rp]
 ·rw [if_neg m,if_neg m,List.map_append]; rfl
theorem lk_int (ks:List (List (List Int))) (vs:List Int) (key:List (List Int)):(lkA ks (vs.map D.int) key).getD (.int 0)=.int ((lkA ks vs key).getD 0):=by
 rw [ZeF]
 cases lkA ks vs key <;> rfl
end Cut
namespace L2
open PySem PySem.Spec PyProof.Rows PySem.W
variable {X:Cx}
theorem Zg9:ZeK X (.builtin "sorted") (fun xs H Q=>∃ (p:Addr) (ns:List Int),xs=[.ref p]∧H p=some (.lst (ns.map V.int))∧ns.length < 64∧∀ ns':List Int,ns'.Perm ns→ns'.Pairwise (· ≤ ·)→∀ l,H l=none→Q (.ref l) (upd H l (.lst (ns'.map V.int)))):=by
 intro pins s σ H xs us Q I r h
 obtain ⟨p,ns,rfl,hp,hn,q⟩:=h
 obtain ⟨u,rfl,rx⟩:=ZeQ r
 cases rx
 obtain ⟨its,rv,pl,hz⟩:=I.list (SqL.of hp)
 have hlen:=rv.length
 rw [List.length_map] at hlen
 refine sorted_ints pl.isList (Zdz rv) (by omega) fun out ns' a1 a2 a3=>?_
 obtain ⟨e,he⟩:=sortedAll_at s.heap its out
 have hl:=a2.length_eq
 exact ⟨.ref (s.heap.objs.size + 1),_,I.laid (t':=s.toks) (fun _ _=>sortedAll_old) (Nat.le_succ _) (show ObjOk X.prog X.w _ _ _ (.lst (ns'.map V.int)) from ⟨by rw [List.length_map,sizeLine_eq]; omega,out.toList,e,ZcF a1,he⟩),rfl,q ns' a2 a3 _ (I.hok.fresh (Nat.le_succ _))⟩
end L2
namespace L3
open PySem L2
variable {X:Cx} {e:Expr} {u:UE} {p pos:Pos}
def uSort (u:UE):UL:=fun ρ k=>u ρ fun x=>∃ ns:List Int,x=.lst (ns.map D.int)∧ns.length < 64∧∀ ns':List Int,ns'.Perm ns→ns'.Pairwise (· ≤ ·)→k (ns'.map D.int)
theorem o_sort (ha:PE3 X e u) (hg:Gl X "sorted") (hm:X.mg "sorted" = none) (hs:starEach [e] X.env=(false,eval e X.env) :: starEach [] X.env:=by rfl):PO3 X (.Call (.Name "sorted" p) [e] [] pos) (uSort u):=by
 obtain ⟨_,h1,r1⟩:=ha
 refine ⟨_,Zbv Zg9 hg hm (by decide +kernel) (Zau h1 ZaR hs) (by decide) (by decide) hs rfl,fun ρ k h R W B H σ Q e q=>?_⟩
 refine r1 ρ _ h R W B H σ _ e fun d v B1 H1 z1 e1 g1 s1=>?_
 obtain ⟨ns,rfl,hn,z⟩:=z1
 obtain ⟨a,vs,rfl,ha,rs⟩:=s1.lstV
 have ev:=Zdk rs
 subst ev
 refine ⟨a,ns,rfl,e1.bh _ _ ha,hn,fun ns' p1 p2 p hp=>?_⟩
 obtain ⟨f1,f2,f3,f4,f5⟩:=e1.newO hp (Reps.ints ns')
 exact q _ p _ B1 _ (z ns' p1 p2) f1 g1 f2 f3 f4 (Reps.ints ns') f5
end L3
namespace L2
open PySem PySem.W PyProof.Rows
section
variable {R:Nat→Int} {n:Nat}
def Gd (R:Nat→Int) (n:Nat) {α:Type}:KasT α→(α→Prop)→Prop
 | .ret a,Q=>Q a
 | .ask i j k,Q=>i < n∧j < n∧Gd R n (k (decide (R i < R j))) Q
theorem Gd.bind {α β:Type} {f:α→KasT β} {Q:β→Prop}:∀ {t:KasT α},Gd R n t (fun a=>Gd R n (f a) Q)→Gd R n (t.bind f) Q
 | .ret _,h=>h
 | .ask _ _ _,h=>⟨h.1,h.2.1,Gd.bind h.2.2⟩
theorem Gd.mono {α:Type} {Q Q':α→Prop} (hq:∀ a,Q a→Q' a):∀ {t:KasT α},Gd R n t Q→Gd R n t Q'
 | .ret a,h=>hq a h
 | .ask _ _ _,h=>⟨h.1,h.2.1,Gd.mono hq h.2.2⟩
theorem Gd.wp {α:Type} {cmp:Nat→Nat→(Bool→Shared→Prop)→Shared→Prop} {s:Shared} {Q:α→Prop} {G:α→Shared→Prop} (hc:∀ i j C,i < n→j < n→C (decide (R i < R j)) s→cmp i j C s) (hq:∀ a,Q a→G a s):∀ {t:KasT α},Gd R n t Q→t.kasWp cmp G s
 | .ret a,h=>hq a h
 | .ask i j _,h=>hc i j _ h.1 h.2.1 (Gd.wp hc hq h.2.2)
theorem gd_t {α:Type} {a b:KasT α} {Q:α→Prop} (h:Gd R n a Q):Gd R n (if true=true then a else b) Q:=by rw [if_pos rfl]; exact h
theorem gd_f {α:Type} {a b:KasT α} {Q:α→Prop} (h:Gd R n b Q):Gd R n (if false=true then a else b) Q:=by rw [if_neg (by simp)]; exact h
abbrev rk (R:Nat→Int) (p:Array Nat) (k:Nat):Int:=R (p.getD k 0)
def PP (n:Nat) (p:Array Nat):Prop:=p.Perm (List.range n).toArray
theorem PP.sz {p:Array Nat} (h:PP n p):p.size=n:=by have:=h.size_eq; simpa using this
theorem PP.below {p:Array Nat} (h:PP n p) {k:Nat} (hk:k < n):p.getD k 0 < n:=by
 have hs:=h.sz
 have e:p.getD k 0=p[k]'(by omega):=by simp [Array.getD,hs,hk]
 have m:p[k]'(by omega)∈p:=Array.getElem_mem _
 rw [e]
 have:=(h.mem_iff).mp m
 simpa using this
theorem PP.rev {p:Array Nat} (h:PP n p) (i j:Nat):PP n (kas_rev p i j):=(mirror_perm _ _ _ _).trans h
theorem PP.bub {p:Array Nat} (h:PP n p) (i j:Nat):PP n (bubble p i j):=(bubble_perm _ _ _).trans h
theorem getD_of? (p:Array Nat) (k:Nat):p.getD k 0=(p[k]?).getD 0:=by simp
theorem Zf0 {p:Array Nat} {i j:Nat} (hj:j≤p.size) (k:Nat):rk R (kas_rev p i j) k=if i≤k∧k < j then rk R p (i + j - 1 - k) else rk R p k:=by
 unfold rk kas_rev
 rw [getD_of?,getElem?_mirror_all hj]
 split <;> rw [getD_of?]
theorem ZlD {p:Array Nat} {src d:Nat} (hs:src < p.size) (hd:d≤src) (k:Nat):rk R (bubble p src d) k=if k=src - d then rk R p src else if src - d < k∧k≤src then rk R p (k - 1) else rk R p k:=by
 unfold rk
 rw [getD_of?,getD_of?,getD_of?,getD_of?,getElem?_bubble hs d hd]
 split
 ·rfl
 ·split <;> rfl
def Inc (R:Nat→Int) (p:Array Nat) (m:Nat):Prop:=∀ i j,i≤j→j < m→rk R p i≤rk R p j
def Dcr (R:Nat→Int) (p:Array Nat) (m:Nat):Prop:=∀ i j,i≤j→j < m→rk R p j≤rk R p i
theorem Inc.more {p:Array Nat} {m:Nat} (h:Inc R p m) (h1:1≤m) (hv:rk R p (m - 1)≤rk R p m):Inc R p (m + 1):=fun i j hij hj=>by
 by_cases e:j < m
 ·exact h i j hij e
 ·have e2:j=m:=by omega
  subst e2
  by_cases e3:i=j
  ·rw [e3]; exact Int.le_refl _
  ·exact Int.le_trans (h i (j - 1) (by omega) (by omega)) hv
theorem Dcr.more {p:Array Nat} {m:Nat} (h:Dcr R p m) (h1:1≤m) (hv:rk R p m≤rk R p (m - 1)):Dcr R p (m + 1):=fun i j hij hj=>by
 by_cases e:j < m
 ·exact h i j hij e
 ·have e2:j=m:=by omega
  subst e2
  by_cases e3:i=j
  ·rw [e3]; exact Int.le_refl _
  ·exact Int.le_trans hv (h i (j - 1) (by omega) (by omega))
theorem ZmI {p:Array Nat} (hp:PP n p):∀ (f m:Nat),1≤m→m + f≤n→Inc R p m→Gd R n (kas_asc p f m) fun m'=>m≤m'∧m'≤m + f∧Inc R p m'∧(m' < m + f→rk R p m' < rk R p (m' - 1))
 | 0,m,_,_,h=>⟨Nat.le_refl _,Nat.le_refl _,h,fun z=>absurd z (by omega)⟩
 | f + 1,m,h1,hm,h=>by
  refine ⟨hp.below (by omega),hp.below (by omega),?_⟩
  by_cases c:rk R p m < rk R p (m - 1)
  ·rw [show decide (R (p.getD m 0) < R (p.getD (m - 1) 0))=true from decide_eq_true c]; refine gd_t ?_
   exact ⟨Nat.le_refl _,by omega,h,fun _=>c⟩
  ·rw [show decide (R (p.getD m 0) < R (p.getD (m - 1) 0))=false from decide_eq_false c]; refine gd_f ?_
   refine Gd.mono (fun a z=>?_) (ZmI hp f (m + 1) (by omega) (by omega) (h.more h1 (Int.not_lt.mp c)))
   exact ⟨by omega,by omega,z.2.2.1,fun q=>z.2.2.2 (by omega)⟩
def Eqs (R:Nat→Int) (p:Array Nat) (m q:Nat):Prop:=∀ i,m - (q + 1)≤i→i < m→rk R p i=rk R p (m - 1)
theorem ZfQ {p:Array Nat} {m q:Nat} (hm:m≤p.size) (hq:q + 1≤m) (h:Eqs R p m q) (k:Nat):rk R (kas_rev p (m - (q + 1)) m) k=rk R p k:=by
 rw [Zf0 hm]
 split
 ·rename_i z; rw [h _ (by omega) (by omega),h k (by omega) (by omega)]
 ·rfl
theorem Zgr:∀ (f:Nat) (p:Array Nat) (m q:Nat),PP n p→q + 1≤m→m + f≤n→Dcr R p m→Eqs R p m q →
  Gd R n (kas_desc f p m q) fun r=>PP n r.1∧m≤r.2.1∧r.2.1≤m + f∧r.2.2 + 1≤r.2.1∧Dcr R r.1 r.2.1∧Eqs R r.1 r.2.1 r.2.2
 | 0,p,m,q,hp,hq,hm,hd,he=>⟨hp,Nat.le_refl _,Nat.le_refl _,hq,hd,he⟩
 | f + 1,p,m,q,hp,hq,hm,hd,he=>by
  refine ⟨hp.below (by omega),hp.below (by omega),?_⟩
  have hs:=hp.sz
  by_cases c:rk R p m < rk R p (m - 1)
  ·rw [show decide (R (p.getD m 0) < R (p.getD (m - 1) 0))=true from decide_eq_true c]; refine gd_t ?_
   by_cases zq:q > 0
   ·rw [if_pos zq]
    have sm:=ZfQ (R:=R) (p:=p) (m:=m) (q:=q) (by omega) hq he
    refine Gd.mono (fun a z=>?_) (Zgr f (kas_rev p (m - (q + 1)) m) (m + 1) 0 (hp.rev _ _) (by omega) (by omega) (Dcr.more (fun i j a b=>by rw [sm,sm]; exact hd i j a b) (by omega) (by rw [sm,sm]; exact Int.le_of_lt c)) (fun i a b=>by rw [show i=m + 1 - 1 by omega]))
    exact ⟨z.1,by omega,by omega,z.2.2.2.1,z.2.2.2.2⟩
   ·rw [if_neg zq]
    refine Gd.mono (fun a z=>?_) (Zgr f p (m + 1) 0 hp (by omega) (by omega) (hd.more (by omega) (Int.le_of_lt c)) (fun i a b=>by rw [show i=m + 1 - 1 by omega]))
    exact ⟨z.1,by omega,by omega,z.2.2.2.1,z.2.2.2.2⟩
  ·rw [show decide (R (p.getD m 0) < R (p.getD (m - 1) 0))=false from decide_eq_false c]; refine gd_f ?_
   refine ⟨hp.below (by omega),hp.below (by omega),?_⟩
   by_cases d:rk R p (m - 1) < rk R p m
   ·rw [show decide (R (p.getD (m - 1) 0) < R (p.getD m 0))=true from decide_eq_true d]; refine gd_t ?_
    exact ⟨hp,Nat.le_refl _,show m≤m + (f + 1) by omega,hq,hd,he⟩
   ·rw [show decide (R (p.getD (m - 1) 0) < R (p.getD m 0))=false from decide_eq_false d]; refine gd_f ?_
    have e:rk R p m=rk R p (m - 1):=by omega
    refine Gd.mono (fun a z=>?_) (Zgr f p (m + 1) (q + 1) hp (by omega) (by omega) (hd.more (by omega) (by omega)) (fun i a b=>?_))
    ·exact ⟨z.1,by omega,by omega,z.2.2.2.1,z.2.2.2.2⟩
    ·rw [show m + 1 - 1=m by omega,e]
     by_cases e2:i=m
     ·rw [e2,e]
     ·exact he i (by omega) (by omega)
theorem Zhu {p:Array Nat} {m:Nat} (hp:PP n p) (h1:1≤m) (hm:m≤n) (hd:Dcr R p m):Gd R n (kas_tail3 m n p) fun r=>PP n r.2∧1≤r.1∧r.1≤n∧Inc R r.2 r.1:=by
 refine Gd.bind ?_
 have hs:=hp.sz
 refine Gd.mono (fun a z=>?_) (ZmI (hp.rev 0 m) (n - m) m h1 (by omega) (fun i j hij hj=>?_))
 ·exact ⟨hp.rev 0 m,by omega,by omega,z.2.2.1⟩
 ·rw [Zf0 (by omega),Zf0 (by omega),if_pos (by omega),if_pos (by omega)]
  exact hd _ _ (by omega) (by omega)
theorem ZdB {p:Array Nat} {m:Nat} (hp:PP n p) (h1:1≤m) (hm:m + 1≤n) (hd:Dcr R p (m + 1)):Gd R n (kas_descPart m n p) fun r=>PP n r.2∧1≤r.1∧r.1≤n∧Inc R r.2 r.1:=by
 refine Gd.bind ?_
 refine Gd.mono (fun r z=>?_) (Zgr (n - (m + 1)) p (m + 1) 0 hp (by omega) (by omega) hd (fun i a b=>by rw [show i=m + 1 - 1 by omega]))
 obtain ⟨z1,z2,z3,z4,z5,z6⟩:=z
 have hs:=z1.sz
 by_cases zq:r.2.2 > 0
 ·rw [if_pos zq]
  have sm:=ZfQ (R:=R) (p:=r.1) (m:=r.2.1) (q:=r.2.2) (by omega) z4 z6
  exact Zhu (z1.rev _ _) (by omega) (by omega) (fun i j a b=>by rw [sm,sm]; exact z5 i j a b)
 ·rw [if_neg zq]
  exact Zhu z1 (by omega) (by omega) z5
theorem ZlN {p:Array Nat} (hp:PP n p) (h1:1≤n):Gd R n (kas_count n p) fun r=>PP n r.2∧1≤r.1∧r.1≤n∧Inc R r.2 r.1:=by
 refine Gd.bind ?_
 have hs:=hp.sz
 refine Gd.mono (fun m z=>?_) (ZmI hp (n - 1) 1 (by omega) (by omega) (fun i j a b=>by rw [show i=j by omega]; exact Int.le_refl _))
 obtain ⟨z1,z2,z3,z4⟩:=z
 by_cases e:m=n
 ·rw [if_pos (by simp [e])]
  exact ⟨hp,z1,by omega,z3⟩
 ·rw [if_neg (by simp [e])]
  have lt:=z4 (by omega)
  by_cases g:m > 1
  ·rw [if_pos g]
   refine ⟨hp.below (by omega),hp.below (by omega),?_⟩
   by_cases c:rk R p 0 < rk R p (m - 1)
   ·rw [show decide (R (p.getD 0 0) < R (p.getD (m - 1) 0))=true from decide_eq_true c]; refine gd_t ?_
    exact ⟨hp,z1,by omega,z3⟩
   ·rw [show decide (R (p.getD 0 0) < R (p.getD (m - 1) 0))=false from decide_eq_false c]; refine gd_f ?_
    have al:∀ i,i < m→rk R p i=rk R p (m - 1):=fun i hi=>by
     have a1:=z3 0 i (by omega) hi
     have a2:=z3 i (m - 1) (by omega) (by omega)
     omega
    have sm:∀ k,rk R (kas_rev p 0 m) k=rk R p k:=fun k=>by
     rw [Zf0 (by omega)]
     split
     ·rename_i z; rw [al _ (by omega),al k (by omega)]
     ·rfl
    refine ZdB (hp.rev _ _) z1 (by omega) (Dcr.more (fun i j a b=>?_) z1 (by rw [sm,sm]; exact Int.le_of_lt lt))
    rw [sm,sm,al i (by omega),al j b]; exact Int.le_refl _
  ·rw [if_neg g]
   have e1:m=1:=by omega
   subst e1
   exact ZdB hp (by omega) (by omega) (Dcr.more (fun i j a b=>by rw [show i=j by omega]; exact Int.le_refl _) (by omega) (Int.le_of_lt lt))
theorem Zfx {p:Array Nat} {k:Nat} (hp:PP n p) (hk:k < n) (hi:Inc R p k):∀ (f l r:Nat),l≤r→r≤k→r - l≤f→(∀ i,i < l→rk R p i≤rk R p k)→(∀ i,r≤i→i < k→rk R p k < rk R p i) →
  Gd R n (kas_place p k f l r) fun l'=>l'≤k∧(∀ i,i < l'→rk R p i≤rk R p k)∧∀ i,l'≤i→i < k→rk R p k < rk R p i
 | 0,l,r,a,b,c,d,e=>⟨by omega,d,fun i q1 q2=>e i (by omega) q2⟩
 | f + 1,l,r,a,b,c,d,e=>by
  unfold kas_place
  by_cases z:l ≥ r
  ·rw [if_pos z]
   exact ⟨by omega,d,fun i q1 q2=>e i (by omega) q2⟩
  ·rw [if_neg z]
   have hm:(l + r) / 2 < r:=by omega
   refine ⟨hp.below hk,hp.below (by omega),?_⟩
   by_cases q:rk R p k < rk R p ((l + r) / 2)
   ·rw [show decide (R (p.getD k 0) < R (p.getD ((l + r) / 2) 0))=true from decide_eq_true q]; refine gd_t ?_
    refine Zfx hp hk hi f l ((l + r) / 2) (by omega) (by omega) (by omega) d fun i q1 q2=>Int.lt_of_lt_of_le q (hi _ _ q1 q2)
   ·rw [show decide (R (p.getD k 0) < R (p.getD ((l + r) / 2) 0))=false from decide_eq_false q]; refine gd_f ?_
    refine Zfx hp hk hi f ((l + r) / 2 + 1) r (by omega) b (by omega) (fun i q1=>?_) e
    exact Int.le_trans (hi i ((l + r) / 2) (by omega) (by omega)) (Int.not_lt.mp q)
theorem g_bin:∀ (f:Nat) (p:Array Nat) (k:Nat),PP n p→k + f=n→Inc R p k→Gd R n (kas_bin f p k) fun p'=>PP n p'∧Inc R p' n
 | 0,p,k,hp,hk,hi=>⟨hp,by rw [← hk]; exact hi⟩
 | f + 1,p,k,hp,hk,hi=>by
  refine Gd.bind ?_
  have hs:=hp.sz
  refine Gd.mono (fun l z=>?_) (Zfx hp (by omega) hi k 0 k (by omega) (by omega) (by omega) (fun i q=>absurd q (by omega)) (fun i q1 q2=>absurd q1 (by omega)))
  obtain ⟨z1,z2,z3⟩:=z
  refine g_bin f (bubble p k (k - l)) (k + 1) (hp.bub _ _) (by omega) fun i j hij hj=>?_
  rw [ZlD (by omega) (by omega),ZlD (by omega) (by omega)]
  have e:k - (k - l)=l:=by omega
  rw [e]
  by_cases i1:i=l
  ·rw [if_pos i1]
   by_cases j1:j=l
   ·rw [if_pos j1]; exact Int.le_refl _
   ·rw [if_neg j1,if_pos (by omega)]
    exact Int.le_of_lt (z3 (j - 1) (by omega) (by omega))
  ·rw [if_neg i1]
   by_cases i2:l < i
   ·rw [if_pos (by omega),if_neg (by omega),if_pos (by omega)]
    exact hi _ _ (by omega) (by omega)
   ·rw [if_neg (by omega)]
    by_cases j1:j=l
    ·rw [if_pos j1]; exact z2 i (by omega)
    ·rw [if_neg j1]
     by_cases j2:l < j
     ·rw [if_pos (by omega)]; exact hi _ _ (by omega) (by omega)
     ·rw [if_neg (by omega)]; exact hi _ _ (by omega) (by omega)
theorem g_sort (h:1≤n):Gd R n (kas_sort n) fun p=>PP n p∧Inc R p n:=by
 refine Gd.bind (Gd.mono (fun r z=>?_) (ZlN (p:=(List.range n).toArray) (Array.Perm.refl _) h))
 obtain ⟨z1,z2,z3,z4⟩:=z
 by_cases c:r.1 < n
 ·rw [if_pos c,show max r.1 1=r.1 by omega]
  exact g_bin _ _ _ z1 (by omega) z4
 ·rw [if_neg c]
  have e:r.1=n:=by omega
  exact ⟨z1,by rw [← e]; exact z4⟩
end
end L2
namespace L2
open PySem PySem.Spec PyProof.Rows PySem.W
section
variable {prog:Program} {w:World} {A:Around} {E:Value→Shared→Prop} {s:Shared} {vs:List Value} {R:Nat→Int} {κ:SortKind}
def ZaI (vs:List Value) (p:Array Nat):List Value:=p.toList.map fun i=>vs.getD i Value.none
theorem ZgR (vs:List Value):ZaI vs (List.range vs.length).toArray=vs:=by
 unfold ZaI
 apply List.ext_getElem
 ·simp
 ·intro i h1 h2
  simp [h2]
theorem Znt (vs:List Value):((vs.toArray.zip vs.toArray).map (·.2)).toList=vs:=by
 rw [Array.toList_map,Array.toList_zip]
 apply List.ext_getElem
 ·simp
 ·intro i h1 h2
  simp
structure Rkd (prog:Program) (w:World) (A:Around) (s:Shared) (vs:List Value) (κ:SortKind) (R:Nat→Int):Prop where
 kd:2≤vs.length→∀ h':Heap,(∀ b o,s.heap.get? b=some o→h'.get? b=some o)→∀ (E:Value→Shared→Prop) (Q:SortKind→Shared→Prop),Q κ { s with heap:=h' }→wpAny (model prog w) A (keyKind' vs.toArray) Q E { s with heap:=h' }
 lt:∀ h':Heap,(∀ b o,s.heap.get? b=some o→h'.get? b=some o)→∀ (i j:Nat) (C:Bool→Shared→Prop),i < vs.length→j < vs.length→C (decide (R i < R j)) { s with heap:=h' }→kas_ask prog w A κ vs i j C { s with heap:=h' }
theorem ZmS {a:Addr} {n:Nat} {h0:Heap} {P:PySem.Fin→Shared→Prop} (ho:h0.get? a=some (seqObj "list" vs.toArray n)) (h64:vs.length < 64) (rk:Rkd prog w A s vs κ R) (kp:∀ b o,s.heap.get? b=some o→b≠a∧h0.get? b=some o)
  (k:∀ p:Array Nat,PP vs.length p→Inc R p vs.length→P (.done (.ret .none)) { s with heap:=sortedHeap h0 a vs (ZaI vs p).toArray }) :
  wpAny (model prog w) A (Builtin.«list.sort» ⟨[.ref a],[]⟩) P E { s with heap:=h0 }:=by
 have lo:=Heap.lt_size ho
 have few:vs.length≤sizeLine:=by rw [sizeLine_eq]; omega
 let h1:=h0.update a (Obj.mapSeq fun _=>(#[]:Array Value))
 let h3:=(h1.push (seqObj "tuple" vs.toArray 0)).push (seqObj "list" #[] 0)
 obtain ⟨e,q1⟩:∃ e,h1.get? a=some (seqObj "list" #[] e):=⟨_,get?_update_seq ho fun _ => #[]⟩
 have q3:h3.get? a=some (seqObj "list" #[] e):=Heap.get?_push_of_some _ (Heap.get?_push_of_some _ q1)
 have k3:∀ b o,s.heap.get? b=some o→h3.get? b=some o:=fun b o z=>Heap.get?_push_of_some _ (Heap.get?_push_of_some _ ((Heap.SameBut.update h0 a _).extBut b o (kp b o z).1 (kp b o z).2))
 rw [list_sort_plain]
 refine wpAny_bind (listItems_at (s:={ s with heap:=h0 }) ho rfl (wpAny_bind (listUpdate_at (s:={ s with heap:=h0 }) ho rfl (wpAny_bind (seqEpoch_at (s:={ s with heap:=h1 }) q1 rfl (wpAny_bind (wpAny_newTuple (wpAny_bind (wpAny_newList (wpAny_holding ?_) (Nat.zero_le _))) few)))) (by simpa using few) (Nat.zero_le _))))
 show wpAny (model prog w) A _ P E { s with heap:=h3 }
 dsimp only
 have last:∀ (st:SortSt) (p:Array Nat),PP vs.length p→Inc R p vs.length→((arrOf st).map (·.2))=(ZaI vs p).toArray→failedOf st=none →
   wpAny (model prog w) A (do
    let touched:=(← seqEpoch a) != e
    Builtin.List.listUpdate (.ref a) fun _=>(arrOf st).map (·.2)
    if let some e:=failedOf st then rule "list.sort.comparison-raised"; throw e
    if touched then rule "list.sort.modified"; raiseError "ValueError" "list modified during sort"
    ret .none) P E { s with heap:=h3 }:=fun st p pp ic eo ef=>by
  refine wpAny_bind (seqEpoch_at (s:={ s with heap:=h3 }) q3 rfl ?_)
  have lz:((ZaI vs p).toArray).size=vs.length:=by unfold ZaI; rw [List.size_toArray,List.length_map,Array.length_toList,pp.sz]
  rw [eo,ef]
  refine wpAny_bind (listUpdate_at (s:={ s with heap:=h3 }) q3 rfl ?_ (Nat.zero_le _) (by show ((ZaI vs p).toArray).size≤_; rw [lz]; omega))
  have ne:¬ ((e != e)=true):=by simp
  rw [if_neg ne]
  exact wpAny_pure (k p pp ic)
 by_cases two:vs.toArray.size < 2
 ·rw [if_pos two,if_pos two]
  refine wpAny_bind (wpAny_pure ?_)
  rw [StateT.run_pure]
  refine wpAny_bind (wpAny_pure ?_)
  refine last _ (List.range vs.length).toArray (Array.Perm.refl _) (fun i j a b=>?_) ?_ rfl
  ·have:i=j:=by rw [List.size_toArray] at two; omega
   rw [this]; exact Int.le_refl _
  ·apply Array.toList_inj.mp
   rw [ZgR]
   exact Znt vs
 ·have t2:2≤vs.length:=by rw [List.size_toArray] at two; omega
  rw [if_neg two,if_neg two]
  refine wpAny_bind (rk.kd t2 h3 k3 _ _ ?_)
  refine wpAny_bind (wpAny_mono (kat_run (ks:=vs) (vs:=vs) (s:={ s with heap:=h3 }) (Q:=fun st s'=>s'={ s with heap:=h3 }∧∃ p:Array Nat,PP vs.length p∧Inc R p vs.length∧arrOf st=p.map (kas_item (vs.toArray.zip vs.toArray))∧failedOf st=none)
   (G:=fun p s'=>s'={ s with heap:=h3 }∧PP vs.length p∧Inc R p vs.length) rfl t2 h64 (fun p st s' _ a2 a3 a4=>⟨a4.1,p,a4.2.1,a4.2.2,a2,a3⟩) (Gd.wp (R:=R) (fun i j C hi hj c=>rk.lt h3 k3 i j C hi hj c) (fun p z=>⟨rfl,z.1,z.2⟩) (g_sort (by omega)))) ?_ fun _ _ z=>z)
  rintro ⟨⟨⟩,st⟩ s' ⟨rfl,p,pp,ic,ea,ef⟩
  exact last st p pp ic (kat_snds rfl ea) ef
end
section
variable {prog:Program} {w:World} {A:Around} {E:Value→Shared→Prop} {s:Shared} {vs:List Value} {R:Nat→Int} {κ:SortKind}
theorem Zdv {v:Value} {Q:Value→Shared→Prop} (h64:vs.length < 64)
  (col:∀ (E':Value→Shared→Prop) (Q':List Value→Shared→Prop),(∀ h':Heap,s.heap.objs.size≤h'.objs.size→(∀ b o,s.heap.get? b=some o→h'.get? b=some o)→Q' vs { s with heap:=h' })→wpAny (model prog w) A.in1 (collect v) Q' E' s)
  (rk:Rkd prog w A.in1.in1 s vs κ R)
  (k:∀ (p:Array Nat) (h':Heap) (l:Addr) (e:Nat),PP vs.length p→Inc R p vs.length→s.heap.objs.size≤l→(∀ b o,s.heap.get? b=some o→h'.get? b=some o)→h'.get? l=some (seqObj "list" (ZaI vs p).toArray e)→Q (.ref l) { s with heap:=h' }) :
  wpAny (model prog w) A (call (.builtin "sorted") [v]) Q E s:=by
 have few:vs.length≤sizeLine:=by rw [sizeLine_eq]; omega
 refine Calls.call_function_entry kind_sorted plain_sorted entry_sorted (args_sorted1 _) ?_
 unfold Builtin.«sorted»
 refine wpAny_bind (m:=checkCount "sorted" 1 1 _) (wpAny_pure (wpAny_bind (col _ _ fun h1 z1 k1=>wpAny_bind (wpAny_newList ?_ few))))
 let h2:=h1.push (seqObj "list" vs.toArray 0)
 have q2:h2.get? h1.objs.size=some (seqObj "list" vs.toArray 0):=Heap.get?_push_size _ rfl
 show wpAny (model prog w) A.in1 _ _ _ { s with heap:=h2 }
 have kp:∀ b o,s.heap.get? b=some o→b≠h1.objs.size∧h2.get? b=some o:=fun b o z=>⟨Nat.ne_of_lt (Nat.lt_of_lt_of_le (Heap.lt_size z) z1),Heap.get?_push_of_some _ (k1 b o z)⟩
 refine wpAny_bind (wpAny_holding (wpAny_call_entry (s:={ s with heap:=h2 }) slot_list_sort ⟨_,q2,rfl⟩ entry_list_sort (ZmS (R:=R) (s:=s) q2 h64 rk kp fun p pp ic=>⟨_,rfl,wpAny_pure ⟨_,rfl,?_⟩⟩) (args_list_sort _)))
 obtain ⟨e,he⟩:=sortedHeap_at (vs:=vs) (out:=(ZaI vs p).toArray) q2
 refine k p _ _ e pp ic z1 (fun b o z=>?_) he
 rw [sortedHeap_old (kp b o z).1 (Heap.lt_size (kp b o z).2)]
 exact (kp b o z).2
theorem Zfh {l:Addr} {Q:List Value→Shared→Prop} (hl:s.heap.IsList l vs.toArray) (few:vs.length≤sizeLine) (h:∀ h':Heap,s.heap.objs.size≤h'.objs.size→(∀ b o,s.heap.get? b=some o→h'.get? b=some o)→Q vs { s with heap:=h' }):wpAny (model prog w) A (collect (.ref l)) Q E s:=by
 refine collect_list hl (h _ ?_ fun b o z=>?_) few
 ·rw [Heap.size_update,size_push']; exact Nat.le_succ _
 ·exact (Heap.SameBut.update _ _ _).extBut b o (Nat.ne_of_lt (Heap.lt_size z)) (Heap.get?_push_of_some _ z)
end
end L2
namespace L3
open PySem PySem.Spec PyProof.Rows L2
section
variable {prog:Program} {w:World} {A:Around} {E:Value→Shared→Prop} {s:Shared} {d:Addr} {ep:Nat} {es:Array DictEntry}
theorem Zlm {α:Type} {M:Model} {Q:α→Shared→Prop} {b:Bool} {x y:Sem α} (hb:b=true) (h:wpAny M A x Q E s):wpAny M A (if b=true then x else y) Q E s:=by rw [if_pos hb]; exact h
theorem wp_no {α:Type} {M:Model} {Q:α→Shared→Prop} {b:Bool} {x y:Sem α} (hb:b=false) (h:wpAny M A y Q E s):wpAny M A (if b=true then x else y) Q E s:=by rw [if_neg (by rw [hb]; simp)]; exact h
theorem RawD.mono {h h':Heap} (x:RawD h d es ep) (k:∀ o,h.get? d=some o→h'.get? d=some o):RawD h' d es ep:=by
 obtain ⟨o,a,b⟩:=x
 exact ⟨o,k o a,b⟩
theorem Zcr {h h':Heap} {I:Addr} {i n:Nat} (x:h.IsKeyIter I d i n ep) (k:∀ o,h.get? I=some o→h'.get? I=some o):h'.IsKeyIter I d i n ep:=by
 obtain ⟨o,a,b⟩:=x
 exact ⟨o,k o a,b⟩
theorem Zkf {S I:Addr} {res:Value} {R:Result→Shared→Prop} (hh:A.in1.handled=none) (n1:S≠I) (n2:S≠d) (n3:I≠d) (few:es.size≤sizeLine) :
  ∀ (k i:Nat) (s:Shared) (c:Nat),es.size - i=k→i≤es.size→s.heap.IsKeyIter I d i es.size ep→RawD s.heap d es ep→s.heap.get? S=some (seqObj "list" ((es.toList.take i).map (·.key)).toArray c) →
  (∀ (h':Heap) (c':Nat),h'.get? S=some (seqObj "list" (es.toList.map (·.key)).toArray c')→(∀ b o,b≠S→b≠I→s.heap.get? b=some o→h'.get? b=some o)→R (.ok (.ret res)) { s with heap:=h' }) →
  codeAny (model prog w) A (.builtin "list.extend.loop" ⟨[.ref S,.ref I,res],[]⟩) R s:=by
 intro k
 induction k with
 | zero =>
  intro i s c hk hi it rd hS hR
  have hin:i=es.size:=by omega
  subst hin
  refine codeAny_builtin F.entry_extend_loop ?_
  rw [Around.under_plainId F.plain_extend_loop _]
  show wpAny _ A.in1 (pyNext (.ref I) >>= _) _ _ s
  refine wpAny_bind (Zm2 hh it rd (Nat.le_refl _) fun h' eb=>wpAny_pure (hR h' c ?_ fun b o _ nb e=>eb b o nb e))
  have:=eb S _ n1 hS
  rwa [show es.toList.take es.size=es.toList from List.take_of_length_le (by simp)] at this
 | succ k ih =>
  intro i s c hk hi it rd hS hR
  have hlt:i < es.size:=by omega
  refine codeAny_builtin F.entry_extend_loop ?_
  rw [Around.under_plainId F.plain_extend_loop _]
  show wpAny _ A.in1 (pyNext (.ref I) >>= _) _ _ s
  have hx:es[i]?=some ⟨es[i].hash,es[i].key,es[i].val⟩:=Array.getElem?_eq_getElem hlt
  refine wpAny_bind (ZjK hh it rd hx fun h' it' sb=>?_)
  have hS':=(sb.2 S n1).trans hS
  have sz:((es.toList.take i).map (·.key)).toArray.size=i:=by simp; omega
  show wpAny _ A.in1 (updateSeq S (·.push es[i].key) >>= _) _ _ _
  refine wpAny_bind ?_
  have sb2:Heap.SameBut S h' (h'.update S (Obj.mapSeq (·.push es[i].key))):=Heap.SameBut.update ..
  have e1:(es.toList.take (i + 1)).map (·.key)=(es.toList.take i).map (·.key) ++ [es[i].key]:=by
   rw [List.take_succ,List.map_append]
   congr 1
   rw [Array.getElem?_toList,Array.getElem?_eq_getElem hlt]; rfl
  have hS2:(h'.update S (Obj.mapSeq (·.push es[i].key))).get? S=some (seqObj "list" ((es.toList.take (i + 1)).map (·.key)).toArray (if (((es.toList.take i).map (·.key)).toArray.push es[i].key).size == ((es.toList.take i).map (·.key)).toArray.size then c else c + 1)):=by
   rw [e1,← List.push_toArray]
   exact get?_update_seq hS' fun xs=>xs.push es[i].key
  refine wpAny_updateSeq hS' rfl (wpAny_pure ⟨plainId_quiet F.plain_extend_loop _,ih (i + 1) _ _ (by omega) hlt (Zcr it' fun o e=>sb2.extBut _ _ (Ne.symm n1) e) ((rd.mono fun o e=>(sb.2 d (Ne.symm n3)).trans e).mono fun o e=>sb2.extBut _ _ (Ne.symm n2) e) hS2 fun h'' c' q2 q3=>?_⟩)
   (by rw [sz]; omega) (by show (Array.push _ _).size≤sizeLine + 1; rw [Array.size_push,sz]; omega)
  exact hR h'' c' q2 fun b o nb ni e=>q3 b o nb ni (sb2.extBut _ _ nb ((sb.2 b ni).trans e))
theorem Ze1 {Q:List Value→Shared→Prop} (hh:A.in1.handled=none) (hd:(d == sysModules)=false) (hm:RawD s.heap d es ep) (few:es.size≤sizeLine)
  (h:∀ h':Heap,s.heap.objs.size≤h'.objs.size→(∀ b o,s.heap.get? b=some o→h'.get? b=some o)→Q (es.toList.map (·.key)) { s with heap:=h' }):wpAny (model prog w) A (collect (.ref d)) Q E s:=by
 obtain ⟨o,ho,hc,he⟩:=id hm
 have dl:=Heap.lt_size ho
 let S:=s.heap.objs.size
 let h1:=s.heap.push (seqObj "list" #[] 0)
 have z1:h1.objs.size=S + 1:=size_push' _ _
 have ty1:Shared.TypeIs { s with heap:=h1 } (.ref d) "dict" := ⟨o,Heap.get?_push_of_some _ ho,hc.1⟩
 let h2:=h1.push { cls:=.type "dict_keyiterator", data:=.fields #[.ref d,.int 0 0,.int es.size 0,.int ep 0] }
 have ty2:Shared.TypeIs { s with heap:=h2 } (.ref d) "dict" := ⟨o,Heap.get?_push_of_some _ (Heap.get?_push_of_some _ ho),hc.1⟩
 have nS:S≠d:=Nat.ne_of_gt dl
 have lS:h2.get? S=some (seqObj "list" #[] 0):=Heap.get?_push_of_some _ (Heap.get?_push_size _ rfl)
 have lI:h2.IsKeyIter h1.objs.size d 0 es.size ep:=⟨_,Heap.get?_push_size _ rfl,rfl,rfl⟩
 have nSI:S≠h1.objs.size:=by rw [z1]; exact Nat.ne_of_lt (Nat.lt_succ_self _)
 have nId:h1.objs.size≠d:=by rw [z1]; exact Nat.ne_of_gt (Nat.lt_succ_of_lt dl)
 unfold collect
 refine wpAny_bind (wpAny_runValue (codeAny_builtin F.entry_proto_collect ?_))
 rw [Around.under_plainId F.plain_proto_collect _]
 show wpAny _ A.in1 (newList [] >>= fun l=>again (.builtin "list.__iadd__" ⟨[l,.ref d],[]⟩)) _ _ s
 refine wpAny_bind (wpAny_newObj_type (wpAny_pure ⟨plainId_quiet F.plain_list_iadd _,codeAny_builtin F.entry_list_iadd ?_⟩))
 rw [Around.under_plainId F.plain_list_iadd _]
 show wpAny _ A.in1 (Builtin.List.listExtendWith (.ref S) (.ref d) (.ref S)) _ _ { s with heap:=h1 }
 unfold Builtin.List.listExtendWith
 refine wpAny_bind (wpAny_typeOf ty1 ?_)
 have t1:Builtin.List.listSameRef (.ref S) (.ref d)=false:=by simp [Builtin.List.listSameRef,nS]
 have t2:(Value.type "dict" == Value.type "list")=false:=by decide
 have t3:(Value.type "dict" == Value.type "tuple")=false:=by decide
 simp only [t1,t2,t3,Bool.or_false,Bool.false_eq_true,if_false]
 refine wpAny_bind (Zki (s:={ s with heap:=h1 }) hd (hm.mono fun o e=>Heap.get?_push_of_some _ e) (wpAny_bind (wpAny_holding ?_)))
 unfold Builtin.List.listLengthHint
 refine wpAny_bind (wpAny_specialOf (s:={ s with heap:=h2 }) (name:=Str.ofString "__len__") ty2 F.slot_dict_len.lookup ?_)
 generalize hid:("dict.__len__" : String)=nm
 wp_delta
 rw [show splitId nm=some ("dict", "__len__") from by subst hid; decide +kernel]
 subst hid
 refine wpAny_bind (wpAny_isInstance (b:=true) (s:={ s with heap:=h2 }) ty2 isSubtype_dict_dict ?_)
 refine wp_no (b := !true) rfl ?_
 refine Zlm (by decide) ?_
 refine wpAny_bind (wpAny_typeOf (s:={ s with heap:=h2 }) ty2 (wpAny_pure ?_))
 show wpAny _ A.in1 (rule "list.extend.makes-room" >>= fun _=>Builtin.List.listTouch (.ref S) >>= fun _=>again (.builtin "list.extend.loop" ⟨[.ref S,.ref h1.objs.size,.ref S],[]⟩)) _ _ { s with heap:=h2 }
 refine wpAny_bind (wpAny_rule (wpAny_bind ?_))
 show wpAny _ A.in1 (updateSeq S (·.push .none) >>= fun _=>updateSeq S (·.pop)) _ _ { s with heap:=h2 }
 let h3:=h2.update S (Obj.mapSeq (·.push Value.none))
 let h4:=h3.update S (Obj.mapSeq (·.pop))
 have l3:∃ c,h3.get? S=some (seqObj "list" #[Value.none] c):=⟨_,get?_update_seq lS (·.push Value.none)⟩
 obtain ⟨c3,l3⟩:=l3
 have l4:∃ c,h4.get? S=some (seqObj "list" #[] c):=⟨_,get?_update_seq l3 (·.pop)⟩
 obtain ⟨c4,l4⟩:=l4
 have oth:∀ b o,b≠S→h2.get? b=some o→h4.get? b=some o:=fun b o n e=>(Heap.SameBut.update h3 S _).extBut b o n ((Heap.SameBut.update h2 S _).extBut b o n e)
 refine wpAny_bind (wpAny_updateSeq (s:={ s with heap:=h2 }) lS rfl (wpAny_updateSeq (s:={ s with heap:=h3 }) l3 rfl ?_))
 refine wpAny_pure ⟨plainId_quiet F.plain_extend_loop _,Zkf (s:={ s with heap:=h4 }) (d:=d) (es:=es) (ep:=ep) hh nSI nS nId few es.size 0 c4 rfl (Nat.zero_le _) (Zcr lI fun o e=>oth _ o (Ne.symm nSI) e) (RawD.mono (RawD.mono hm fun o e=>Heap.get?_push_of_some _ (Heap.get?_push_of_some _ e)) fun o e=>oth d o (Ne.symm nS) e) l4 fun h5 c5 q1 q2=>?_⟩
 show wpAny _ A (load S >>= _) _ _ { s with heap:=h5 }
 refine wpAny_bind (wpAny_load (s:={ s with heap:=h5 }) q1 (wpAny_pure ?_))
 refine h h5 (Nat.le_of_lt (Heap.lt_size q1)) fun b o e=>?_
 have lt:=Heap.lt_size e
 have n1:b≠S:=Nat.ne_of_lt lt
 exact q2 b o n1 (by rw [z1]; exact Nat.ne_of_lt (Nat.lt_succ_of_lt lt)) (oth b o n1 (Heap.get?_push_of_some _ (Heap.get?_push_of_some _ e)))
end
end L3
namespace L2
open PySem PySem.Spec PyProof.Rows PySem.W
def lexI:List Int→List Int→Bool
 | [],[]=>false
 | [],_ :: _=>true
 | _ :: _,[]=>false
 | a :: l,b :: m=>if a=b then lexI l m else decide (a < b)
theorem ZaH:∀ l:List Int,lexI l l=false
 | []=>rfl
 | a :: l=>by rw [lexI,if_pos rfl]; exact ZaH l
theorem ZbQ:∀ {l m n:List Int},lexI l m=true→lexI m n=true→lexI l n=true
 | [],[],_,h,_=>by simp [lexI] at h
 | [],_ :: _,[],_,h=>by simp [lexI] at h
 | [],_ :: _,_ :: _,_,_=>rfl
 | _ :: _,[],_,h,_=>by simp [lexI] at h
 | _ :: _,_ :: _,[],_,h=>by simp [lexI] at h
 | a :: l,b :: m,c :: n,h1,h2=>by
  rw [lexI] at h1 h2 ⊢
  by_cases e1:a=b
  ·subst e1
   rw [if_pos rfl] at h1
   by_cases e2:a=c
   ·rw [if_pos e2] at h2 ⊢; exact ZbQ h1 h2
   ·rw [if_neg e2] at h2 ⊢; exact h2
  ·rw [if_neg e1] at h1
   have h1:=of_decide_eq_true h1
   by_cases e2:b=c
   ·subst e2
    rw [if_neg e1]; exact decide_eq_true h1
   ·rw [if_neg e2] at h2
    have h2:=of_decide_eq_true h2
    rw [if_neg (by omega)]; exact decide_eq_true (by omega)
theorem ZbT:∀ {l m:List Int},l≠m→lexI l m=true∨lexI m l=true
 | [],[],h=>absurd rfl h
 | [],_ :: _,_=>.inl rfl
 | _ :: _,[],_=>.inr rfl
 | a :: l,b :: m,h=>by
  rw [lexI,lexI]
  by_cases e:a=b
  ·subst e
   rw [if_pos rfl,if_pos rfl]; exact ZbT fun z=>h (by rw [z])
  ·rw [if_neg e,if_neg (Ne.symm e)]
   rcases Int.lt_or_gt_of_ne e with z | z
   ·exact .inl (decide_eq_true z)
   ·exact .inr (decide_eq_true z)
def rnk (ks:List (List Int)) (i:Nat):Int:=((ks.filter fun k=>lexI k (ks.getD i [])).length:Nat)
theorem Zb2 {α:Type} {p q:α→Bool} (h:∀ x,p x=true→q x=true):∀ l:List α,(l.filter p).length≤(l.filter q).length
 | []=>Nat.le_refl _
 | a :: l=>by
  have ih:=Zb2 h l
  rw [List.filter_cons,List.filter_cons]
  by_cases e:p a=true
  ·rw [if_pos e,if_pos (h a e)]; simpa using ih
  ·rw [if_neg e]
   by_cases e2:q a=true
   ·rw [if_pos e2]; simp only [List.length_cons]; omega
   ·rw [if_neg e2]; exact ih
theorem ZcO {α:Type} {p q:α→Bool} (h:∀ x,p x=true→q x=true) {a:α} (ha:p a=false) (hb:q a=true):∀ {l:List α},a∈l→(l.filter p).length < (l.filter q).length
 | [],m=>by simp at m
 | b :: l,m=>by
  have ih:=Zb2 h l
  rw [List.filter_cons,List.filter_cons]
  rcases List.mem_cons.mp m with rfl | m
  ·rw [if_neg (by rw [ha]; simp),if_pos hb]; simp only [List.length_cons]; omega
  ·have ih:=ZcO h ha hb m
   by_cases e:p b=true
   ·rw [if_pos e,if_pos (h b e)]; simpa using ih
   ·rw [if_neg e]
    by_cases e2:q b=true
    ·rw [if_pos e2]; simp only [List.length_cons]; omega
    ·rw [if_neg e2]; exact ih
theorem ZhL {ks:List (List Int)} {i j:Nat} (hi:i < ks.length) (hj:j < ks.length):decide (rnk ks i < rnk ks j)=lexI (ks.getD i []) (ks.getD j []):=by
 have mi:ks.getD i []∈ks:=by simp [hi]
 have mj:ks.getD j []∈ks:=by simp [hj]
 generalize hx:ks.getD i []=x at *
 generalize hy:ks.getD j []=y at *
 unfold rnk
 rw [hx,hy]
 cases e:lexI x y with
 | true =>
  refine decide_eq_true ?_
  have:=ZcO (p:=fun k=>lexI k x) (q:=fun k=>lexI k y) (fun k h=>ZbQ h e) (ZaH x) e mi
  omega
 | false =>
  refine decide_eq_false ?_
  by_cases z:x=y
  ·subst z; omega
  ·have h2:=(ZbT z).resolve_left (by rw [e]; simp)
   have:=Zb2 (p:=fun k=>lexI k y) (q:=fun k=>lexI k x) (fun k h=>ZbQ h h2) ks
   omega
section
variable {prog:Program} {w:World} {A:Around} {E:Value→Shared→Prop} {s:Shared}
theorem ZaY {a:Int} {v:Value} (h:(intKind prog w).is a v=true):∃ t,v=.int a t:=by
 cases v <;> simp [intKind,Value.isInt] at h
 subst h; exact ⟨_,rfl⟩
theorem Znd {b:Bool} {a c:Int} {t u:Tok} {Q:Bool→Shared→Prop} (q:Q (decide (a < c)) s):wpAny (model prog w) A (oneLt' b (.int a t) (.int c u)) Q E s:=by
 cases b with
 | true=>exact oneLt_int q
 | false=>exact kat_one _ _ (lt_int q)
theorem ZgF {b fin:Bool} {Q:Bool→Shared→Prop}:∀ {xs ys:List Value} {l m:List Int} (i:Nat),ItemsAre (intKind prog w) l xs→ItemsAre (intKind prog w) m ys→l.length=m.length→Q (lexI l m) s→fin=false→KatLex prog w A b fin Q (xs.zip ys) i s
 | _,_,_,_,_,.nil,.nil,_,q,f=>by
  show Q fin s
  rw [f]; exact q
 | _,_,_,_,_,.nil,.cons _ _,h,_,_=>by simp at h
 | _,_,_,_,_,.cons _ _,.nil,h,_,_=>by simp at h
 | _,_,a :: l,c :: m,i,.cons h1 r1,.cons h2 r2,h,q,f=>by
  obtain ⟨t,rfl⟩:=ZaY h1
  obtain ⟨u,rfl⟩:=ZaY h2
  rw [List.zip_cons_cons]
  refine kat_cons (wpAny_eqBool_int ?_)
  rw [lexI] at q
  by_cases e:a=c
  ·rw [if_pos e] at q
   rw [show (a == c)=true from by simp [e]]
   exact kat_yes (ZgF (i + 1) r1 r2 (by simpa using h) q f)
  ·rw [if_neg e] at q
   rw [show (a == c)=false from by simp [e]]
   exact kat_no (Znd q)
abbrev IsT (prog:Program) (w:World) (h:Heap) (l:List Int) (a:Addr):Prop:=IsTupleKey (intKind prog w) h l a
theorem IsT.mono {h h':Heap} {l:List Int} {a:Addr} (x:IsT prog w h l a) (k:∀ o,h.get? a=some o→h'.get? a=some o):IsT prog w h' l a:=by
 obtain ⟨o,its,n,h1,h2⟩:=x
 exact ⟨o,its,n,k o h1,h2⟩
def Pts {α:Type} (P:α→Addr→Prop):List α→List Value→Prop
 | [],[]=>True
 | l :: ls,v :: vs=>(∃ a,v=.ref a∧P l a)∧Pts P ls vs
 | _,_=>False
theorem Pts.len {α:Type} {P:α→Addr→Prop}:∀ {ls:List α} {vs:List Value},Pts P ls vs→vs.length=ls.length
 | [],[],_=>rfl
 | [],_ :: _,h=>h.elim
 | _ :: _,[],h=>h.elim
 | _ :: _,_ :: _,h=>by simp [h.2.len]
theorem Pts.get {α:Type} {P:α→Addr→Prop}:∀ {ls:List α} {vs:List Value},Pts P ls vs→∀ {i:Nat} (hi:i < ls.length),∃ a,vs.getD i Value.none=.ref a∧P ls[i] a
 | [],[],_,i,hi=>by simp at hi
 | [],_ :: _,h,_,_=>h.elim
 | _ :: _,[],h,_,_=>h.elim
 | l :: ls,v :: vs,h,0,_=>by obtain ⟨⟨a,rfl,p⟩,_⟩:=h; exact ⟨a,rfl,p⟩
 | l :: ls,v :: vs,h,i + 1,hi=>by
  obtain ⟨a,e,p⟩:=h.2.get (i:=i) (by simpa using hi)
  exact ⟨a,by simpa using e,by simpa using p⟩
theorem ZeC {M:Model} {h:Heap} {a:Int} {t:Tok}:Looks M h (typeOf (.int a t)) (.type "int"):=Looks.of_pure rfl
theorem ZkE {ls:List (List Int)} {vs:List Value} {n:Nat} (hn:1≤n) (hl:∀ l∈ls,l.length=n) (p:Pts (IsT prog w s.heap) ls vs):Rkd prog w A s vs (tuples' true) (rnk ls) where
 kd:=fun h2 h' k E Q q=>by
  have fs:∀ {ls:List (List Int)} {vs:List Value},(∀ l∈ls,l.length=n)→Pts (IsT prog w s.heap) ls vs→∃ fs:List Value,KatTups h' vs fs∧fs.length=vs.length∧∀ f∈fs,∃ a t,f=.int a t:=by
   intro ls vs
   induction ls generalizing vs with
   | nil=>intro _ p; cases vs with | nil=>exact ⟨[],trivial,rfl,by simp⟩ | cons _ _=>exact p.elim
   | cons l ls ih =>
    intro hl p
    cases vs with
    | nil=>exact p.elim
    | cons v vs =>
     obtain ⟨⟨a,rfl,o,its,m,h1,h2,h3,h4⟩,p⟩:=p
     obtain ⟨fs,f1,f2,f3⟩:=ih (fun l' h=>hl l' (List.mem_cons_of_mem _ h)) p
     have l1:=hl l List.mem_cons_self
     cases hi:its.toList with
     | nil=>rw [hi] at h4; cases h4; simp at l1; omega
     | cons f r =>
      rw [hi] at h4
      cases h4 with
      | cons q1 q2 =>
       obtain ⟨t,rfl⟩:=ZaY q1
       exact ⟨_ :: fs,KatTups.cons (k _ _ h1) h2 h3 (by rw [← Array.getElem?_toList,hi]; rfl) f1,by simp [f2],fun g hg=>(List.mem_cons.mp hg).elim (fun e=>⟨_,_,e⟩) (f3 g)⟩
  obtain ⟨fs,f1,f2,f3⟩:=fs hl p
  exact kat_kind (s:={ s with heap:=h' }) (T:=.type "int") f1 (by omega) (fun v hv=>by obtain ⟨a,t,rfl⟩:=f3 v hv; exact ZeC) (by decide) (by exact q)
 lt:=fun h' k i j C hi hj c=>by
  have e:=p.len
  obtain ⟨a,ea,o,its,m,h1,h2,h3,h4⟩:=p.get (i:=i) (by omega)
  have gi:ls.getD i []=ls[i]:=by simp [show i < ls.length by omega]
  have gj:ls.getD j []=ls[j]:=by simp [show j < ls.length by omega]
  obtain ⟨a',ea',o',its',m',h1',h2',h3',h4'⟩:=p.get (i:=j) (by omega)
  unfold kas_ask
  rw [ea,ea']
  have l1:(ls[i]).length=n:=hl _ (List.getElem_mem _)
  have l2:(ls[j]).length=n:=hl _ (List.getElem_mem _)
  have z1:its.size=n:=by rw [← Array.length_toList,← h4.length,l1]
  have z2:its'.size=n:=by rw [← Array.length_toList,← h4'.length,l2]
  refine kat_lt (s:={ s with heap:=h' }) (k _ _ h1) h3 (k _ _ h1') h3' (ZgF 0 h4 h4' (l1.trans l2.symm) ?_ (by rw [z1,z2]; simp))
  rw [← gi,← gj,← ZhL (by omega) (by omega)]; exact c
end
end L2
namespace L2
open PySem PySem.Spec PyProof.Rows PySem.W
open PySem.SeqAt
open PySem.AutoSeq1 (wpAny_loadPart')
open PySem.MeetsSeq PySem.MeetsSeq2 PySem.MeetsSeq3
theorem Zbh:∀ {vs:List Value} {ns:List Int},IntsAre vs ns→vs.length=ns.length
 | _,_,.nil=>rfl
 | _,_,.cons _ _ h=>by simp [Zbh h]
theorem Zfw (l b:Addr) (items items2:Array Value) (n n2:Nat) (dd dd2:Option Addr) (sl sl2:Array (Option Value)) (ns ms:List Int) (hi:IntsAre items.toList ns) (hj:IntsAre items2.toList ms) :
  Meets (Builtin.«tuple.__lt__» ⟨[.ref l,.ref b],[]⟩)
   (fun _ R s=>s.heap.get? l=some ⟨.type "tuple", dd,.seq items n,sl⟩∧s.heap.get? b=some ⟨.type "tuple", dd2,.seq items2 n2,sl2⟩∧R (.ok (.ret (.bool (lexI ns ms)))) s) :=
 .of_wp fun prog w A R s h=>by
  obtain ⟨hp,g,d,tk,os⟩:=s
  obtain ⟨hl,hb,h⟩:=h
  have f2:=AutoSeq1.sub_tuple_tuple
  wp_walk using wpAny_loadPart' hl,wpAny_loadPart' hb,wpAny_forIn_list _ (fun rest b s'=>b.1=none∧s'=⟨hp,g,d,tk,os⟩∧∃ (vs ws:List Value) (ns' ms':List Int),rest=vs.zip ws∧IntsAre vs ns'∧IntsAre ws ms'∧lexI ns' ms'=lexI ns ms∧ns.length + ms'.length=ms.length + ns'.length) _
  case turn =>
   rintro ⟨y,x⟩ rest b s' ⟨hb',rfl,vs,ws,ns',ms',hz,hv,hw,hx,hc⟩
   cases hv with
   | nil=>rw [List.zip_nil_left] at hz; cases hz
   | cons a t hv =>
    cases hw with
    | nil=>rw [List.zip_nil_right] at hz; cases hz
    | cons c u hw =>
     rw [List.zip_cons_cons] at hz
     injection hz with h1 h2
     injection h1 with h3 h4
     subst h3 h4
     refine wpAny_bind (wpAny_eqBool_int ?_)
     rw [lexI] at hx
     by_cases e:a=c
     ·rw [show (a == c)=true from by simp [e]]
      rw [if_pos e] at hx
      wp_walk
      exact ⟨rfl,rfl,_,_,_,_,h2,hv,hw,hx,by simp only [List.length_cons] at hc; omega⟩
     ·rw [show (a == c)=false from by simp [e]]
      rw [if_neg e] at hx
      have hri:∀ (E:Value→Shared→Prop) (Q:Value→Shared→Prop),(Q (.bool (decide (a < c))) ⟨hp,g,d,tk,os⟩)→wpAny (model prog w) A.in1 (richCompare .Lt (.int a t) (.int c u)) Q E ⟨hp,g,d,tk,os⟩:=fun E Q q=>PyProof.Rows.lt_int q
      wp_walk using hri
      rw [hx]
      exact ⟨_,rfl,h⟩
  case fin =>
   rintro ⟨b1,b2⟩ s' ⟨hb',rfl,vs,ws,ns',ms',hz,hv,hw,hx,hc⟩
   simp only at hb'
   subst hb'
   have l1:=Zbh hi
   have l2:=Zbh hj
   have e:lexI ns ms=decide (items.size < items2.size):=by
    rw [← hx]
    cases hv with
    | nil =>
     cases hw with
     | nil=>simp at hc; rw [lexI]; symm; refine decide_eq_false ?_; rw [← Array.length_toList,← Array.length_toList,l1,l2]; omega
     | cons c u hw=>rw [lexI]; symm; refine decide_eq_true ?_; simp only [List.length_cons,List.length_nil] at hc; rw [← Array.length_toList,← Array.length_toList,l1,l2]; omega
    | cons a t hv =>
     cases hw with
     | nil=>rw [lexI]; symm; refine decide_eq_false ?_; simp only [List.length_cons,List.length_nil] at hc; rw [← Array.length_toList,← Array.length_toList,l1,l2]; omega
     | cons c u hw=>rw [List.zip_cons_cons] at hz; cases hz
   rw [e] at h
   wp_walk
   exact ⟨_,rfl,h⟩
  case h =>
   exact ⟨rfl,rfl,items.toList,items2.toList,ns,ms,rfl,hi,hj,rfl,by omega⟩
section
variable {prog:Program} {w:World} {A:Around} {E:Value→Shared→Prop} {s:Shared}
theorem IsT.ints {h:Heap} {l:List Int} {a:Addr} (x:IsT prog w h l a):∃ o its n,h.get? a=some o∧o.cls=.type "tuple" ∧ o.data=.seq its n∧IntsAre its.toList l:=by
 obtain ⟨o,its,n,h1,h2,h3,h4⟩:=x
 refine ⟨o,its,n,h1,h2,h3,?_⟩
 generalize its.toList=vs at h4
 clear h3
 induction h4 with
 | nil=>exact .nil
 | cons q _ ih=>obtain ⟨t,rfl⟩:=ZaY q; exact .cons _ _ ih
theorem lt_tup {l m:List Int} {a b:Addr} {Q:Value→Shared→Prop} (hl:IsT prog w s.heap l a) (hb:IsT prog w s.heap m b) (hu:A.units < cLine) (h:Q (.bool (lexI l m)) s):wpAny (model prog w) A (compareOp .Lt (.ref a) (.ref b)) Q E s:=by
 obtain ⟨⟨c1,d1,t1,s1⟩,i1,n,g1,k1,e1,r1⟩:=hl.ints
 obtain ⟨⟨c2,d2,t2,s2⟩,i2,n2,g2,k2,e2,r2⟩:=hb.ints
 simp only at k1 e1 k2 e2
 subst k1 e1 k2 e2
 exact richCompare_meets_room (op:=.Lt) ⟨_,g1,rfl⟩ ⟨_,g2,rfl⟩ PySem.F.slot_tuple_lt PySem.F.entry_tuple_lt (PySem.F.args_tuple_lt_2 _ _) (Zfw a b i1 i2 n n2 d1 d2 s1 s2 l m r1 r2)
  ⟨g1,g2,show Value.bool (lexI l m)≠Value.notImplemented∧Q (.bool (lexI l m)) s from ⟨(fun x=>nomatch x),h⟩⟩ hu
theorem mem_ix {ls:List (List (List Int))} (nd:(ls.map fun k=>k.headD []).Nodup) {i j:Nat} (hi:i < ls.length) (hj:j < ls.length) (e:ls[i].headD []=ls[j].headD []):i=j:=by
 have pw:=List.pairwise_iff_getElem.mp nd
 rcases Nat.lt_trichotomy i j with h | h | h
 ·exact absurd (by simpa using e) (pw i j (by simpa using hi) (by simpa using hj) h)
 ·exact h
 ·exact absurd (by simpa using e.symm) (pw j i (by simpa using hj) (by simpa using hi) h)
open L3 in
theorem Zkr {ls:List (List (List Int))} {vs:List Value} (hu:A.units + 3 < cLine) (hk:∀ k∈ls,∃ l m,k=[l,m]) (nd:(ls.map fun k=>k.headD []).Nodup) (p:Pts (IsKey2 prog w s.heap) ls vs):Rkd prog w A s vs (tuples' false) (rnk (ls.map fun k=>k.headD [])) where
 kd:=fun h2 h' k E Q q=>by
  have fs:∀ {ls:List (List (List Int))} {vs:List Value},(∀ k∈ls,∃ l m,k=[l,m])→Pts (IsKey2 prog w s.heap) ls vs→∃ fs:List Value,KatTups h' vs fs∧fs.length=vs.length∧∀ f∈fs,∃ a l,f=.ref a∧IsT prog w s.heap l a:=by
   intro ls vs
   induction ls generalizing vs with
   | nil=>intro _ p; cases vs with | nil=>exact ⟨[],trivial,rfl,by simp⟩ | cons _ _=>exact p.elim
   | cons l ls ih =>
    intro hl p
    cases vs with
    | nil=>exact p.elim
    | cons v vs =>
     obtain ⟨⟨a,rfl,o,its,m,h1,h2,h3,h4⟩,p⟩:=p
     obtain ⟨fs,f1,f2,f3⟩:=ih (fun l' h=>hl l' (List.mem_cons_of_mem _ h)) p
     obtain ⟨x,y,rfl⟩:=hl l List.mem_cons_self
     cases hi:its.toList with
     | nil=>rw [hi] at h4; cases h4
     | cons f r =>
      rw [hi] at h4
      cases h4 with
      | cons q1 q2=>exact ⟨_ :: fs,KatTups.cons (k _ _ h1) h2 h3 (by rw [← Array.getElem?_toList,hi]; rfl) f1,by simp [f2],fun g hg=>(List.mem_cons.mp hg).elim (fun e=>⟨_,_,e,q1⟩) (f3 g)⟩
  obtain ⟨fs,f1,f2,f3⟩:=fs hk p
  refine kat_kind (s:={ s with heap:=h' }) (T:=.type "tuple") f1 (by omega) (fun v hv=>?_) (by decide) (by exact q)
  obtain ⟨a,l,rfl,o,its,m,h1,h2,_⟩:=f3 v hv
  rw [← h2]
  exact (Looks.ld (k _ _ h1)).andThen .now
 lt:=fun h' k i j C hi hj c=>by
  have e:=p.len
  have hi':i < ls.length:=by omega
  have hj':j < ls.length:=by omega
  obtain ⟨a,ea,o,its,m,h1,h2,h3,h4⟩:=p.get hi'
  obtain ⟨a',ea',o',its',m',h1',h2',h3',h4'⟩:=p.get hj'
  obtain ⟨x,y,exy⟩:=hk _ (List.getElem_mem hi')
  obtain ⟨x',y',exy'⟩:=hk _ (List.getElem_mem hj')
  unfold kas_ask
  rw [ea,ea']
  have gi:(ls.map fun k=>k.headD []).getD i []=x:=by simp [hi',exy]
  have gj:(ls.map fun k=>k.headD []).getD j []=x':=by simp [hj',exy']
  rw [ZhL (by simpa using hi') (by simpa using hj'),gi,gj] at c
  have ix:=mem_ix nd hi' hj'
  rw [exy] at h4 ix
  rw [exy'] at h4' ix
  cases ht:its.toList with
  | nil=>rw [ht] at h4; cases h4
  | cons f r =>
   cases ht':its'.toList with
   | nil=>rw [ht'] at h4'; cases h4'
   | cons f' r' =>
    rw [ht] at h4
    rw [ht'] at h4'
    cases h4 with
    | cons k1 r1 =>
     cases h4' with
     | cons k1' r1' =>
      cases r1 with
      | cons k2 r2 =>
       cases r1' with
       | cons k2' r2' =>
        cases r2
        cases r2'
        have up:∀ {l:List Int} {b:Addr},IsT prog w s.heap l b→IsT prog w h' l b:=fun z=>z.mono fun o q=>k _ o q
        refine kat_lt (s:={ s with heap:=h' }) (k _ _ h1) h3 (k _ _ h1') h3' ?_
        rw [ht,ht']
        refine kat_cons (wpAny_eqBool_tuple (s:={ s with heap:=h' }) (by omega) (up k1) (up k1') ?_)
        by_cases ex:x=x'
        ·have eij:=ix ex
         subst eij
         rw [exy] at exy'
         cases exy'
         rw [decide_eq_true rfl]
         refine kat_yes (kat_cons (wpAny_eqBool_tuple (s:={ s with heap:=h' }) (by omega) (up k2) (up k2') ?_))
         rw [decide_eq_true rfl]
         refine kat_yes (kat_nil ?_)
         rw [ZaH] at c
         have z1:its.size=2:=by rw [← Array.length_toList,ht]; rfl
         have z2:its'.size=2:=by rw [← Array.length_toList,ht']; rfl
         rw [z1,z2]
         exact c
        ·rw [decide_eq_false ex]
         exact kat_no (kat_one _ _ (lt_tup (s:={ s with heap:=h' }) (up k1) (up k1') (by omega) c))
end
end L2
namespace L3
open PySem PySem.Spec PyProof.Rows PySem.W L2
def KyOk (b:Bool) (ks:List (List (List Int))):Prop:=ks.length < 64∧if b=true then (∀ k∈ks,∃ l m,k=[l,m])∧(ks.map fun k=>k.headD []).Nodup else ∃ n,1≤n∧∀ k∈ks,∃ l,k=[l]∧l.length=n
def Zb6 (k k':List (List Int)):Prop:=lexI (k'.headD []) (k.headD [])=false
section
variable {P:Program} {w:World} {A:Around} {s:Shared} {H:Hp} {b:Bool}
theorem ZaD {α:Type} {p:α→Addr→Prop}:∀ {ks:List α} {as:List Addr},Paired p ks as→as.length=ks.length
 | [],[],.nil=>rfl
 | _ :: _,_ :: _,.cons _ q=>by simp [ZaD q]
theorem Zcg {α:Type} {p:α→Addr→Prop}:∀ {ks:List α} {as:List Addr},Paired p ks as→∀ {i:Nat} {k:α},ks[i]?=some k→∃ a,as[i]?=some a∧p k a
 | [],[],.nil,i,k,h=>by simp at h
 | _ :: _,_ :: _,.cons x q,0,k,h=>by simp at h; subst h; exact ⟨_,rfl,x⟩
 | _ :: _,_ :: _,.cons x q,i + 1,k,h=>by
  obtain ⟨a,h1,h2⟩:=Zcg q (i:=i) (k:=k) (by simpa using h)
  exact ⟨a,by simpa using h1,h2⟩
theorem Zlw {α:Type} {p p':α→Addr→Prop} (f:∀ k a,p k a→p' k a):∀ {ks:List α} {as:List Addr},Paired p ks as→Pts p' ks (as.map Value.ref)
 | [],[],.nil=>trivial
 | _ :: _,_ :: _,.cons x q=>⟨⟨_,rfl,f _ _ x⟩,Zlw f q⟩
theorem Zgd (ok:HOk P w H s.heap):∀ {ks:List (List (List Int))} {as:List Addr},Paired (KeyAt H false) ks as→Pts (IsT P w s.heap) (ks.map fun k=>k.headD []) (as.map Value.ref)
 | [],[],.nil=>trivial
 | _ :: _,_ :: _,.cons ⟨l,e,x⟩ q=>⟨⟨_,rfl,by subst e; exact Zdc ok x⟩,Zgd ok q⟩
theorem Zj3 (hu:A.units + 3 < cLine) (ok:HOk P w H s.heap) {ks:List (List (List Int))} {as:List Addr} (kk:KyOk b ks) (p:Paired (KeyAt H b) ks as):Rkd P w A s (as.map Value.ref) (tuples' (!b)) (rnk (ks.map fun k=>k.headD [])):=by
 cases b with
 | false =>
  obtain ⟨_,h⟩:=kk
  rw [if_neg (by simp)] at h
  obtain ⟨n,hn,hk⟩:=h
  refine ZkE hn (fun l hl=>?_) (Zgd ok p)
  obtain ⟨k,m,rfl⟩:=List.mem_map.mp hl
  obtain ⟨l,rfl,h⟩:=hk k m
  exact h
 | true =>
  obtain ⟨_,h⟩:=kk
  rw [if_pos rfl] at h
  exact Zkr hu h.1 h.2 (Zlw (fun k a x=>KeyAt.is (b:=true) x ok) p)
theorem perm_map_get {α:Type} (l:List α) (z:α) {p:Array Nat} (pp:PP l.length p):(p.toList.map fun i=>l.getD i z).Perm l:=by
 have h1:p.toList.Perm (List.range l.length):=by have:=pp.toList; simpa using this
 refine (h1.map _).trans (List.Perm.of_eq ?_)
 apply List.ext_getElem
 ·simp
 ·intro i a c; simp [c]
theorem ZjI {l:List (List (List Int))} {p:Array Nat} (pp:PP l.length p) (ic:Inc (rnk (l.map fun k=>k.headD [])) p l.length):(p.toList.map fun i=>l.getD i []).Pairwise Zb6:=by
 rw [List.pairwise_iff_getElem]
 intro i j hi hj hij
 have sz:=pp.sz
 rw [List.length_map,Array.length_toList] at hi hj
 have h:=ic i j (Nat.le_of_lt hij) (by omega)
 have gi:=pp.below (k:=i) (by omega)
 have gj:=pp.below (k:=j) (by omega)
 have ei:p.getD i 0=p[i]:=by simp [Array.getD,hi]
 have ej:p.getD j 0=p[j]:=by simp [Array.getD,hj]
 have h2:=ZhL (ks:=l.map fun k=>k.headD []) (i:=p.getD j 0) (j:=p.getD i 0) (by simpa using gj) (by simpa using gi)
 rw [decide_eq_false (by unfold rk at h; omega)] at h2
 rw [ei] at gi h2
 rw [ej] at gj h2
 simp only [List.getElem_map,Array.getElem_toList,Zb6]
 simpa [gi,gj] using h2.symm
end
section
variable {X:Cx}
theorem Zdg:∀ {as:List Addr} {us:List Value},Vals (as.map V.ref) us→us=as.map Value.ref
 | [],_,r=>by rw [List.map_nil] at r; cases r; rfl
 | a :: as,_,r=>by
  rw [List.map_cons] at r
  cases r with
  | cons h t=>cases (show _=Value.ref a from h); rw [Zdg t]; rfl
theorem ZeJ:∀ as:List Addr,Vals (as.map V.ref) (as.map Value.ref)
 | []=>.nil
 | a :: as=>.cons rfl (ZeJ as)
theorem Zfp (as:List Addr) {p:Array Nat} (pp:PP as.length p):ZaI (as.map Value.ref) p=(p.toList.map fun i=>as.getD i 0).map Value.ref:=by
 unfold ZaI
 rw [List.map_map]
 refine List.map_congr_left fun i hi=>?_
 have hi:i < as.length:=by
  have:=pp.toList.mem_iff.mp hi
  simpa using this
 simp [hi]
theorem ZcG {pins:List (Addr×Obj)} {σ:L2.St} {H:Hp} {s:Shared} {b:Bool} {as:List Addr} {ks:List (List (List Int))} {v:Value} {Q:VK} (hu:X.A.units + 64 < cLine) (I:Inv X pins σ H s) (kk:KyOk b ks) (p:Paired (KeyAt H b) ks as)
  (col:∀ (E':Value→Shared→Prop) (Q':List Value→Shared→Prop),(∀ h':Heap,s.heap.objs.size≤h'.objs.size→(∀ b o,s.heap.get? b=some o→h'.get? b=some o)→Q' (as.map Value.ref) { s with heap:=h' })→wpAny (model X.prog X.w) X.A.in1 (collect v) Q' E' s)
  (q:∀ p:Array Nat,PP as.length p→(p.toList.map fun i=>ks.getD i []).Perm ks→(p.toList.map fun i=>ks.getD i []).Pairwise Zb6→∀ l,H l=none→Q (.ref l) (upd H l (.lst ((p.toList.map fun i=>as.getD i 0).map V.ref)))) :
  wpAny (model X.prog X.w) X.A (call (.builtin "sorted") [v]) (EP X pins σ Q) X.xe s:=by
 have el:=ZaD p
 have l64:=kk.1
 refine Zdv (vs:=as.map Value.ref) (by rw [List.length_map]; omega) col (Zj3 (show X.A.in1.in1.units + 3 < cLine from ?_) I.hok kk p) fun pm h' l e pp ic lo kp he=>?_
 ·show X.A.units + 1 + 1 + 3 < cLine
  omega
 ·rw [List.length_map] at pp ic
  rw [Zfp as pp] at he
  have pk:PP ks.length pm:=by rw [← el]; exact pp
  refine ⟨.ref l,_,I.laid (t':=s.toks) kp lo (show ObjOk X.prog X.w _ _ _ (.lst ((pm.toList.map fun i=>as.getD i 0).map V.ref)) from ⟨by rw [List.length_map,List.length_map,Array.length_toList,pp.sz,sizeLine_eq]; omega,_,e,ZeJ _,he⟩),rfl,q pm pp (perm_map_get ks [] pk) (ZjI pk (by rw [← el]; exact ic)) l (I.hok.fresh lo)⟩
theorem ZcR {b:Bool}:∀ {ks:List (List (List Int))} {as:List Addr} {us:List Value},as.length=ks.length→us.length=ks.length→(entK b ks as us).map (·.key)=as.map Value.ref
 | [],[],_,_,_=>by simp [entK]
 | [],_ :: _,_,h,_=>by simp at h
 | _ :: _,[],_,h,_=>by simp at h
 | _ :: _,_ :: _,[],_,h=>by simp at h
 | k :: ks,a :: as,u :: us,h1,h2=>by rw [entK,List.map_cons,List.map_cons,ZcR (by simpa using h1) (by simpa using h2)]
theorem Zfn (hc:X.calm=true) (hu:X.A.units + 64 < cLine) (b:Bool):ZeK X (.builtin "sorted") (fun xs H Q=>∃ (a:Addr) (ep:Nat) (ks:List (List (List Int))) (as:List Addr) (vs:List V),xs=[.ref a]∧DcAt H b a ep ks as vs∧KyOk b ks ∧
  ∀ p:Array Nat,PP as.length p→(p.toList.map fun i=>ks.getD i []).Perm ks→(p.toList.map fun i=>ks.getD i []).Pairwise Zb6→∀ l,H l=none→Q (.ref l) (upd H l (.lst ((p.toList.map fun i=>as.getD i 0).map V.ref)))):=by
 intro pins s σ H xs us Q I r h
 obtain ⟨a,ep,ks,as,vs,rfl,dc,kk,q⟩:=h
 obtain ⟨u,rfl,rx⟩:=ZeQ r
 cases rx
 obtain ⟨us,es,rd,el,l1,l2,l3,_,hs⟩:=Ze3 I.hok dc.h
 refine ZcG hu I kk dc.k (fun E' Q' hq=>?_) q
 have ek:es.toList.map (·.key)=as.map Value.ref:=by rw [el]; exact ZcR l1 l2
 have k64:=kk.1
 rw [← ek] at hq
 exact Ze1 (show X.A.in1.in1.handled=none from I.ok.hd hc) hs rd (by rw [l3,sizeLine_eq]; omega) hq
theorem ZfI (hu:X.A.units + 64 < cLine) (b:Bool):ZeK X (.builtin "sorted") (fun xs H Q=>∃ (a:Addr) (ks:List (List (List Int))) (as:List Addr),xs=[.ref a]∧H a=some (.lst (as.map V.ref))∧Paired (KeyAt H b) ks as∧KyOk b ks ∧
  ∀ p:Array Nat,PP as.length p→(p.toList.map fun i=>ks.getD i []).Perm ks→(p.toList.map fun i=>ks.getD i []).Pairwise Zb6→∀ l,H l=none→Q (.ref l) (upd H l (.lst ((p.toList.map fun i=>as.getD i 0).map V.ref)))):=by
 intro pins s σ H xs us Q I r h
 obtain ⟨a,ks,as,rfl,ha,pr,kk,q⟩:=h
 obtain ⟨u,rfl,rx⟩:=ZeQ r
 cases rx
 obtain ⟨its,rv,pl,hz⟩:=I.list (SqL.of ha)
 have e:=Zdg rv
 subst e
 have k64:=kk.1
 have el:=ZaD pr
 exact ZcG hu I kk pr (fun E' Q' hq=>Zfh pl.isList (by rw [List.length_map,sizeLine_eq]; omega) hq) q
end
section
variable {X:Cx} {e:Expr} {u:UE} {p pos:Pos}
def uSortD (b:Bool) (u:UE):UL:=fun ρ k=>u ρ fun x=>∃ ks ds,x=.dct b ks ds∧KyOk b ks∧∀ ks',List.Perm ks' ks→List.Pairwise Zb6 ks'→k (ks'.map (keyD b))
def uSortK (b:Bool) (u:UE):UL:=fun ρ k=>u ρ fun x=>∃ ks,x=.lst (ks.map (keyD b))∧KyOk b ks∧∀ ks',List.Perm ks' ks→List.Pairwise Zb6 ks'→k (ks'.map (keyD b))
theorem ky_one {b:Bool} {ks:List (List (List Int))} (h:KyOk b ks):b=false→∀ k∈ks,∃ l,k=[l]:=fun e k m=>by
 subst e
 have h:=h.2
 rw [if_neg (by simp)] at h
 obtain ⟨n,_,h⟩:=h
 obtain ⟨l,e,_⟩:=h k m
 exact ⟨l,e⟩
theorem ZcX {K:PySem.W.Frag} {B:Hp} {b:Bool} {ks:List (List (List Int))} {as:List Addr} (r:Reps K B (as.map V.ref) (ks.map (keyD b))):∀ {l:List Nat},(∀ i∈l,i < as.length)→Reps K B ((l.map fun i=>as.getD i 0).map V.ref) ((l.map fun i=>ks.getD i []).map (keyD b))
 | [],_=>.nil
 | i :: l,h=>by
  have hi:=h i List.mem_cons_self
  have el:as.length=ks.length:=by have:=r.length; simpa using this
  obtain ⟨v,h1,h2⟩:=r.get (i:=i) (d:=keyD b ks[i]) (by simp [show i < ks.length by omega])
  have:v=V.ref as[i]:=by simpa [hi] using h1.symm
  subst this
  refine .cons ?_ (ZcX r fun j hj=>h j (List.mem_cons_of_mem _ hj))
  simpa [hi,show i < ks.length by omega] using h2
theorem ZeY {K:PySem.W.Frag} {B:Hp} {b:Bool}:∀ {ks:List (List (List Int))} {vs:List V},Reps K B vs (ks.map (keyD b))→∃ as:List Addr,vs=as.map V.ref
 | [],_,r=>by cases r; exact ⟨[],rfl⟩
 | k :: ks,_,r=>by
  rw [List.map_cons] at r
  cases r with
  | cons h t =>
   obtain ⟨c,rfl⟩:=Zc9 h
   obtain ⟨as,rfl⟩:=ZeY t
   exact ⟨c :: as,rfl⟩
theorem Zeh {n:Nat} {p:Array Nat} (pp:PP n p):∀ i∈p.toList,i < n:=fun i hi=>by
 have:=pp.toList.mem_iff.mp hi
 simpa using this
theorem Zi1 {b:Bool} (hc:X.calm=true) (hu:X.A.units + 64 < cLine) (ha:PE3 X e u) (hg:Gl X "sorted") (hm:X.mg "sorted" = none) (hs:starEach [e] X.env=(false,eval e X.env) :: starEach [] X.env:=by rfl):PO3 X (.Call (.Name "sorted" p) [e] [] pos) (uSortD b u):=by
 obtain ⟨_,h1,r1⟩:=ha
 refine ⟨_,Zbv (Zfn hc hu b) hg hm (by decide +kernel) (Zau h1 ZaR hs) (by decide) (by decide) hs rfl,fun ρ k h R W B H σ Q e q=>?_⟩
 refine r1 ρ _ h R W B H σ _ e fun d v B1 H1 z1 e1 g1 s1=>?_
 obtain ⟨ks,ds,rfl,kk,z⟩:=z1
 cases s1 with
 | dct hh hk hb rs =>
  refine ⟨_,_,ks,_,_,rfl,⟨e1.bh _ _ hh,Za3 e1.bh hb hk⟩,kk,fun pm pp pr pw l hl=>?_⟩
  have rp:=ZcX hk (Zeh pp)
  obtain ⟨f1,f2,f3,f4,f5⟩:=e1.newO hl rp
  exact q _ l _ B1 _ (z _ pr pw) f1 g1 f2 f3 f4 rp f5
theorem ZmM {b:Bool} (hu:X.A.units + 64 < cLine) (ha:PE3 X e u) (hg:Gl X "sorted") (hm:X.mg "sorted" = none) (hs:starEach [e] X.env=(false,eval e X.env) :: starEach [] X.env:=by rfl):PO3 X (.Call (.Name "sorted" p) [e] [] pos) (uSortK b u):=by
 obtain ⟨_,h1,r1⟩:=ha
 refine ⟨_,Zbv (ZfI hu b) hg hm (by decide +kernel) (Zau h1 ZaR hs) (by decide) (by decide) hs rfl,fun ρ k h R W B H σ Q e q=>?_⟩
 refine r1 ρ _ h R W B H σ _ e fun d v B1 H1 z1 e1 g1 s1=>?_
 obtain ⟨ks,rfl,kk,z⟩:=z1
 obtain ⟨a,vs,rfl,ha,rs⟩:=s1.lstV
 obtain ⟨as,rfl⟩:=ZeY rs
 refine ⟨a,ks,as,rfl,e1.bh _ _ ha,Za3 e1.bh (ky_one kk) rs,kk,fun pm pp pr pw l hl=>?_⟩
 have rp:=ZcX rs (Zeh pp)
 obtain ⟨f1,f2,f3,f4,f5⟩:=e1.newO hl rp
 exact q _ l _ B1 _ (z _ pr pw) f1 g1 f2 f3 f4 rp f5
end
end L3
namespace L3
open PySem L2
section
variable {prog:Program} {w:World} {A:Around} {E:Value→Shared→Prop} {s:Shared} {d it:Addr} {i ep:Nat} {es:Array DictEntry} {ok ov:Value}
theorem Zfc {Q:Option Value→Shared→Prop} (hh:A.handled=none) (hit:IsItemIter s.heap it d i es.size ep ok ov) (hm:RawD s.heap d es ep)
  (more:∀ e h',es[i]?=some e→IsItemIterOut h' it d (i + 1) es.size ep e.key e.val s.heap.objs.size→h'.get? s.heap.objs.size=some { cls:=.type "tuple", data:=.seq #[e.key,e.val] }→(∀ b o,b≠it→s.heap.get? b=some o→h'.get? b=some o)→Q (some (.ref s.heap.objs.size)) { s with heap:=h' })
  (done:∀ h',es[i]?=none→Heap.ExtBut it s.heap h'→Q none { s with heap:=h' }):wpAny (model prog w) A (pyNext (.ref it)) Q E s:=by
 obtain ⟨hp,g,dr,tk,os⟩:=s
 have ty:Shared.TypeIs ⟨hp,g,dr,tk,os⟩ (.ref it) "dict_itemiterator" := ⟨_,hit,rfl⟩
 obtain ⟨o,ho,hc,he⟩:=hm
 have own:Builtin.Dict_items.ownsTuple "dict_itemiterator" = true:=by decide
 have n0:¬ ((i:Int) < 0):=by omega
 have none_:¬ (Value.ref d == Value.none)=true:=Bool.false_ne_true
 unfold pyNext
 refine wpAny_bind (wpAny_attempt (wpAny_callSpecial?_slot (name := "__next__") ty F.slot_dict_itemiterator_next (wpAny_call_entry F.slot_dict_itemiterator_next ty F.entry_dict_itemiterator_next ?_ (F.args_dict_itemiterator_next_1 _))))
 refine wpAny_bind (wpAny_pure (wpAny_bind (wpAny_bind ?_)))
 first | refine wpAny_bind (wpAny_typeNameOfWhole_itemiter ty (wpAny_pure (wpAny_bind (wpAny_fieldsOf hit rfl ?_)))) | refine wpAny_bind (wpAny_typeNameOf_itemiter ty (wpAny_pure (wpAny_bind (wpAny_fieldsOf hit rfl ?_))))
 simp only [own,if_true]
 show wpAny _ _ (if (Value.ref d == Value.none)=true then _ else _) _ _ ⟨hp,g,dr,tk,os⟩
 rw [if_neg none_]
 refine wpAny_bind (wpAny_pure (wpAny_bind (wpAny_dictEntries ho he ?_)))
 rw [if_neg (by simp)]
 refine wpAny_bind (wpAny_pure (wpAny_bind (wpAny_dictEpoch ho he ?_)))
 rw [if_neg (by simp)]
 refine wpAny_pure ?_
 simp only [n0,if_false,Int.toNat_natCast]
 cases q:es[i]? with
 | some e =>
  dsimp only
  refine wpAny_bind ?_
  first | refine wpAny_bind (wpAny_typeNameOfWhole_itemiter ty (wpAny_pure (wpAny_bind (wpAny_isOneOf_itemiter ty ?_)))) | refine wpAny_bind (wpAny_typeNameOf_itemiter ty (wpAny_pure (wpAny_bind (wpAny_isOneOf_itemiter ty ?_))))
  show wpAny _ _ (setField (.ref it) 3 (rawInt ((i:Int) + 1)) >>= _) _ _ ⟨hp,g,dr,tk,os⟩
  refine wpAny_bind (wpAny_setField_rec hit (by simp) fun h1 a1 (b1:Heap.SameBut it hp h1)=>?_)
  replace a1:IsItemIter h1 it d (i + 1) es.size ep ok ov:=by
   unfold IsItemIter
   rw [show ((i + 1:Nat):Int)=(i:Int) + 1 by omega]
   simpa [rawInt] using a1
  have ty1:Shared.TypeIs ⟨h1,g,dr,tk,os⟩ (.ref it) "dict_itemiterator" := ⟨_,a1,rfl⟩
  refine wpAny_bind (wpAny_holding (wpAny_bind (wpAny_isOneOf_itemiter ty1 (wpAny_bind (wpAny_isOneOf_itemiter ty1 ?_)))))
  show wpAny _ _ (Builtin.Dict_items.pairFromOwner (.ref it) 6 e.key e.val) _ _ ⟨h1,g,dr,tk,os⟩
  unfold Builtin.Dict_items.pairFromOwner
  refine wpAny_bind (wpAny_newTuple ?_)
  have z1:h1.objs.size=hp.objs.size:=b1.1
  have li:it < hp.objs.size:=Heap.lt_size hit
  let T:Obj:={ cls:=.type "tuple", data:=.seq #[e.key,e.val] }
  have a2:IsItemIter (h1.push T) it d (i + 1) es.size ep ok ov:=Heap.get?_push_of_some _ a1
  have t2:(h1.push T).get? hp.objs.size=some T:=by rw [← z1]; exact Heap.get?_push_size _ rfl
  have k2:∀ b o,b≠it→hp.get? b=some o→(h1.push T).get? b=some o:=fun b o n x=>Heap.get?_push_of_some _ (b1.extBut b o n x)
  show wpAny _ _ (Builtin.Dict_items.ownedTupleIsFree (.ref it) >>= _) _ _ ⟨h1.push T,g,dr,tk,os⟩
  rw [z1]
  generalize h1.push T=h2 at a2 t2 k2
  refine wpAny_bind ?_
  unfold Builtin.Dict_items.ownedTupleIsFree
  refine wpAny_bind (wpAny_field a2 rfl (x:=.none) rfl (wpAny_pure ?_))
  simp only [if_true]
  refine wpAny_bind (wpAny_field a2 rfl (x:=ok) rfl (wpAny_bind (wpAny_field a2 rfl (x:=ov) rfl (wpAny_bind (wpAny_setField_rec a2 (by simp) fun h3 a3 (b3:Heap.SameBut it h2 h3)=>?_)))))
  replace a3:IsItemIter h3 it d (i + 1) es.size ep e.key ov:=a3
  refine wpAny_bind (wpAny_setField_rec a3 (by simp) fun h4 a4 (b4:Heap.SameBut it h3 h4)=>?_)
  replace a4:IsItemIter h4 it d (i + 1) es.size ep e.key e.val:=a4
  refine wpAny_bind (wpAny_setField_rec a4 (by simp) fun h5 a5 (b5:Heap.SameBut it h4 h5)=>?_)
  replace a5:IsItemIterOut h5 it d (i + 1) es.size ep e.key e.val hp.objs.size:=a5
  refine wpAny_bind (wpAny_setField_rec a5 (by simp) fun h6 a6 (b6:Heap.SameBut it h5 h6)=>?_)
  replace a6:IsItemIterOut h6 it d (i + 1) es.size ep e.key e.val hp.objs.size:=a6
  have up:∀ b o,b≠it→h2.get? b=some o→h6.get? b=some o:=fun b o n x=>b6.extBut b o n (b5.extBut b o n (b4.extBut b o n (b3.extBut b o n x)))
  exact wpAny_bind (wpAny_letGo (wpAny_pure (wpAny_pure ⟨_,rfl,wpAny_pure (more e h6 q a6 (up _ _ (Nat.ne_of_gt li) t2) fun b o n x=>up b o n (k2 b o n x))⟩)))
 | none =>
  refine wpAny_bind ?_
  first | refine wpAny_bind (wpAny_typeNameOfWhole_itemiter ty (wpAny_pure ?_)) | refine wpAny_bind (wpAny_typeNameOf_itemiter ty (wpAny_pure ?_))
  show wpAny _ _ (setField (.ref it) 2 .none >>= _) _ _ ⟨hp,g,dr,tk,os⟩
  refine wpAny_bind (wpAny_setField hit rfl (by simp) ?_)
  show wpAny _ _ (newExc (.type "StopIteration") [] >>= _) _ _ _
  unfold newExc newTuple
  refine wpAny_bind (wpAny_bind (wpAny_newObj_type (wpAny_bind (m:=firstArgMember _ _) (wpAny_of_eq (a:=Value.none) (by first | rfl | (unfold firstArgMember; rfl)) (wpAny_newObj_type ?_ (by size_fits)))) (by size_fits)))
  unfold raiseNew
  refine wpAny_bind (wpAny_handled ?_)
  rw [show A.in1.handled=none from hh]
  refine wpAny_bind (wpAny_pure (wpAny_throw ?_))
  refine wpAny_bind (wpAny_isInstance (T := "StopIteration") (b:=true) (by exact ⟨_,Heap.get?_push_size _ rfl,rfl⟩) isSubtype_stop ?_)
  exact wpAny_pure (done _ q (((Heap.SameBut.update ..).extBut.push _).push _))
theorem ZiX {v:Addr} {Q:Value→Shared→Prop} (hv:s.heap.IsItemsView v d) (hm:RawD s.heap d es ep)
  (hQ:Q (.ref s.heap.objs.size) { s with heap:=s.heap.push { cls:=.type "dict_itemiterator", data:=.fields #[.none,.bool false,.ref d,.int 0 0,.int es.size 0,.int ep 0,.none,.none] } }):wpAny (model prog w) A (pyIter (.ref v)) Q E s:=by
 have tyv:=hv.typeIs
 obtain ⟨p,hp,cp,dp⟩:=hv
 obtain ⟨o,ho,hc,he⟩:=hm
 have own:Builtin.Dict_items.ownsTuple "dict_itemiterator" = true:=by decide
 refine wpAny_pyIter_slot tyv F.slot_dict_items_iter (wpAny_call_entry F.slot_dict_items_iter tyv F.entry_dict_items_iter ?_ (F.args_dict_items_iter_1 _))
 unfold Builtin.«dict_items.__iter__»
 refine wpAny_bind (wpAny_pure (wpAny_bind ?_))
 unfold Builtin.Dict_items.dictOf
 refine wpAny_bind (wpAny_field hp dp (x:=.ref d) rfl (wpAny_pure (wpAny_bind ?_)))
 unfold Builtin.Dict_items.newIterator
 refine wpAny_bind (wpAny_dictEntries ho he (wpAny_bind (wpAny_dictEpoch ho he ?_)))
 simp only [own,if_true]
 refine wpAny_newObj_type (wpAny_pure ⟨_,rfl, "dict_itemiterator", _,⟨_,Heap.get?_push_size _ rfl,rfl⟩,F.slot_dict_itemiterator_next.lookup,?_⟩) (by simp only [sizeOk,Builtin.Dict_items.ownedTupleFields,List.size_toArray,List.length_append,List.length_cons,List.length_nil,sizeLine_eq]; omega)
 simpa [rawInt,Builtin.Dict_items.ownedTupleFields] using hQ
theorem Zfo (d:Addr) (hd:(d == sysModules)=false) :
  MeetsIn prog w (Builtin.«dict.items» ⟨[.ref d],[]⟩) (fun _ R s=>(∃ es ep,RawD s.heap d es ep)∧R (.ok (.ret (.ref s.heap.objs.size))) { s with heap:=s.heap.push { cls:=.type "dict_items", data:=.fields #[.ref d] } }) :=
 .of_wp fun A R s ⟨⟨es,ep,hm⟩,h⟩=>by
  obtain ⟨o,ho,hc,he⟩:=hm
  have ty:s.TypeIs (.ref d) "dict" := ⟨o,ho,hc.1⟩
  have no:¬ (d == sysModules)=true:=fun z=>by rw [hd] at z; cases z
  unfold Builtin.«dict.items» Builtin.Dict.noArgs
  refine wpAny_bind (wpAny_bind (wpAny_notOrdered_dict ty (show wpAny _ _ (pure d) _ _ s from wpAny_pure ?_)))
  show wpAny _ _ (Builtin.Dict.showsAll d >>= _) _ _ s
  unfold Builtin.Dict.showsAll
  rw [if_neg no]
  exact wpAny_bind (wpAny_pure (wpAny_bind (wpAny_newObj_type (wpAny_pure ⟨_,rfl,h⟩))))
end
end L3
namespace L2
open PySem PySem.Spec PyProof.Rows PySem.W L3
def Itp (b:Bool) (a:Addr) (ep:Nat) (ks:List (List (List Int))) (as:List Addr) (vs:List V):It where
 go:=fun i H=>H a=some (DicO b a ep ks as vs)∧i < ks.length
 yld:=fun i H x H'=>∃ p c y,H p=none∧x=.ref p∧H'=upd H p (.tup [.ref c,y])∧as[i]?=some c∧vs[i]?=some y
 stop:=fun i H=>H a=some (DicO b a ep ks as vs)∧ks.length≤i
section
variable {P:Program} {w:World} {K:PySem.W.Frag} {b:Bool} {a:Addr} {ep:Nat} {ks:List (List (List Int))} {as:List Addr} {vs:List V} {elts:List Expr} {k:Nat} {pos:Pos}
theorem ZcZ:entryFor table "dict_itemiterator.__iter__" = some Builtin.«dict_keyiterator.__iter__» := entryFor_alias (id' := "dict_keyiterator.__iter__") (by kernel_rfl) rfl (by decide +kernel) (by kernel_rfl)
theorem Zg4 (it:Addr):Turn P w K (.Tuple elts k pos) (Itp b a ep ks as vs) [it] it (fun i h=>∃ x y,IsItemIter h it a i ks.length ep x y) where
 mem:=by simp
 obj:=fun i h st c hc=>by
  have e:c=it:=by simpa using hc
  subst e
  obtain ⟨x,y,st⟩:=st
  exact ⟨_,st,fun v z=>by cases z⟩
 keep:=fun i h h' st kp=>by
  obtain ⟨x,y,st⟩:=st
  exact ⟨x,y,kp it (by simp) _ st⟩
 item:=by
  intro X hP hw hK hc i pins s σ H E I hf st hg
  subst hP hw hK
  obtain ⟨hq,hi⟩:=hg
  obtain ⟨x0,y0,st⟩:=st
  obtain ⟨us,es,rd,el,l1,l2,l3,rv,_⟩:=Ze3 I.hok hq
  obtain ⟨k',c,u,hc1,hu1,he⟩:=Zjo (b:=b) l1 l2 hi
  obtain ⟨y,hy,ry⟩:∃ y,vs[i]?=some y∧RelV y u:=by
   have lt:i < vs.length:=by rw [rv.length]; omega
   obtain ⟨u',hu',r'⟩:=rv.get (List.getElem?_eq_getElem lt)
   rw [hu1] at hu'; cases hu'
   exact ⟨_,List.getElem?_eq_getElem lt,r'⟩
  have fi:=hf it (by simp)
  have ilt:it < s.heap.objs.size:=Heap.lt_size st
  have Ti:s.heap.objs.size≠it:=Nat.ne_of_gt ilt
  refine Zfc (I.ok.hd hc) (by rw [l3]; exact st) rd (fun e h1 q out ht kp=>⟨_,rfl,wpAny_letOwnedTupleGo_items out fun h2 he2 sb=>?_⟩) (fun h1 q _=>?_)
  ·rw [← Array.getElem?_toList,el,he] at q
   cases q
   rw [l3] at he2
   have I0:Inv X pins σ (upd H s.heap.objs.size (.tup [.ref c,y])) { s with heap:=s.heap.push { cls:=.type "tuple", data:=.seq #[.ref c,u] } } :=
    I.laid (t':=s.toks) (fun _ _ q=>Heap.get?_push_of_some _ q) (Nat.le_refl _) ⟨by show 2≤sizeLine; decide,[.ref c,u],.cons rfl (.cons ry .nil),⟨_,Heap.get?_push_size _ rfl,rfl,_,rfl⟩⟩
   have f':FpOk X pins (upd H s.heap.objs.size (.tup [.ref c,y])) it:=⟨by rw [Zak (Ne.symm Ti)]; exact fi.1,fi.2⟩
   obtain ⟨f0,f1,f2,f3,f4,f5⟩:=id f'
   have I1:Inv X pins σ (upd H s.heap.objs.size (.tup [.ref c,y])) { s with heap:=h2 }:=I0.turned (t':=s.toks) (fun b' o n q=>by
    rw [sb.2 b' n]
    by_cases z:b'=s.heap.objs.size
    ·subst z
     rw [Heap.get?_push_size _ rfl] at q
     rw [← q]; exact ht
    ·refine kp b' o n ?_
     rw [← q]
     exact (Heap.get?_push_ne s.heap b' _ z).symm) f0 f1 f3 f4 f5
   refine ⟨.ref s.heap.objs.size,_,I1,rfl,⟨s.heap.objs.size,c,y,I.fresh,rfl,rfl,hc1,hy⟩,⟨_,_,he2⟩,fun b' hb=>?_⟩
   have:b'=it:=by simpa using hb
   subst this
   exact f0
  ·rw [← Array.getElem?_toList,el,he] at q
   cases q
 done:=by
  intro X hP hw hK hc i pins s σ H E I hf st hg
  subst hP hw hK
  obtain ⟨hq,hi⟩:=hg
  obtain ⟨x0,y0,st⟩:=st
  obtain ⟨us,es,rd,el,l1,l2,l3,_⟩:=Ze3 I.hok hq
  obtain ⟨f0,f1,f2,f3,f4,f5⟩:=hf it (by simp)
  refine Zfc (I.ok.hd hc) (by rw [l3]; exact st) rd (fun e h1 q _ _ _=>?_) fun h' _ eb=>⟨rfl,I.turned (t':=s.toks) (fun c' o hb e=>eb c' o hb e) f0 f1 f3 f4 f5⟩
  rw [Array.getElem?_eq_none (by omega)] at q
  cases q
 self:=fun _ _ _ _ _ st h=>by
  obtain ⟨x,y,st⟩:=st
  have ty:Shared.TypeIs _ (.ref it) "dict_itemiterator" := ⟨_,st,rfl⟩
  refine wpAny_pyIter_slot ty F.slot_dict_itemiterator_iter (wpAny_call_entry F.slot_dict_itemiterator_iter ty ZcZ ?_ (F.args_dict_itemiterator_iter_1 _))
  show wpAny _ _ (ret (.ref it)) _ _ _
  exact wpAny_pure ⟨_,rfl, "dict_itemiterator", _,ty,F.slot_dict_itemiterator_next.lookup,h⟩
def iItems (tl:TE):TI:=fun σ H R=>tl σ H fun x H1=>∃ b a ep ks as vs,x=.ref a∧DcAt H1 b a ep ks as vs∧R (Itp b a ep ks as vs) H1
theorem Zj5 {X:Cx} {tp apos cpos:Pos} {l:Expr} {tl:TE} (hl:PE X l tl) (hbase:attributeBase l "items" X.env (eval l X.env)=eval l X.env:=by rfl) (hline:(apos.endLine == cpos.line)=true:=by rfl):PI X (.Tuple elts k tp) (.Call (.Attribute l "items" apos) [] [] cpos) (iItems tl):=by
 intro pins s σ H R I h
 refine wpAny_Call_method (T := "dict") (id := "dict.items") hbase rfl hline PySem.F.plainAttrs_dict PySem.F.slot_dict_items PySem.F.type_dict_items (thn (hl pins s σ H _ I h) fun v s1 ⟨x,H1,I1,r1,b,a,ep,ks,as,vs,e,dc,q⟩=>?_)
 subst e
 obtain rfl:v=Value.ref a:=r1
 obtain ⟨t1,t2⟩:=dc.typ I1
 refine ⟨t1,t2,?_⟩
 obtain ⟨us,es,rd,el,l1,l2,l3,_,hs⟩:=Ze3 I1.hok dc.h
 show wpAny _ _ (callWith cpos (.builtin "dict.items") [.ref a] [] []) _ _ s1
 refine method_meetsIn PySem.F.slot_dict_items PySem.F.entry_dict_items rfl (PySem.evalArgs_none ⟨rfl,t1,PySem.F.args_dict_items_1 _,_,Zfo a hs,⟨es,ep,rd⟩,?_⟩)
 have rd1:RawD (s1.heap.push { cls:=.type "dict_items", data:=.fields #[.ref a] }) a es ep:=by
  obtain ⟨o,ho,z⟩:=rd
  exact ⟨o,Heap.get?_push_of_some _ ho,z⟩
 have I2:Inv X pins σ H1 { s1 with heap:=s1.heap.push { cls:=.type "dict_items", data:=.fields #[.ref a] } }:=I1.kept (t':=s1.toks) fun b o e=>Heap.get?_push_of_some _ e
 refine ZiX (s:={ s1 with heap:=s1.heap.push { cls:=.type "dict_items", data:=.fields #[.ref a] } }) ⟨_,Heap.get?_push_size _ rfl,rfl,rfl⟩ rd1 ?_
 refine ⟨_,[_],_,_,H1,rfl,I2.kept (t':=s1.toks) fun b o e=>Heap.get?_push_of_some _ e,Zg4 _,⟨_,_,by rw [l3]; exact Heap.get?_push_size _ rfl⟩,fun c hc=>?_,q⟩
 rw [List.mem_singleton.mp hc]
 exact I2.fpOk (Nat.le_refl _) (I2.hok.fresh (Nat.le_refl _))
end
end L2
namespace L3
open PySem L2
section
variable {K:PySem.W.Frag} {u:UE} {w:UL}
def ItE (K:PySem.W.Frag) (B:Hp) (J:It) (ds:List D):Prop:=∀ (H:Hp),Same B H→∀ i,(i < ds.length→J.go i H)∧(ds.length≤i→J.stop i H)∧∀ x H',i < ds.length→J.yld i H x H'→∃ q vs es,H q=none∧x=.ref q∧H'=upd H q (.tup vs)∧ds[i]?=some (.tup es)∧Reps K B vs es
def RefIE (K:PySem.W.Frag) (t:TI) (u:UL):Prop:=∀ (ρ:List Sl) (k:List D→Prop),u ρ k→∀ (R:Hp) (W:Addr→Prop) (B H:Hp) (σ:St) (Q:It→Hp→Prop),Ev K R W B H σ ρ →
 (∀ ds J B' H',k ds→Ev K R W B' H' σ ρ→Grow R B B'→ItE K B' J ds→Q J H')→t σ H Q
theorem Zkv {wi:TI} {g:TG} {tt:TT} {te:TE} {ug:UG} {ut:UT} {nt:Nat} {js:List Nat} (h0:RefIE K wi w) (hg:RefG K g ug) (ht:RefT K tt ut) (h1:RefE K te u) (hnd:js.Nodup):RefO K (ZgG wi g tt te nt js) (Zgt w ug ut u nt js):=by
 intro ρ k h R W B H σ Q e q
 refine h0 ρ _ h R W B H σ _ e fun ds J B1 H1 z1 e1 g1 it=>?_
 obtain ⟨hl,z1⟩:=z1
 intro D hD
 obtain ⟨f1,f2,f3⟩:=e1.toWd.fresh hD
 have nm1:∀ i,¬ Zat σ ρ i D:=fun i m=>e1.notNew hD m rfl
 have ei:=e1.within nt hnd
 have hmi:∀ j a,Zat (List.replicate nt none ++ Zby σ js) (List.replicate nt .no ++ js.map (frS ρ)) j a→∃ j,j∈js∧σ[j]?=some (some (V.ref a))∧ρ[j]?=some Sl.bag:=fun j a m=>by
  have q2:=(ei.mutOk m).2
  rcases m with ⟨m1,z | ⟨es,z⟩⟩ | ⟨c,z,mc⟩
  ·obtain ⟨c,c1,c2,_⟩:=ei.bagAt z
   rw [m1] at c1; cases c1
   rcases c2 with c2 | c2
   ·exact c2
   ·exact absurd c2 q2
  ·obtain ⟨c,c1,c2,_⟩:=ei.ownC z
   rw [m1] at c1; cases c1
   exact absurd c2 q2
  ·exact absurd ((ei.deepAt z).2.fr a mc).1 q2
 generalize hWW:(fun a=>∃ j,j∈js∧σ[j]?=some (some (V.ref a))∧ρ[j]?=some Sl.bag)=WW at ei
 have hmi:∀ j a,Zat (List.replicate nt none ++ Zby σ js) (List.replicate nt .no ++ js.map (frS ρ)) j a→WW a:=fun j a m=>by rw [← hWW]; exact hmi j a m
 have hW:∀ a,WW a→∃ i:Nat,σ[i]?=some (some (.ref a))∧ρ[i]?=some .bag:=fun a z=>by
  rw [← hWW] at z
  obtain ⟨j,_,z⟩:=z
  exact ⟨j,z⟩
 have nWD:¬ WW D:=fun z=>by
  obtain ⟨i',y1,y2⟩:=hW D z
  exact nm1 i' (.inl ⟨y1,.inl y2⟩)
 refine ⟨fun i m σi H'=>∃ B' ys es ρi,m=ds.length - i∧i≤ds.length∧Ev K H1 WW B' H' σi ρi∧Grow H1 B1 B'∧H' D=some (.lst ys)∧B' D=none∧(∀ j a,Zat σi ρi j a→WW a)∧ys.length≤i∧Reps K B' ys es∧Za8 ug ut u (ds.drop i) ρi fun r=>k (es ++ r),
  ⟨ds.length,B1,[],[],_,by simp,Nat.zero_le _,ei.allocH hD _,Grow.refl _ _,Zal,f3,hmi,Nat.le_refl _,.nil,by simpa using z1⟩,?_⟩
 rintro i m σi H2 ⟨B2,ys,es,ρi,rfl,hi,e2,g2,hy,hb,hnm,hyl,ry,z2⟩
 obtain ⟨t1,t2,t3⟩:=it H2 (g2.s.trans e2.bh) i
 by_cases hlt:i < ds.length
 ·refine .inr ⟨t1 hlt,fun x H' y=>?_⟩
  obtain ⟨q0,vs0,es0,hq0,rfl,rfl,hd,rx⟩:=t3 x H' hlt y
  have ed:ds.drop i=.tup es0 :: ds.drop (i + 1):=by
   rw [List.drop_eq_getElem_cons hlt]
   rw [List.getElem?_eq_getElem hlt] at hd
   rw [Option.some.inj hd]
  rw [ed] at z2
  have nqD:D≠q0:=fun z=>by rw [z,hq0] at hy; cases hy
  have g20:=e2.grow hq0 (.tup vs0)
  have e20:=e2.alloc hq0 (.tup vs0)
  have hy0:upd H2 q0 (.tup vs0) D=some (.lst ys):=by rw [Zak nqD]; exact hy
  have hb0:upd B2 q0 (.tup vs0) D=none:=by rw [Zak nqD]; exact hb
  have ry0:=ry.mono g20.s
  have g200:=g2.trans g20
  have rx0:Rep K (upd B2 q0 (.tup vs0)) (.ref q0) (.tup es0):=.tup Zal (rx.mono g200.s)
  generalize upd H2 q0 (.tup vs0)=H' at e20 hy0
  generalize upd B2 q0 (.tup vs0)=B2' at e20 hb0 ry0 g200 rx0
  refine hg _ ρi _ z2 H1 WW B2' H' σi _ _ e20 rx0 fun ρ3 σ3 z3 e3 mm=>?_
  have hnm3:∀ j a,Zat σ3 ρ3 j a→WW a:=fun j a m=>hnm j a (mm j a m)
  have bD:∀ {B4:Hp},Grow H' B2' B4→B4 D=none:=fun {B4} g4=>by
   cases qd:B4 D with
   | none=>rfl
   | some o =>
    rcases g4.n D o qd with z | z
    ·rw [hb0] at z; cases z
    ·rw [hy0] at z; cases z
  refine ht ρ3 _ z3 H' WW B2' H' σ3 _ (e3.rebase hnm3) fun b B4 H4 z4 e4 g4=>?_
  have hD4:H4 D=some (.lst ys):=e4.fr D _ hy0 nWD
  cases b with
  | false =>
   rw [if_neg Bool.false_ne_true] at z4 ⊢
   obtain ⟨e5,g5⟩:=e3.unbase hnm3 e4 g4
   exact ⟨ds.length - (i + 1),by omega,B4,ys,es,ρ3,rfl,hlt,e5,g200.trans g5,hD4,bD g4,hnm3,by omega,ry0.mono g4.s,z4⟩
  | true =>
   rw [if_pos rfl] at z4 ⊢
   refine h1 ρ3 _ z4 H' WW B4 H4 σ3 _ e4 fun y' v B5 H5 z5 e5 g5 s5=>?_
   have g45:=g4.trans g5
   have hD5:H5 D=some (.lst ys):=e5.fr D _ hy0 nWD
   obtain ⟨e6,g6⟩:=e3.unbase hnm3 e5 g45
   refine ⟨ys,hD5,by omega,ds.length - (i + 1),by omega,B5,ys ++ [v],es ++ [y'],ρ3,rfl,hlt,e6.scribble hD (bD g45) (fun j m=>nWD (hnm3 j D m)) _,g200.trans g6,Zal,bD g45,hnm3,by rw [List.length_append,List.length_singleton]; omega,(ry0.mono g45.s).append (.cons s5 .nil),?_⟩
   simpa [List.append_assoc] using z5
 ·have eq:i=ds.length:=by omega
  subst eq
  rw [List.drop_length] at z2
  obtain ⟨e4,g4⟩:=e1.after hW e2.toWd g2
  refine .inl ⟨t2 (Nat.le_refl _),q _ D ys B2 H2 (by simpa [Za8] using z2) e4 (g1.trans g4) f1 hb hy ry nm1⟩
def PIE3 (X:Cx) (tg e:Expr) (u:UL):Prop:=∃ t,PI X tg e t∧RefIE X.K t u
variable {X:Cx} {elt iter tg:Expr} {ifs:List Expr} {scope:Scope} {cl:List (Str×Addr)} {ts fr:List Str} {js:List Nat} {ug:UG} {ut:UT} {pos:Pos}
theorem Zl6 (hi:PIE3 X tg iter w) (hg:∀ C s H ex,PG3 (ZaA X (ts ++ fr) scope cl C s H ex) tg ug) (hts:∀ C s H ex,ZhD (ZaA X (ts ++ fr) scope cl C s H ex) ifs ut) (helt:∀ C s H ex,PE3 (ZaA X (ts ++ fr) scope cl C s H ex) elt u)
  (F:FreeOk X scope cl fr js) (hjn:js.Nodup:=by decide) (hc:X.calm=true:=by rfl) (hs:∀ v,foldedSetIterable iter X.env v=pure v:=by intro _; rfl):PO3 X (.ListComp elt [⟨tg,iter,ifs,0⟩] scope pos) (Zgt w ug ut u ts.length js):=by
 obtain ⟨_,h0,r0⟩:=hi
 obtain ⟨tg',hg',rg⟩:=joinG (K:=X.K) (Xs:=fun a:Addr×Shared×Hp×List Addr=>ZaA X (ts ++ fr) scope cl a.1 a.2.1 a.2.2.1 a.2.2.2) (fun _=>rfl) fun a=>hg a.1 a.2.1 a.2.2.1 a.2.2.2
 obtain ⟨tt,ht',rt⟩:=joinI (K:=X.K) (Xs:=fun a:Addr×Shared×Hp×List Addr=>ZaA X (ts ++ fr) scope cl a.1 a.2.1 a.2.2.1 a.2.2.2) (fun _=>rfl) fun a=>hts a.1 a.2.1 a.2.2.1 a.2.2.2
 obtain ⟨te,he',re⟩:=joinE (K:=X.K) (Xs:=fun a:Addr×Shared×Hp×List Addr=>ZaA X (ts ++ fr) scope cl a.1 a.2.1 a.2.2.1 a.2.2.2) (fun _=>rfl) fun a=>helt a.1 a.2.1 a.2.2.1 a.2.2.2
 exact ⟨_,ZfZ h0 (fun C s H ex=>hg' (C,s,H,ex)) (fun C s H ex=>ht' (C,s,H,ex)) (fun C s H ex=>he' (C,s,H,ex)) F hc hs,Zkv r0 rg rt re hjn⟩
def prD (b:Bool):List (List (List Int))→List D→List D
 | k :: ks,d :: ds=>.tup [keyD b k,d] :: prD b ks ds
 | _,_=>[]
theorem Zhv {b:Bool}:∀ {ks:List (List (List Int))} {ds:List D},ds.length=ks.length→(prD b ks ds).length=ks.length
 | [],_,_=>by simp [prD]
 | _ :: _,[],h=>by simp at h
 | k :: ks,d :: ds,h=>by simp [prD,Zhv (b:=b) (ks:=ks) (ds:=ds) (by simpa using h)]
theorem ZkV {b:Bool}:∀ {ks:List (List (List Int))} {ds:List D} {i:Nat} {k:List (List Int)} {d:D},ks[i]?=some k→ds[i]?=some d→(prD b ks ds)[i]?=some (.tup [keyD b k,d])
 | [],_,_,_,_,h,_=>by simp at h
 | _ :: _,[],_,_,_,_,h=>by simp at h
 | k :: ks,d :: ds,0,_,_,h1,h2=>by simp at h1 h2; subst h1 h2; rfl
 | k :: ks,d :: ds,i + 1,_,_,h1,h2=>by
  have:=ZkV (b:=b) (ks:=ks) (ds:=ds) (i:=i) (by simpa using h1) (by simpa using h2)
  simpa [prD] using this
def uiP (u:UE):UL:=fun ρ k=>u ρ fun x=>∃ b ks ds,x=.dct b ks ds∧ds.length=ks.length∧k (prD b ks ds)
theorem ZmX {tp apos cpos:Pos} {elts:List Expr} {kk:Nat} {l:Expr} {uo:UE} (hl:PE3 X l uo) (hbase:attributeBase l "items" X.env (eval l X.env)=eval l X.env:=by rfl) (hline:(apos.endLine == cpos.line)=true:=by rfl):PIE3 X (.Tuple elts kk tp) (.Call (.Attribute l "items" apos) [] [] cpos) (uiP uo):=by
 obtain ⟨_,h1,r1⟩:=hl
 refine ⟨_,Zj5 h1 hbase hline,fun ρ k h R W B H σ Q e q=>?_⟩
 refine r1 ρ _ h R W B H σ _ e fun d v B1 H1 z1 e1 g1 s1=>?_
 obtain ⟨b,ks,ds,rfl,ld,z⟩:=z1
 cases s1 with
 | @dct a _ ep _ as vs _ hB hkk hbb rr =>
  have la:as.length=ks.length:=by have:=hkk.length; simpa using this
  have lv:=rr.length
  refine ⟨b,a,ep,ks,as,vs,rfl,⟨e1.bh _ _ hB,Za3 e1.bh hbb hkk⟩,?_⟩
  refine q _ _ B1 H1 z e1 g1 fun H' sH i=>?_
  rw [Zhv ld]
  refine ⟨fun hi=>⟨sH _ _ hB,hi⟩,fun hi=>⟨sH _ _ hB,hi⟩,fun x H2 hi y=>?_⟩
  obtain ⟨p,c,y,hp,rfl,rfl,hc,hy⟩:=y
  obtain ⟨d,hd,rd⟩:=rr.getV hy
  obtain ⟨kd,hkd,rk⟩:=hkk.getV (i:=i) (v:=.ref c) (by rw [List.getElem?_map,hc]; rfl)
  have ek:ks[i]?=some ks[i]:=List.getElem?_eq_getElem hi
  rw [List.getElem?_map,ek] at hkd
  cases hkd
  exact ⟨p,_,_,hp,rfl,rfl,ZkV ek hd,.cons rk (.cons rd .nil)⟩
end
section
variable {X:Cx} {e:Expr} {u:UE} {pos:Pos}
def uAugS (i:Nat) (u:UE):US:=fun U ρ=>∃ m,ρ[i]?=some (.val (.int m))∧u ρ fun d=>∃ n,d=.int n∧U.nx (ρ.set i (.val (.int (m - n))))
theorem s_augS {i:Nat} {x:Str} {pos':Pos} (hN:X.N.Nodup) (hi:X.N[i]?=some x) (hx:Loc X.env.scope x) (he:PE3 X e u) (hf:X.fn x=true∨X.env.scope.names.lookup x=some .local:=by first | exact .inl rfl | exact .inr rfl | assumption) :
  PS3 X (.AugAssign (.Name x pos') .Sub e pos) (uAugS i u):=by
 obtain ⟨_,h1,r1⟩:=he
 refine ⟨_,Zln hN hi hx h1 ip_sub hf,fun U ρ h R W B H σ D e s=>?_⟩
 obtain ⟨m,hm,h⟩:=h
 obtain ⟨v,hv,rv⟩:=e.val hm
 refine ⟨v,hv,?_⟩
 refine r1 ρ _ h R W B H σ _ e fun d w B1 H1 z1 e1 g1 s1=>?_
 obtain ⟨n,rfl,z⟩:=z1
 exact ⟨m,n,rv.intV,s1.intV,s.nx _ _ B1 H1 z (e1.setV i (.int _)) g1⟩
end
end L3
namespace Cut
open PySem L2 L3
open PySem.Builtin.Int (intBits)
def sds (ps:List F2):List (F2×F2):=ps.zip (ps.drop 1 ++ ps.take 1)
def stE (e:F2×F2):F2:=(e.2.1 - e.1.1,e.2.2 - e.1.2)
def dirE (e:F2×F2):F2:=wdir (stE e).1 (stE e).2
def parE (e:F2×F2):Int:=wpar (stE e).1 (stE e).2
def Zbe (e:F2×F2):Prop:=(stE e).1≠0∨(stE e).2≠0
def smD (d:F2):List (F2×F2)→Int
 | []=>0
 | e :: es=>(if dirE e=d then parE e else 0) + smD d es
theorem Zdj (d:F2):∀ (a b:List (F2×F2)),smD d (a ++ b)=smD d a + smD d b
 | [],b=>by simp [smD]
 | e :: a,b=>by rw [List.cons_append,smD,smD,Zdj d a b]; omega
theorem ZjU (d:F2) {a b:List (F2×F2)} (h:a.Perm b):smD d a=smD d b:=by
 induction h with
 | nil=>rfl
 | cons x _ ih=>rw [smD,smD,ih]
 | swap x y l=>simp only [smD]; omega
 | trans _ _ ih1 ih2=>rw [ih1,ih2]
theorem ZdT {g a b:Int} (hg:0 < g):wpar (g * a) (g * b)=g * wpar a b:=by
 have e:((Int.gcd (g * a) (g * b):Nat):Int)=g * ((Int.gcd a b:Nat):Int):=by
  rw [Int.gcd_mul_left]
  have:((g.natAbs:Nat):Int)=g:=by omega
  rw [Int.natCast_mul,this]
 have c1:g * b < 0↔b < 0:=by
  constructor
  ·intro h
   by_cases z:b < 0
   ·exact z
   ·exact absurd (Int.mul_nonneg (Int.le_of_lt hg) (by omega:0≤b)) (by omega)
  ·intro h; exact Int.mul_neg_of_pos_of_neg hg h
 have c2:g * a < 0↔a < 0:=by
  constructor
  ·intro h
   by_cases z:a < 0
   ·exact z
   ·exact absurd (Int.mul_nonneg (Int.le_of_lt hg) (by omega:0≤a)) (by omega)
  ·intro h; exact Int.mul_neg_of_pos_of_neg hg h
 have c3:g * b=0↔b=0:=by
  rw [Int.mul_eq_zero]
  constructor
  ·rintro (h | h)
   ·omega
   ·exact h
  ·exact .inr
 unfold wpar
 rw [e]
 by_cases h:b < 0∨(b=0∧a < 0)
 ·rw [if_pos h,if_pos (by rw [c1,c2,c3]; exact h),Int.mul_neg]
 ·rw [if_neg h,if_neg (by rw [c1,c2,c3]; exact h)]
theorem Zgv {g a b:Int} (hg:0 < g) (h:a≠0∨b≠0):wdir (g * a) (g * b)=wdir a b:=by
 have h':g * a≠0∨g * b≠0:=by
  rcases h with h | h
  ·exact .inl (Int.mul_ne_zero (by omega) h)
  ·exact .inr (Int.mul_ne_zero (by omega) h)
 obtain ⟨a1,a2,_,_⟩:=Zbc h
 obtain ⟨b1,b2,_,_⟩:=Zbc h'
 have w0:=Zcd h
 rw [ZdT hg] at b1 b2
 have e1:(wdir (g * a) (g * b)).1=(wdir a b).1:=by
  refine Int.eq_of_mul_eq_mul_right (Int.mul_ne_zero (by omega:g≠0) w0) ?_
  rw [b1,← a1]; grind
 have e2:(wdir (g * a) (g * b)).2=(wdir a b).2:=by
  refine Int.eq_of_mul_eq_mul_right (Int.mul_ne_zero (by omega:g≠0) w0) ?_
  rw [b2,← a2]; grind
 exact Prod.ext e1 e2
theorem Zme {a b n:Int} (hn:0 < n) (h:a≠0∨b≠0):wdir (npt a b n).1 (npt a b n).2.1=wdir a b∧nrat (wpar (npt a b n).1 (npt a b n).2.1) (npt a b n).2.2=nrat (wpar a b) n∧((npt a b n).1≠0∨(npt a b n).2.1≠0):=by
 obtain ⟨⟨p0,_⟩,q1,q2,_⟩:=ZaL (a:=a) (b:=b) (Int.ne_of_gt hn)
 generalize npt a b n=p at p0 q1 q2
 obtain ⟨x,y,z⟩:=p
 dsimp only at *
 have hxy:x≠0∨y≠0:=by
  by_cases z1:x=0
  ·by_cases z2:y=0
   ·exfalso
    rw [z1,Int.zero_mul] at q1
    rw [z2,Int.zero_mul] at q2
    have e1:a=0:=(Int.mul_eq_zero.mp q1.symm).resolve_right (by omega)
    have e2:b=0:=(Int.mul_eq_zero.mp q2.symm).resolve_right (by omega)
    rcases h with h | h
    ·exact h e1
    ·exact h e2
   ·exact .inr z2
  ·exact .inl z1
 have w1:n * wpar x y=z * wpar a b:=by
  rw [← ZdT hn,← ZdT p0,Int.mul_comm n x,Int.mul_comm n y,Int.mul_comm z a,Int.mul_comm z b,q1,q2]
 refine ⟨?_,?_,hxy⟩
 ·rw [← Zgv hn hxy,← Zgv p0 h,Int.mul_comm n x,Int.mul_comm n y,Int.mul_comm z a,Int.mul_comm z b,q1,q2]
 ·refine Zch (Int.ne_of_gt p0) (Int.ne_of_gt hn) ?_
  grind
def sp6:List F2:=[(5,0),(5,1),(5,2),(4,3),(3,4),(2,5)]
def rotN:Nat→F2→F2
 | 0,p=>p
 | t + 1,p=>(-(rotN t p).2,(rotN t p).1)
def spk (k:Nat):F2:=rotN (k / 6) (sp6.getD (k % 6) (0,0))
def spt (q:Nat×Int):F2:=(q.2 * (spk q.1).1,q.2 * (spk q.1).2)
def mst (s:Int) (i:Nat):Nat:=((List.range i).filter fun c:Nat=>decide ((c:Int) % 8=s)).length
structure SelOk (s fa mo lf:Int) (i:Nat) (sel:List (Nat×Int)):Prop where
 pw:sel.Pairwise fun a b=>a.1 < b.1
 mem:∀ q∈sel,q.1 < i∧1≤q.2∧q.2≤fa
 must:∀ c:Nat,c < i→(c:Int) % 8=s→∃ l,(c,l)∈sel
 cnt:(sel.length:Int) + lf=mo - 3 + mst s i
 l0:0≤lf
theorem Zgg (s:Int) (i:Nat):mst s (i + 1)=mst s i + if (i:Int) % 8=s then 1 else 0:=by
 unfold mst
 rw [List.range_succ,List.filter_append,List.length_append]
 congr 1
 by_cases h:(i:Int) % 8=s
 ·simp [h]
 ·simp [h]
theorem SelOk.start {s fa mo:Int} (h:3≤mo):SelOk s fa mo (mo - 3) 0 []:=⟨.nil,fun _ h=>by simp at h,fun c h=>by omega,by simp [mst],by omega⟩
theorem SelOk.put {s fa mo lf:Int} {i:Nat} {sel:List (Nat×Int)} (h:SelOk s fa mo lf i sel) {l:Int} (l1:1≤l) (l2:l≤fa) {lf':Int} (hl:(i:Int) % 8=s∧lf'=lf∨(i:Int) % 8≠s∧lf'=lf - 1) (h0:0≤lf'):SelOk s fa mo lf' (i + 1) (sel ++ [(i,l)]):=by
 refine ⟨List.pairwise_append.mpr ⟨h.pw,by simp,fun a ha b hb=>?_⟩,fun q hq=>?_,fun c hc e=>?_,?_,h0⟩
 ·rw [List.mem_singleton.mp hb]; exact (h.mem a ha).1
 ·rcases List.mem_append.mp hq with hq | hq
  ·obtain ⟨a,b,c⟩:=h.mem q hq; exact ⟨by omega,b,c⟩
  ·rw [List.mem_singleton.mp hq]; exact ⟨by show i < i + 1; omega,l1,l2⟩
 ·by_cases z:c=i
  ·exact ⟨l,by rw [z]; simp⟩
  ·obtain ⟨l',q⟩:=h.must c (by omega) e
   exact ⟨l',List.mem_append_left _ q⟩
 ·have:=h.cnt
  rw [Zgg,List.length_append,List.length_singleton]
  rcases hl with ⟨a,b⟩ | ⟨a,b⟩
  ·rw [if_pos a]; omega
  ·rw [if_neg a]; omega
theorem SelOk.skip {s fa mo lf:Int} {i:Nat} {sel:List (Nat×Int)} (h:SelOk s fa mo lf i sel) (ne:(i:Int) % 8≠s):SelOk s fa mo lf (i + 1) sel:=by
 refine ⟨h.pw,fun q hq=>?_,fun c hc e=>?_,?_,h.l0⟩
 ·obtain ⟨a,b,c⟩:=h.mem q hq; exact ⟨by omega,b,c⟩
 ·by_cases z:c=i
  ·subst z; exact absurd e ne
  ·exact h.must c (by omega) e
 ·have:=h.cnt
  rw [Zgg,if_neg ne]; omega
structure StarOk (fa mo:Int) (sel:List (Nat×Int)):Prop where
 pw:sel.Pairwise fun a b=>a.1 < b.1
 mem:∀ q∈sel,q.1 < 24∧1≤q.2∧q.2≤fa
 must:∃ s:Nat,s < 8∧∀ c:Nat,c < 24→c % 8=s→∃ l,(c,l)∈sel
 len:(sel.length:Int)≤mo
theorem mst_24 {s:Int} (h0:0≤s) (h1:s < 8):mst s 24=3:=by
 have:s=0∨s=1∨s=2∨s=3∨s=4∨s=5∨s=6∨s=7:=by omega
 rcases this with rfl | rfl | rfl | rfl | rfl | rfl | rfl | rfl <;> decide +kernel
theorem SelOk.star {s fa mo lf:Int} {sel:List (Nat×Int)} (h:SelOk s fa mo lf 24 sel) (h0:0≤s) (h1:s < 8):StarOk fa mo sel:=by
 refine ⟨h.pw,h.mem,⟨s.toNat,by omega,fun c hc e=>h.must c hc (by omega)⟩,?_⟩
 have:=h.cnt
 have:=h.l0
 rw [mst_24 h0 h1] at *
 omega
theorem Zk2 {p:F2} {m:Int} (h1 : -m≤p.1) (h2:p.1≤m) (h3 : -m≤p.2) (h4:p.2≤m):∀ t,-m≤(rotN t p).1∧(rotN t p).1≤m ∧ -m≤(rotN t p).2∧(rotN t p).2≤m
 | 0=>⟨h1,h2,h3,h4⟩
 | t + 1=>by
  obtain ⟨a,b,c,d⟩:=Zk2 h1 h2 h3 h4 t
  show -m ≤ -(rotN t p).2 ∧ -(rotN t p).2≤m ∧ -m≤(rotN t p).1∧(rotN t p).1≤m
  omega
theorem sp6_le (k:Nat) (h:k < 6):0≤(sp6.getD k (0,0)).1∧(sp6.getD k (0,0)).1≤5∧0≤(sp6.getD k (0,0)).2∧(sp6.getD k (0,0)).2≤5:=by
 have:k=0∨k=1∨k=2∨k=3∨k=4∨k=5:=by omega
 rcases this with rfl | rfl | rfl | rfl | rfl | rfl <;> decide
theorem Ziz (k t:Nat) (h:k < 6) : -5≤(rotN t (sp6.getD k (0,0))).1∧(rotN t (sp6.getD k (0,0))).1≤5 ∧ -5≤(rotN t (sp6.getD k (0,0))).2∧(rotN t (sp6.getD k (0,0))).2≤5:=by
 obtain ⟨a,b,c,d⟩:=sp6_le k h
 exact Zk2 (by omega) b (by omega) d t
theorem sp6_at {i:Nat}:atI (sp6.map dR) ((i:Int) % 6)=some (dR (sp6.getD (i % 6) (0,0))):=by
 have h:i % 6 < 6:=Nat.mod_lt _ (by decide)
 have e:(i:Int) % 6=((i % 6:Nat):Int):=by omega
 rw [e]
 generalize i % 6=j at h
 have:j=0∨j=1∨j=2∨j=3∨j=4∨j=5:=by omega
 rcases this with rfl | rfl | rfl | rfl | rfl | rfl <;> rfl
structure Rg2 (m:Int) (ps:List F2):Prop where
 nd:ps.Nodup
 l3:3≤ps.length
 l24:ps.length≤24
 le:∀ p∈ps,-m≤p.1∧p.1≤m ∧ -m≤p.2∧p.2≤m
theorem sq0 (x:Int):0≤x * x:=by
 rcases Int.le_total 0 x with h | h
 ·exact Int.mul_nonneg h h
 ·have:=Int.mul_nonneg (Int.neg_nonneg_of_nonpos h) (Int.neg_nonneg_of_nonpos h)
  rwa [Int.neg_mul_neg] at this
theorem Zjz:((List.range 24).all fun a=>(List.range 24).all fun b=>decide (a=b) || decide ((spk a).1 * (spk b).2 - (spk a).2 * (spk b).1≠0) || decide ((spk a).1 * (spk b).1 + (spk a).2 * (spk b).2 < 0))=true:=by decide +kernel
theorem Zl2 {a b:Nat} (ha:a < 24) (hb:b < 24) (h:a≠b):(spk a).1 * (spk b).2 - (spk a).2 * (spk b).1≠0∨(spk a).1 * (spk b).1 + (spk a).2 * (spk b).2 < 0:=by
 have h1:=List.all_eq_true.mp Zjz a (List.mem_range.mpr ha)
 have h2:=List.all_eq_true.mp h1 b (List.mem_range.mpr hb)
 simp only [Bool.or_eq_true,decide_eq_true_eq] at h2
 rcases h2 with (h2 | h2) | h2
 ·exact absurd h2 h
 ·exact .inl h2
 ·exact .inr h2
theorem Zmh {p q:Nat×Int} (hp:p.1 < 24) (hq:q.1 < 24) (lp:1≤p.2) (lq:1≤q.2) (h:p.1≠q.1):spt p≠spt q:=by
 intro e
 have e1:p.2 * (spk p.1).1=q.2 * (spk q.1).1:=congrArg (·.1) e
 have e2:p.2 * (spk p.1).2=q.2 * (spk q.1).2:=congrArg (·.2) e
 have z:=Zl2 hp hq h
 generalize (spk p.1).1=a at *
 generalize (spk p.1).2=b at *
 generalize (spk q.1).1=c at *
 generalize (spk q.1).2=d at *
 generalize p.2=l at *
 generalize q.2=m at *
 have lm:0 < l * m:=Int.mul_pos (by omega) (by omega)
 rcases z with z | z
 ·refine z ?_
  have:(l * m) * (a * d - b * c)=0:=by
   have q1:l * a * (m * d)=m * c * (l * b):=by rw [e1,e2]
   grind
  exact (Int.mul_eq_zero.mp this).resolve_left (by omega)
 ·have q1:(l * m) * (a * c + b * d)=(m * c) * (m * c) + (m * d) * (m * d):=by
   have r1:l * a * (m * c)=m * c * (m * c):=by rw [e1]
   have r2:l * b * (m * d)=m * d * (m * d):=by rw [e2]
   grind
  have q2:(l * m) * (a * c + b * d) < 0:=Int.mul_neg_of_pos_of_neg lm z
  have s1:=sq0 (m * c)
  have s2:=sq0 (m * d)
  omega
theorem Znn {fa mo:Int} {sel:List (Nat×Int)} (h:StarOk fa mo sel) (m2:mo≤24) (f1:1≤fa):Rg2 (5 * fa) (sel.map spt):=by
 have pw:sel.Pairwise fun a b=>spt a≠spt b:=by
  refine List.Pairwise.imp_of_mem (fun {a b} ha hb hab=>?_) h.pw
  obtain ⟨a1,a2,_⟩:=h.mem a ha
  obtain ⟨b1,b2,_⟩:=h.mem b hb
  exact Zmh a1 b1 a2 b2 (by omega)
 refine ⟨List.pairwise_map.mpr pw,?_,?_,fun p hp=>?_⟩
 ·rw [List.length_map]
  obtain ⟨s,s8,hs⟩:=h.must
  obtain ⟨l0,h0⟩:=hs s (by omega) (by omega)
  obtain ⟨l1,h1⟩:=hs (s + 8) (by omega) (by omega)
  obtain ⟨l2,h2⟩:=hs (s + 16) (by omega) (by omega)
  have:([s,s + 8,s + 16]:List Nat).length≤(sel.map (·.1)).length:=Tab.sub_len (by simp) fun x hx=>by
   simp only [List.mem_cons,List.not_mem_nil,or_false] at hx
   rcases hx with rfl | rfl | rfl
   ·exact List.mem_map.mpr ⟨_,h0,rfl⟩
   ·exact List.mem_map.mpr ⟨_,h1,rfl⟩
   ·exact List.mem_map.mpr ⟨_,h2,rfl⟩
  rw [List.length_map] at this
  exact this
 ·rw [List.length_map]
  have:=h.len
  omega
 ·obtain ⟨q,hq,rfl⟩:=List.mem_map.mp hp
  obtain ⟨a,b,c⟩:=h.mem q hq
  obtain ⟨x1,x2,y1,y2⟩:=Ziz (q.1 % 6) (q.1 / 6) (Nat.mod_lt _ (by decide))
  have:∀ x:Int,-5≤x→x≤5 → -(5 * fa)≤q.2 * x∧q.2 * x≤5 * fa:=fun x h1 h2=>by
   have u1:q.2 * x≤q.2 * 5:=Int.mul_le_mul_of_nonneg_left h2 (by omega)
   have u2:q.2 * (-5)≤q.2 * x:=Int.mul_le_mul_of_nonneg_left h1 (by omega)
   omega
  obtain ⟨r1,r2⟩:=this _ x1 x2
  obtain ⟨r3,r4⟩:=this _ y1 y2
  exact ⟨r1,r2,r3,r4⟩
end Cut
namespace Cut
open PySem L2 L3
def dF2 (ps:List F2):D:=.lst (ps.map dR)
end Cut
namespace L3
open PySem L2
theorem ZcB {h:Cut.F2→D} {u:UE} {fs:List Sl}:∀ {rs:List Cut.F2} {v0 v1:Sl} {k:List D→Prop},(∀ r∈rs,∀ k:D→Prop,k (h r)→u (.val (.int r.1) :: .val (.int r.2) :: fs) k)→k (rs.map h)→Za8 (Zfm 2 (Zba (Zay 0) (Zba (Zay 1) Zfl))) Zbd u (rs.map Cut.dR) (v0 :: v1 :: fs) k
 | [],_,_,_,_,hk=>hk
 | r :: rs,v0,v1,k,hu,hk=>by
  refine ⟨_,rfl,rfl,_,_,rfl,_,_,rfl,rfl,?_⟩
  show (if true=true then u (.val (.int r.1) :: .val (.int r.2) :: fs) fun y=>Za8 (Zfm 2 (Zba (Zay 0) (Zba (Zay 1) Zfl))) Zbd u (rs.map Cut.dR) (.val (.int r.1) :: .val (.int r.2) :: fs) fun ys=>k (y :: ys) else Za8 (Zfm 2 (Zba (Zay 0) (Zba (Zay 1) Zfl))) Zbd u (rs.map Cut.dR) (.val (.int r.1) :: .val (.int r.2) :: fs) k)
  rw [if_pos rfl]
  exact hu r List.mem_cons_self _ (ZcB (fun q hq=>hu q (List.mem_cons_of_mem _ hq)) hk)
end L3
namespace Cut
open PySem L2 L3
abbrev RR:=List (List F2)
end Cut
namespace Cut
open PySem L2 L3
open PySem.Builtin.Int (intBits)
def edL (ps:List F2):List (F2×F2):=(List.range ps.length).map fun i=>(ps.getD ((i + ps.length - 1) % ps.length) (0,0),ps.getD i (0,0))
theorem Zkj {ps:List F2} {i:Nat} (h:i < ps.length):(edL ps).take (i + 1)=(edL ps).take i ++ [(ps.getD ((i + ps.length - 1) % ps.length) (0,0),ps.getD i (0,0))]:=by
 unfold edL
 rw [← List.map_take,← List.map_take,List.take_range,List.take_range,show min (i + 1) ps.length=i + 1 by omega,show min i ps.length=i by omega,List.range_succ,List.map_append]
 rfl
theorem Znl (ps:List F2):(edL ps).take ps.length=edL ps:=List.take_of_length_le (by unfold edL; simp)
theorem Zh0 (ps:List F2):sds ps=(List.range ps.length).map fun i=>(ps.getD i (0,0),ps.getD ((i + 1) % ps.length) (0,0)):=by
 unfold sds
 apply List.ext_getElem
 ·simp; omega
 ·intro i h1 h2
  have hi:i < ps.length:=by simpa using h2
  simp only [List.getElem_zip,List.getElem_map,List.getElem_range]
  refine Prod.ext (by simp [hi]) ?_
  show (List.drop 1 ps ++ List.take 1 ps)[i]'_=_
  by_cases z:i + 1 < ps.length
  ·rw [List.getElem_append_left (by simp; omega),List.getElem_drop,Nat.mod_eq_of_lt z]
   simp [z,Nat.add_comm 1 i]
  ·have e:i + 1=ps.length:=by omega
   rw [List.getElem_append_right (by simp; omega)]
   have m0:(i + 1) % ps.length=0:=by rw [e,Nat.mod_self]
   simp [m0,show i - (ps.length - 1)=0 by omega]
   have:0 < ps.length:=by omega
   cases ps with
   | nil=>simp at this
   | cons a t=>simp
theorem Zl1 (n:Nat):((List.range n).map fun i=>(i + n - 1) % n).Perm (List.range n):=by
 cases n with
 | zero=>exact .refl _
 | succ m =>
  have e:((List.range (m + 1)).map fun i=>(i + (m + 1) - 1) % (m + 1))=m :: List.range m:=by
   apply List.ext_getElem
   ·simp
   ·intro i h1 h2
    have hi:i < m + 1:=by simpa using h1
    cases i with
    | zero=>simp [Nat.mod_eq_of_lt]
    | succ j =>
     simp only [List.getElem_map,List.getElem_range,List.getElem_cons_succ]
     rw [show j + 1 + (m + 1) - 1=j + (m + 1) by omega,Nat.add_mod_right,Nat.mod_eq_of_lt (by omega)]
  rw [e,List.range_succ]
  exact (List.perm_append_comm (l₁:=[m])).trans (.refl _)
theorem Zl5 (ps:List F2):(edL ps).Perm (sds ps):=by
 rw [Zh0]
 have e:edL ps=((List.range ps.length).map fun i=>(i + ps.length - 1) % ps.length).map fun i=>(ps.getD i (0,0),ps.getD ((i + 1) % ps.length) (0,0)):=by
  unfold edL
  rw [List.map_map]
  refine List.map_congr_left fun i hi=>?_
  have hi:=List.mem_range.mp hi
  refine Prod.ext rfl ?_
  show ps.getD i (0,0)=ps.getD (((i + ps.length - 1) % ps.length + 1) % ps.length) (0,0)
  congr 1
  cases i with
  | zero =>
   rw [Nat.zero_add,Nat.mod_eq_of_lt (show ps.length - 1 < ps.length by omega),show ps.length - 1 + 1=ps.length by omega,Nat.mod_self]
  | succ j =>
   rw [show j + 1 + ps.length - 1=j + ps.length by omega,Nat.add_mod_right,Nat.mod_eq_of_lt (show j < ps.length by omega),Nat.mod_eq_of_lt hi]
 rw [e]
 exact (Zl1 _).map _
def smR (rs:RR) (d:F2):Int:=(rs.map fun r=>smD d (sds r)).sum
theorem smD_ed (d:F2) (ps:List F2):smD d (edL ps)=smD d (sds ps):=ZjU d (Zl5 ps)
def kD (d:F2):List (List Int):=[[d.1,d.2]]
theorem Zcq {a b:F2} (h:kD a=kD b):a=b:=by
 unfold kD at h
 simp at h
 exact Prod.ext h.1 h.2
structure DcOk {α:Type} (ks:List (List (List Int))) (vs:List α) (z:α) (V:F2→α):Prop where
 nd:ks.Nodup
 len:vs.length=ks.length
 ky:∀ k∈ks,∃ d,k=kD d
 at_:∀ d,(lkA ks vs (kD d)).getD z=V d
theorem dc_start {α:Type} {z:α}:DcOk [] [] z fun _=>z:=⟨List.nodup_nil,rfl,fun k h=>by simp at h,fun d=>by simp [lkA]⟩
theorem DcOk.put {α:Type} {ks:List (List (List Int))} {vs:List α} {z:α} {V V':F2→α} (h:DcOk ks vs z V) (d0:F2) (x:α) (h1:V' d0=x) (h2:∀ d,d≠d0→V' d=V d):DcOk (ptK ks (kD d0)) (ptA ks vs (kD d0) x) z V':=by
 refine ⟨ZgN h.nd,(Zgp h.len).1,fun k hk=>?_,fun d=>?_⟩
 ·unfold ptK at hk
  split at hk
  ·exact h.ky k hk
  ·rcases List.mem_append.mp hk with hk | hk
   ·exact h.ky k hk
   ·exact ⟨d0,List.mem_singleton.mp hk⟩
 ·rw [lk_put _ _ _ h.len]
  by_cases e:d=d0
  ·subst e; rw [if_pos rfl,h1]; rfl
  ·rw [if_neg (fun q=>e (Zcq q)),h.at_,h2 d e]
theorem DcOk.ext {α:Type} {ks:List (List (List Int))} {vs:List α} {z:α} {V V':F2→α} (h:DcOk ks vs z V) (e:∀ d,V d=V' d):DcOk ks vs z V':=⟨h.nd,h.len,h.ky,fun d=>by rw [h.at_,e]⟩
def dMk (x:F2×F2):D:=.tup [dR x.1,dR x.2]
structure MkOk (S:F2→Int) (n:Int) (L:List (F2×F2)):Prop where
 pw:L.Pairwise fun a b=>lexI [a.1.1,a.1.2] [b.1.1,b.1.2]=true
 mem:∀ d r,(d,r)∈L↔S d≠0∧r=nrat (S d) n
theorem Zc7:∀ {L M:List (F2×F2)},L.Pairwise (fun a b=>lexI [a.1.1,a.1.2] [b.1.1,b.1.2]=true)→M.Pairwise (fun a b=>lexI [a.1.1,a.1.2] [b.1.1,b.1.2]=true)→(∀ x,x∈L↔x∈M)→L=M
 | [],[],_,_,_=>rfl
 | [],b :: M,_,_,h=>absurd ((h b).mpr List.mem_cons_self) (by simp)
 | a :: L,[],_,_,h=>absurd ((h a).mp List.mem_cons_self) (by simp)
 | a :: L,b :: M,p,q,h=>by
  obtain ⟨p1,p2⟩:=List.pairwise_cons.mp p
  obtain ⟨q1,q2⟩:=List.pairwise_cons.mp q
  have ir:∀ x:F2×F2,¬ lexI [x.1.1,x.1.2] [x.1.1,x.1.2]=true:=fun x=>by rw [ZaH]; simp
  have e:a=b:=by
   rcases List.mem_cons.mp ((h a).mp List.mem_cons_self) with z | z
   ·exact z
   ·rcases List.mem_cons.mp ((h b).mpr List.mem_cons_self) with y | y
    ·exact y.symm
    ·exact absurd (ZbQ (p1 b y) (q1 a z)) (ir a)
  subst e
  congr 1
  refine Zc7 p2 q2 fun x=>?_
  have hx:=h x
  constructor
  ·intro z
   rcases List.mem_cons.mp (hx.mp (List.mem_cons_of_mem _ z)) with y | y
   ·subst y; exact absurd (p1 x z) (ir x)
   ·exact y
  ·intro z
   rcases List.mem_cons.mp (hx.mpr (List.mem_cons_of_mem _ z)) with y | y
   ·subst y; exact absurd (q1 x z) (ir x)
   ·exact y
theorem MkOk.uniq {S:F2→Int} {n:Int} {L M:List (F2×F2)} (h:MkOk S n L) (g:MkOk S n M):L=M:=Zc7 h.pw g.pw fun x=>by rw [h.mem x.1 x.2,g.mem x.1 x.2]
theorem ZeO {ks:List (List (List Int))} (nd:ks.Nodup) (ky:∀ k∈ks,∃ d,k=kD d) (pw:ks.Pairwise Zb6):∃ ds:List F2,ks=ds.map kD∧ds.Pairwise fun a b=>lexI [a.1,a.2] [b.1,b.2]=true:=by
 induction ks with
 | nil=>exact ⟨[],rfl,.nil⟩
 | cons k ks ih =>
  obtain ⟨n1,n2⟩:=List.nodup_cons.mp nd
  obtain ⟨p1,p2⟩:=List.pairwise_cons.mp pw
  obtain ⟨ds,e,pd⟩:=ih n2 (fun x hx=>ky x (List.mem_cons_of_mem _ hx)) p2
  obtain ⟨d,rfl⟩:=ky k List.mem_cons_self
  refine ⟨d :: ds,by rw [e]; rfl,List.pairwise_cons.mpr ⟨fun b hb=>?_,pd⟩⟩
  have mb:kD b∈ks:=by rw [e]; exact List.mem_map.mpr ⟨b,hb,rfl⟩
  have h1:lexI [b.1,b.2] [d.1,d.2]=false:=p1 _ mb
  have ne:[d.1,d.2]≠[b.1,b.2]:=fun z=>n1 (by
   have:kD d=kD b:=by unfold kD; rw [z]
   rw [this]; exact mb)
  exact (ZbT ne).resolve_right (by rw [h1]; simp)
theorem Zen {α:Type} {ks:List (List (List Int))} {vs:List α} {z:α} {V:F2→α} (h:DcOk ks vs z V) {d:F2} (m:kD d∈ks):lkA ks vs (kD d)=some (V d):=by
 cases e:lkA ks vs (kD d) with
 | none=>exact absurd m ((Zca h.len).mp e)
 | some x=>have:=h.at_ d; rw [e] at this; rw [← this]; rfl
theorem Zhp {α:Type} {ks:List (List (List Int))} {vs:List α} {z:α} {V:F2→α} (h:DcOk ks vs z V) {d:F2} (m:kD d ∉ ks):V d=z:=by
 rw [← h.at_ d,(Zca h.len).mpr m]; rfl
theorem Zk1 {ks ks':List (List (List Int))} {vs:List Int} {S:F2→Int} (h:DcOk ks vs 0 S) (pm:ks'.Perm ks) (pw:ks'.Pairwise Zb6) (n:Int):∃ ds:List F2,ks'=ds.map kD∧(∀ d∈ds,lkA ks vs (kD d)=some (S d))∧MkOk S n ((ds.filter fun d=>decide (S d≠0)).map fun d=>(d,nrat (S d) n)):=by
 obtain ⟨ds,e,pd⟩:=ZeO (pm.nodup_iff.mpr h.nd) (fun k hk=>h.ky k (pm.mem_iff.mp hk)) pw
 have mem:∀ d,d∈ds↔kD d∈ks:=fun d=>by
  rw [← pm.mem_iff,e]
  constructor
  ·intro z; exact List.mem_map.mpr ⟨d,z,rfl⟩
  ·intro z
   obtain ⟨b,hb,q⟩:=List.mem_map.mp z
   rw [← Zcq q]; exact hb
 refine ⟨ds,e,fun d hd=>Zen h ((mem d).mp hd),?_,fun d r=>?_⟩
 ·exact List.pairwise_map.mpr (List.Pairwise.filter _ pd)
 ·simp only [List.mem_map,List.mem_filter,decide_eq_true_eq,Prod.mk.injEq]
  constructor
  ·rintro ⟨a,⟨_,b⟩,rfl,rfl⟩; exact ⟨b,rfl⟩
  ·rintro ⟨a,rfl⟩
   refine ⟨d,⟨(mem d).mpr ?_,a⟩,rfl,rfl⟩
   by_cases z:kD d∈ks
   ·exact z
   ·exact absurd (Zhp h z) a
theorem Zk4 {ps:List F2} {i:Nat} (h:i < ps.length):atI (ps.map dR) ((i:Int) - 1)=some (dR (ps.getD ((i + ps.length - 1) % ps.length) (0,0)))∧atI (ps.map dR) (i:Int)=some (dR (ps.getD i (0,0))):=by
 have at_:∀ j,j < ps.length→(ps.map dR)[j]?=some (dR (ps.getD j (0,0))):=fun j hj=>by simp [hj]
 constructor
 ·unfold atI ixN
  rw [List.length_map]
  cases i with
  | zero =>
   rw [if_neg (by omega),if_pos (by omega)]
   show (ps.map dR)[_]?=_
   rw [show ((0:Nat):Int) - 1 + (ps.length:Int)=((ps.length - 1:Nat):Int) by omega,Int.toNat_natCast,at_ _ (by omega),Nat.zero_add,Nat.mod_eq_of_lt (show ps.length - 1 < ps.length by omega)]
  | succ j =>
   rw [if_pos (by omega),if_pos (by omega)]
   show (ps.map dR)[_]?=_
   rw [show ((j + 1:Nat):Int) - 1=(j:Int) by omega,Int.toNat_natCast,at_ _ (by omega),show j + 1 + ps.length - 1=j + ps.length by omega,Nat.add_mod_right,Nat.mod_eq_of_lt (show j < ps.length by omega)]
 ·unfold atI ixN
  rw [List.length_map,if_pos (by omega),if_pos (by omega)]
  show (ps.map dR)[_]?=_
  rw [Int.toNat_natCast,at_ _ h]
theorem ed_mem {ps:List F2} {i:Nat} (h:i < ps.length):(ps.getD ((i + ps.length - 1) % ps.length) (0,0),ps.getD i (0,0))∈edL ps:=List.mem_map.mpr ⟨i,List.mem_range.mpr h,rfl⟩
theorem Zd4 {ps:List F2} {i:Nat} (h:i < ps.length):ps.getD i (0,0)∈ps:=by simp [h]
theorem Zc4 (d:F2) (a:RR) (r:List F2):smR (a ++ [r]) d=smR a d + smD d (sds r):=by
 unfold smR
 rw [List.map_append,List.sum_append]
 simp
def pN (n:Int) (p:F2):P3:=npt p.1 p.2 n
theorem Zns {n:Int} (hn:0 < n) (p q:F2):nP (sld (trn (pN n p)) (pN n q))=npt (q.1 - p.1) (q.2 - p.2) n:=by
 obtain ⟨⟨a0,_⟩,a1,a2,_⟩:=ZaL (a:=p.1) (b:=p.2) (Int.ne_of_gt hn)
 obtain ⟨⟨b0,_⟩,b1,b2,_⟩:=ZaL (a:=q.1) (b:=q.2) (Int.ne_of_gt hn)
 obtain ⟨c0,c1,c2,_⟩:=ZaL (a:=q.1 - p.1) (b:=q.2 - p.2) (Int.ne_of_gt hn)
 unfold nP sld trn pN
 generalize npt p.1 p.2 n=P at *
 generalize npt q.1 q.2 n=Q at *
 generalize npt (q.1 - p.1) (q.2 - p.2) n=R at *
 obtain ⟨x,y,z⟩:=P
 obtain ⟨u,v,w⟩:=Q
 obtain ⟨r,s,t⟩:=R
 dsimp only at *
 have zw:w * z≠0:=Int.ne_of_gt (Int.mul_pos b0 a0)
 refine ZkY c0 zw ?_ ?_
 ·refine Int.eq_of_mul_eq_mul_right (Int.ne_of_gt hn) ?_
  have e1:r * (w * z) * n=(r * n) * (w * z):=by grind
  have e2:(u * z + -x * w) * t * n=((u * n) * z - (x * n) * w) * t:=by grind
  rw [e1,e2,c1,a1,b1]
  grind
 ·refine Int.eq_of_mul_eq_mul_right (Int.ne_of_gt hn) ?_
  have e1:s * (w * z) * n=(s * n) * (w * z):=by grind
  have e2:(v * z + -y * w) * t * n=((v * n) * z - (y * n) * w) * t:=by grind
  rw [e1,e2,c2,a2,b2]
  grind
theorem Zl4 (f:F2→P3) (ps:List F2):(ps.map f).zip ((ps.map f).drop 1 ++ (ps.map f).take 1)=(sds ps).map fun e=>(f e.1,f e.2):=by
 unfold sds
 rw [← List.map_drop,← List.map_take,← List.map_append,List.zip_map]
 rfl
theorem Zga {n:Int} (hn:0 < n) (s t:Int):nrat ((nrat s n).1 * (nrat t n).2 + (nrat t n).1 * (nrat s n).2) ((nrat s n).2 * (nrat t n).2)=nrat (s + t) n:=by
 obtain ⟨⟨a0,_⟩,a1,_⟩:=Zaw (t:=s) (Int.ne_of_gt hn)
 obtain ⟨⟨b0,_⟩,b1,_⟩:=Zaw (t:=t) (Int.ne_of_gt hn)
 generalize nrat s n=S at *
 generalize nrat t n=T at *
 obtain ⟨x,y⟩:=S
 obtain ⟨u,v⟩:=T
 dsimp only at *
 refine Zch (Int.ne_of_gt (Int.mul_pos a0 b0)) (Int.ne_of_gt hn) ?_
 have e1:(x * v + u * y) * n=(x * n) * v + (u * n) * y:=by grind
 rw [e1,a1,b1]
 grind
theorem Za4 {n:Int} (hn:0 < n):nrat 0 n=(0,1):=ZfN ⟨by decide,by decide⟩ (Int.ne_of_gt hn) (by grind)
theorem Zbj {n s:Int} (hn:0 < n):nrat s n=(0,1)↔s=0:=by
 constructor
 ·intro h
  obtain ⟨_,a1,_⟩:=Zaw (t:=s) (Int.ne_of_gt hn)
  rw [h] at a1
  dsimp only at a1
  omega
 ·rintro rfl; exact Za4 hn
theorem Zhn {d:F2} {M:Int} (h0:0≤M):∀ {es:List (F2×F2)},(∀ e∈es,-M≤parE e∧parE e≤M) → -(M * es.length)≤smD d es∧smD d es≤M * es.length
 | [],_=>by simp [smD]
 | e :: es,h=>by
  obtain ⟨i1,i2⟩:=Zhn h0 (d:=d) (es:=es) fun x hx=>h x (List.mem_cons_of_mem _ hx)
  obtain ⟨j1,j2⟩:=h e List.mem_cons_self
  have el:M * ((e :: es).length:Int)=M * (es.length:Int) + M:=by
   rw [List.length_cons]; push_cast; grind
  rw [el,smD]
  split <;> omega
theorem ZiD {a b M:Int} (h:a≠0∨b≠0) (a1 : -M≤a) (a2:a≤M) (b1 : -M≤b) (b2:b≤M) : -M≤wpar a b∧wpar a b≤M:=by
 obtain ⟨d1,d2⟩:=ZgA a b
 have key:(wpar a b).natAbs≤M.natAbs:=by
  rcases h with h | h
  ·have:=Nat.le_of_dvd (by omega) (Int.natAbs_dvd_natAbs.mpr d1); omega
  ·have:=Nat.le_of_dvd (by omega) (Int.natAbs_dvd_natAbs.mpr d2); omega
 omega
theorem ZlH {rs:RR} {M:Int} {d:F2} (h0:0≤M):(∀ r∈rs,∀ e∈sds r,-M≤parE e∧parE e≤M) → -(M * (rs.map List.length).sum)≤smR rs d∧smR rs d≤M * (rs.map List.length).sum:=by
 induction rs with
 | nil=>intro _; simp [smR]
 | cons r rs ih =>
  intro h
  obtain ⟨i1,i2⟩:=ih fun x hx=>h x (List.mem_cons_of_mem _ hx)
  obtain ⟨j1,j2⟩:=Zhn (d:=d) h0 (h r List.mem_cons_self)
  have l:(sds r).length=r.length:=by
   unfold sds
   rw [List.length_zip,List.length_append,List.length_drop,List.length_take]; omega
  rw [l] at j1 j2
  have e:smR (r :: rs) d=smD d (sds r) + smR rs d:=by unfold smR; rw [List.map_cons,List.sum_cons]
  have el:M * (((r :: rs).map List.length).sum:Int)=M * (r.length:Int) + M * ((rs.map List.length).sum:Int):=by
   rw [List.map_cons,List.sum_cons]; push_cast; grind
  rw [e,el]
  omega
end Cut
namespace L3
open PySem L2
theorem Zce {α:Type} {f g h:α→D} {P:α→Bool} {ut:UT} {u:UE} {fs:List Sl}:∀ {rs:List α} {v0 v1:Sl} {k:List D→Prop},(∀ r∈rs,∀ k:Bool→Prop,k (P r)→ut (.val (f r) :: .val (g r) :: fs) k)→(∀ r∈rs,∀ k:D→Prop,k (h r)→u (.val (f r) :: .val (g r) :: fs) k)→k ((rs.filter P).map h)→Za8 (Zfm 2 (Zba (Zay 0) (Zba (Zay 1) Zfl))) ut u (rs.map fun r=>.tup [f r,g r]) (v0 :: v1 :: fs) k
 | [],_,_,_,_,_,hk=>hk
 | r :: rs,v0,v1,k,h1,h2,hk=>by
  refine ⟨_,rfl,rfl,_,_,rfl,_,_,rfl,rfl,?_⟩
  refine h1 r List.mem_cons_self _ ?_
  cases c:P r with
  | true =>
   rw [if_pos rfl]
   refine h2 r List.mem_cons_self _ ?_
   refine Zce (P:=P) (fun x hx=>h1 x (List.mem_cons_of_mem _ hx)) (fun x hx=>h2 x (List.mem_cons_of_mem _ hx)) ?_
   rw [List.filter_cons_of_pos c] at hk
   exact hk
  | false =>
   rw [if_neg Bool.false_ne_true]
   refine Zce (P:=P) (fun x hx=>h1 x (List.mem_cons_of_mem _ hx)) (fun x hx=>h2 x (List.mem_cons_of_mem _ hx)) ?_
   rw [List.filter_cons_of_neg (by rw [c]; decide)] at hk
   exact hk
end L3
namespace Cut
open PySem L2 L3
open PySem.Builtin.Int (intBits)
theorem Zfv {α:Type} {V:F2→α}:∀ {ks:List (List (List Int))} {vs:List α},ks.Nodup→vs.length=ks.length→(∀ k∈ks,∃ d,k=kD d)→(∀ d,kD d∈ks→lkA ks vs (kD d)=some (V d))→∃ ds:List F2,ks=ds.map kD∧vs=ds.map V
 | [],[],_,_,_,_=>⟨[],rfl,rfl⟩
 | [],_ :: _,_,l,_,_=>by simp at l
 | _ :: _,[],_,l,_,_=>by simp at l
 | k :: ks,v :: vs,nd,l,ky,at_=>by
  obtain ⟨d,rfl⟩:=ky k List.mem_cons_self
  obtain ⟨n1,n2⟩:=List.nodup_cons.mp nd
  have hv:=at_ d List.mem_cons_self
  rw [lkA,if_pos rfl] at hv
  obtain ⟨ds,e1,e2⟩:=Zfv (V:=V) (ks:=ks) (vs:=vs) n2 (by simpa using l) (fun x hx=>ky x (List.mem_cons_of_mem _ hx)) fun x hx=>by
   have:=at_ x (List.mem_cons_of_mem _ hx)
   rw [lkA,if_neg (fun z=>n1 (by rw [z]; exact hx))] at this
   exact this
  exact ⟨d :: ds,by rw [e1]; rfl,by rw [e2,Option.some.inj hv]; rfl⟩
theorem Zh2 (V:F2→F2):∀ ds:List F2,prD false (ds.map kD) ((ds.map V).map dR)=ds.map fun d=>.tup [dR d,dR (V d)]
 | []=>rfl
 | d :: ds=>by
  rw [List.map_cons,List.map_cons,List.map_cons,List.map_cons,prD,Zh2 V ds]
  rfl
def kM (x:F2×F2):List (List Int):=[[x.1.1,x.1.2],[x.2.1,x.2.2]]
theorem ZkT {a b:F2×F2} (h:kM a=kM b):a=b:=by
 unfold kM at h
 simp at h
 exact Prod.ext (Prod.ext h.1.1 h.1.2) (Prod.ext h.2.1 h.2.2)
theorem Znh {S:F2→Int} {n:Int} {ds:List F2} (nd:ds.Nodup) (all:∀ d,S d≠0→d∈ds) {ks':List (List (List Int))} (pm:ks'.Perm (((ds.filter fun d=>decide (S d≠0)).map fun d=>(d,nrat (S d) n)).map kM)) (pw:ks'.Pairwise Zb6):∃ L,ks'.map (keyD true)=L.map dMk∧MkOk S n L:=by
 generalize hX:((ds.filter fun d=>decide (S d≠0)).map fun d=>(d,nrat (S d) n))=X at pm
 have memX:∀ d r,(d,r)∈X↔S d≠0∧r=nrat (S d) n:=fun d r=>by
  rw [← hX]
  simp only [List.mem_map,List.mem_filter,decide_eq_true_eq,Prod.mk.injEq]
  constructor
  ·rintro ⟨a,⟨_,b⟩,rfl,rfl⟩; exact ⟨b,rfl⟩
  ·rintro ⟨a,rfl⟩; exact ⟨d,⟨all d a,a⟩,rfl,rfl⟩
 have ndX:(X.map Prod.fst).Nodup:=by
  rw [← hX,List.map_map]
  show List.Nodup (List.map (fun d=>d) _)
  rw [List.map_id']
  exact nd.filter _
 obtain ⟨L,rfl⟩:∃ L:List (F2×F2),ks'=L.map kM:=by
  have ky:∀ k∈ks',∃ x,k=kM x:=fun k hk=>by
   obtain ⟨x,_,e⟩:=List.mem_map.mp (pm.mem_iff.mp hk)
   exact ⟨x,e.symm⟩
  clear pm pw
  induction ks' with
  | nil=>exact ⟨[],rfl⟩
  | cons k ks ih =>
   obtain ⟨L,e⟩:=ih fun x hx=>ky x (List.mem_cons_of_mem _ hx)
   obtain ⟨x,e2⟩:=ky k List.mem_cons_self
   exact ⟨x :: L,by rw [e,e2]; rfl⟩
 have memL:∀ x,x∈L↔x∈X:=fun x=>by
  have a:kM x∈L.map kM↔x∈L:=⟨fun h=>by
   obtain ⟨y,hy,e⟩:=List.mem_map.mp h
   rw [← ZkT e]; exact hy,fun h=>List.mem_map.mpr ⟨x,h,rfl⟩⟩
  have b:kM x∈X.map kM↔x∈X:=⟨fun h=>by
   obtain ⟨y,hy,e⟩:=List.mem_map.mp h
   rw [← ZkT e]; exact hy,fun h=>List.mem_map.mpr ⟨x,h,rfl⟩⟩
  rw [← a,← b,pm.mem_iff]
 have ndL:(L.map Prod.fst).Nodup:=by
  have e:∀ Y:List (F2×F2),(Y.map kM).map (fun k=>k.headD [])=(Y.map Prod.fst).map fun d=>[d.1,d.2]:=fun Y=>by
   rw [List.map_map,List.map_map]; rfl
  have p2:=pm.map fun k=>k.headD []
  rw [e,e] at p2
  have n2:((X.map Prod.fst).map fun d:F2=>[d.1,d.2]).Nodup:=List.pairwise_map.mpr (ndX.imp fun {a b} h z=>h (by simp at z; exact Prod.ext z.1 z.2))
  have n3:=p2.nodup_iff.mpr n2
  exact (List.pairwise_map.mp n3).imp fun {a b} h z=>h (by rw [z])
 refine ⟨L,by rw [List.map_map]; rfl,?_,fun d r=>by rw [memL,memX]⟩
 have pl:=List.pairwise_map.mp pw
 have np:=List.pairwise_map.mp ndL
 refine (pl.and np).imp fun {a b} h=>?_
 obtain ⟨h1,h2⟩:=h
 have h1:lexI [b.1.1,b.1.2] [a.1.1,a.1.2]=false:=h1
 have ne:[a.1.1,a.1.2]≠[b.1.1,b.1.2]:=fun z=>h2 (by simp at z; exact Prod.ext z.1 z.2)
 exact (ZbT ne).resolve_right (by rw [h1]; simp)
end Cut
namespace L3
open PySem L2
theorem Zd8 {α:Type} {f g:α→D} {s:US} {U:UEnds} {i j:Nat} (I:List α→List Sl→Prop):∀ {rs done:List α} {ρ:List Sl},I done ρ →
  (∀ pre e rest ρ,done ++ rs=pre ++ e :: rest→I pre ρ→∀ N:List Sl→Prop,(∀ r',I (pre ++ [e]) r'→N r')→s { U with nx:=N,ct:=N,bk:=U.nx } ((ρ.set i (.val (f e))).set j (.val (g e))))→(∀ ρ,I (done ++ rs) ρ→U.nx ρ) →
  forR (Zfm 2 (Zba (Zay i) (Zba (Zay j) Zfl))) s U (rs.map fun e=>.tup [f e,g e]) ρ
 | [],done,ρ,h0,_,h2=>h2 ρ (by rw [List.append_nil]; exact h0)
 | e :: rs,done,ρ,h0,h1,h2=>by
  refine ⟨_,rfl,rfl,_,_,rfl,_,_,rfl,rfl,h1 done e rs ρ rfl h0 _ fun r' hr=>?_⟩
  have eq:done ++ e :: rs=(done ++ [e]) ++ rs:=by simp
  rw [eq] at h1 h2
  exact Zd8 I hr h1 h2
end L3
namespace Cut
open PySem L2 L3
open PySem.Builtin.Int (intBits)
theorem Zl7 (n:Int) (r:List F2):(((r.map (pN n)).zip ((r.map (pN n)).drop 1 ++ (r.map (pN n)).take 1)).map dPr)=(sds r).map fun e=>.tup [dP (pN n e.1),dP (pN n e.2)]:=by
 rw [Zl4,List.map_map]; rfl
theorem lk_dR (ks:List (List (List Int))) (vs:List F2) (k:List (List Int)):(lkA ks (vs.map dR) k).getD (.tup [.int 0,.int 1])=dR ((lkA ks vs k).getD (0,1)):=by
 rw [ZeF]
 cases lkA ks vs k <;> rfl
theorem Zng (ps:List P3):(eds ps).length=ps.length:=by
 unfold eds
 generalize lz (0,0,1) ps=z
 induction ps generalizing z with
 | nil=>rfl
 | cons a r ih=>show (prZ a r).length + 1=_; rw [ih]; rfl
def DrOk (d:F2):Prop:=Int.gcd d.1 d.2=1∧(0 < d.2∨d.2=0∧d.1=1)
theorem dr_of {a b:Int} (h:a≠0∨b≠0):DrOk (wdir a b):=⟨(Zbc h).2.2.1,(Zbc h).2.2.2⟩
theorem DrOk.nz {d:F2} (h:DrOk d):d.1≠0∨d.2≠0:=by
 rcases h.2 with z | ⟨_,z⟩
 ·exact .inr (by omega)
 ·exact .inl (by omega)
theorem wd_of {a b p:Int} {d:F2} (hd:DrOk d) (p0:p≠0) (h1:a=p * d.1) (h2:b=p * d.2):wdir a b=d∧wpar a b=p:=by
 have nz:a≠0∨b≠0:=by
  rcases hd.nz with z | z
  ·exact .inl (by rw [h1]; exact Int.mul_ne_zero p0 z)
  ·exact .inr (by rw [h2]; exact Int.mul_ne_zero p0 z)
 obtain ⟨s1,s2,s3,s4⟩:=Zbc nz
 have q0:=Zcd nz
 have g1:Int.gcd a b=p.natAbs:=by rw [Zec h1 h2,hd.1,Nat.mul_one]
 have g2:Int.gcd a b=(wpar a b).natAbs:=by rw [Zec (s:=wpar a b) (x:=(wdir a b).1) (y:=(wdir a b).2) (by rw [Int.mul_comm]; exact s1.symm) (by rw [Int.mul_comm]; exact s2.symm),s3,Nat.mul_one]
 generalize wdir a b=w at s1 s2 s3 s4
 generalize wpar a b=q at s1 s2 q0 g2
 have pq:q=p∨q = -p:=by omega
 have d4:=hd.2
 rcases pq with rfl | rfl
 ·refine ⟨Prod.ext ?_ ?_,rfl⟩
  ·exact Int.eq_of_mul_eq_mul_right p0 (by rw [s1,h1,Int.mul_comm])
  ·exact Int.eq_of_mul_eq_mul_right p0 (by rw [s2,h2,Int.mul_comm])
 ·have e1:w.1 = -d.1:=Int.eq_of_mul_eq_mul_right q0 (by rw [s1,h1]; grind)
  have e2:w.2 = -d.2:=Int.eq_of_mul_eq_mul_right q0 (by rw [s2,h2]; grind)
  omega
theorem wd_hom {x y p:Int} (h:x≠0∨y≠0) (p0:p≠0):wdir (p * x) (p * y)=wdir x y∧wpar (p * x) (p * y)=p * wpar x y:=by
 obtain ⟨s1,s2,_,_⟩:=Zbc h
 refine wd_of (dr_of h) (Int.mul_ne_zero p0 (Zcd h)) ?_ ?_
 ·rw [Int.mul_assoc,Int.mul_comm (wpar x y),s1]
 ·rw [Int.mul_assoc,Int.mul_comm (wpar x y),s2]
structure LnOk (L:F2→F2):Prop where
 hom:∀ (p:Int) (d:F2),L (p * d.1,p * d.2)=(p * (L d).1,p * (L d).2)
 nz:∀ d:F2,(d.1≠0∨d.2≠0)→(L d).1≠0∨(L d).2≠0
 inj:∀ (p q:Int) (d e:F2),p * (L d).1=q * (L e).1→p * (L d).2=q * (L e).2→p * d.1=q * e.1∧p * d.2=q * e.2
theorem Zgn (f:F2→F2) (ps:List F2):sds (ps.map f)=(sds ps).map fun e=>(f e.1,f e.2):=by
 unfold sds
 rw [← List.map_drop,← List.map_take,← List.map_append,List.zip_map]
 rfl
def sclL (s:Int) (d:F2):F2:=(s * d.1,s * d.2)
theorem scl_ok {s:Int} (s0:s≠0):LnOk (sclL s) where
 hom:=fun p d=>by unfold sclL; dsimp only; exact Prod.ext (by grind) (by grind)
 nz:=fun d h=>h.imp (fun z=>Int.mul_ne_zero s0 z) fun z=>Int.mul_ne_zero s0 z
 inj:=fun p q d e h1 h2=>by
  unfold sclL at h1 h2
  dsimp only at h1 h2
  exact ⟨Int.eq_of_mul_eq_mul_right s0 (by grind),Int.eq_of_mul_eq_mul_right s0 (by grind)⟩
theorem MkOk.same {S S':F2→Int} {n:Int} {L:List (F2×F2)} (h:MkOk S n L) (e:∀ d,S' d=S d):MkOk S' n L:=by
 have:S'=S:=funext e
 rw [this]; exact h
structure Rg3 (m:Int) (ps:List F2):Prop where
 ns:∀ e∈sds ps,Zbe e
 l3:3≤ps.length
 l24:ps.length≤24
 le:∀ p∈ps,-m≤p.1∧p.1≤m ∧ -m≤p.2∧p.2≤m
structure RgsW (m:Int) (rs:RR):Prop where
 rg:∀ r∈rs,Rg3 m r
 l8:rs.length≤8
 l24:(rs.map List.length).sum≤24
def mv2 (o x y:Int) (p:F2):F2:=(o * p.1 + x,o * p.2 + y)
theorem mv_st (o x y:Int) (a b:F2):stE (mv2 o x y a,mv2 o x y b)=sclL o (stE (a,b)):=Prod.ext (by show o * b.1 + x - (o * a.1 + x)=o * (b.1 - a.1); grind) (by show o * b.2 + y - (o * a.2 + y)=o * (b.2 - a.2); grind)
def chP (P:F2×F2→Prop):List F2→Prop
 | a :: b :: r=>P (a,b)∧chP P (b :: r)
 | _=>True
theorem Zhr (P:F2×F2→Prop) (z:F2):∀ (x:F2) (l:List F2),(∀ e∈(x :: l).zip (l ++ [z]),P e)↔chP P (x :: l ++ [z])
 | x,[]=>by simp [chP]
 | x,y :: l=>by
  have ih:=Zhr P z y l
  show (∀ e∈(x,y) :: (y :: l).zip (l ++ [z]),P e)↔chP P (x :: y :: (l ++ [z]))
  rw [List.forall_mem_cons,chP,ih]; rfl
theorem ZhE (P:F2×F2→Prop) (x:F2) (l:List F2):(∀ e∈sds (x :: l),P e)↔chP P (x :: l ++ [x]):=by
 have:sds (x :: l)=(x :: l).zip (l ++ [x]):=by unfold sds; rfl
 rw [this,Zhr]
theorem Zc8 (P:F2×F2→Prop) (b:F2) (C:List F2):∀ A:List F2,chP P (A ++ b :: C)↔chP P (A ++ [b])∧chP P (b :: C)
 | []=>by simp [chP]
 | [x]=>by
  show chP P (x :: b :: C)↔chP P [x,b]∧_
  simp [chP]
 | x :: y :: A=>by
  have ih:chP P (y :: (A ++ b :: C))↔chP P (y :: (A ++ [b]))∧chP P (b :: C):=Zc8 P b C (y :: A)
  show chP P (x :: y :: (A ++ b :: C))↔chP P (x :: y :: (A ++ [b]))∧_
  rw [chP,chP,ih,and_assoc]
theorem Zly {n m:Int} (n1:1≤n) (n2:n≤12000000) (m2:m≤1000000000000) {p:F2} (h : -m≤p.1∧p.1≤m ∧ -m≤p.2∧p.2≤m):PtP (pN n p)∧BP 64 (pN n p):=by
 obtain ⟨a,_,_,b1,b2,b3⟩:=ZaL (a:=p.1) (b:=p.2) (n:=n) (by omega)
 refine ⟨a,ZaC ?_ ?_,ZaC ?_ ?_,ZaC ?_ ?_⟩ <;> (unfold pN; omega)
theorem Zei {n s:Int} (n1:1≤n) (n2:n≤12000000) (s1 : -10000000000000≤s) (s2:s≤10000000000000):Low (nrat s n).1 (nrat s n).2∧intBits (nrat s n).1≤4000∧intBits (nrat s n).2≤4000:=by
 obtain ⟨l,_,b1,b2⟩:=Zaw (t:=s) (b:=n) (by omega)
 exact ⟨l,Nat.le_trans (ZaC (by omega) (by omega)) (by decide),Nat.le_trans (ZaC (by omega) (by omega)) (by decide)⟩
abbrev MKs:=List (F2×F2)
end Cut
namespace Tab
open PySem PySem.SetTable
def AllO (owner:Array (Option Nat)) (k:Nat):Prop:=∀ v,v < k→∃ j,owner.getD j none=some v
theorem AllO.put {owner:Array (Option Nat)} {j k:Nat} (h:AllO owner k) (hj:(owner.getD j (some 0)).isNone=true):AllO (owner.setIfInBounds j (some k)) (k + 1):=by
 have jl:j < owner.size:=Nat.lt_of_not_le fun z=>by
  rw [Array.getD_eq_getD_getElem?,Array.getElem?_eq_none_iff.mpr z] at hj
  cases hj
 have je:owner[j]?=some none:=by
  rw [Array.getD_eq_getD_getElem?,Array.getElem?_eq_getElem jl] at hj
  rw [Array.getElem?_eq_getElem jl]
  cases q:owner[j] with
  | none=>rfl
  | some x=>rw [q] at hj; cases hj
 intro v hv
 by_cases e:v=k
 ·refine ⟨j,?_⟩
  rw [Array.getD_eq_getD_getElem?,Array.getElem?_setIfInBounds_self_of_lt jl,e]
  rfl
 ·obtain ⟨i,hi⟩:=h v (by omega)
  refine ⟨i,?_⟩
  have ne:j≠i:=fun z=>by
   subst z
   rw [Array.getD_eq_getD_getElem?,je] at hi
   cases hi
  rw [Array.getD_eq_getD_getElem?,Array.getElem?_setIfInBounds_ne ne,← Array.getD_eq_getD_getElem?]
  exact hi
theorem Zf7 {m:Nat}:∀ (hs:List Int) (owner owner':Array (Option Nat)) (k k':Nat),AllO owner k→(∀ i q fuel j o,SetTable.layClean.free m o fuel i q=some j→(o.getD j (some 0)).isNone=true) →
  hs.foldl (init:=some (owner,k)) (fun acc h=>do
   let (owner,k) ← acc
   let j ← SetTable.layClean.free m owner (turns m) (bits h % (m + 1)) (bits h)
   pure (owner.setIfInBounds j (some k),k + 1))=some (owner',k')→AllO owner' k'
 | [],owner,owner',k,k',o,_,e=>by
  have e:=Option.some.inj e
  cases e
  exact o
 | h :: hs,owner,owner',k,k',o,fr,e=>by
  rw [List.foldl_cons] at e
  cases q:SetTable.layClean.free m owner (turns m) (bits h % (m + 1)) (bits h) with
  | none =>
   exfalso
   have z:∀ l:List Int,l.foldl (init:=(none:Option (Array (Option Nat)×Nat))) (fun acc h=>do
    let (owner,k) ← acc
    let j ← SetTable.layClean.free m owner (turns m) (bits h % (m + 1)) (bits h)
    pure (owner.setIfInBounds j (some k),k + 1))=none:=fun l=>by
    induction l with
    | nil=>rfl
    | cons x l ih=>rw [List.foldl_cons]; exact ih
   have e2:(do
    let (owner,k) ← some (owner,k)
    let j ← SetTable.layClean.free m owner (turns m) (bits h % (m + 1)) (bits h)
    pure (owner.setIfInBounds j (some k),k + 1))=none:=by
    show (do let j ← SetTable.layClean.free m owner (turns m) (bits h % (m + 1)) (bits h); pure (owner.setIfInBounds j (some k),k + 1))=none
    rw [q]; rfl
   rw [e2,z hs] at e
   cases e
  | some j =>
   have e2:(do
    let (owner,k) ← some (owner,k)
    let j ← SetTable.layClean.free m owner (turns m) (bits h % (m + 1)) (bits h)
    pure (owner.setIfInBounds j (some k),k + 1))=some (owner.setIfInBounds j (some k),k + 1):=by
    show (do let j ← SetTable.layClean.free m owner (turns m) (bits h % (m + 1)) (bits h); pure (owner.setIfInBounds j (some k),k + 1))=_
    rw [q]; rfl
   rw [e2] at e
   exact Zf7 hs _ _ _ _ (o.put (fr _ _ _ _ _ q)) fr e
theorem ZdL {m:Nat} {o:Array (Option Nat)}:∀ (fuel i q j:Nat),SetTable.layClean.free m o fuel i q=some j→(o.getD j (some 0)).isNone=true
 | 0,i,q,j,h=>by unfold SetTable.layClean.free at h; cases h
 | fuel + 1,i,q,j,h=>by
  unfold SetTable.layClean.free at h
  cases c:(List.range (runEnd m i + 1 - i)).find? fun k=>(o.getD (i + k) (some 0)).isNone with
  | some a =>
   rw [c] at h
   have h:=Option.some.inj h
   subst h
   exact List.find?_some (p:=fun k=>(o.getD (i + k) (some 0)).isNone) c
  | none =>
   rw [c] at h
   exact ZdL fuel _ _ _ h
theorem ZgM {m finger moves:Nat} {led plain:Bool} {hashes:Array Int} {t:SetTable} {order:Array Nat} (hm:Msk m) (hn:hashes.size≤m) (h:SetTable.laid m finger moves led plain hashes=some (t,order)):∀ x,x < hashes.size→x∈order.toList:=by
 obtain ⟨o,e,w⟩:=Zep hm hashes.toList _ 0 (ZeR m) (by rw [Array.length_toList]; omega)
 have al:=Zf7 (m:=m) hashes.toList _ _ _ _ (fun v hv=>absurd hv (by omega)) (fun i q fuel j o h=>ZdL fuel i q j h) e
 rw [Nat.zero_add,Array.length_toList] at e w al
 have lc:SetTable.layClean m hashes=some o:=by
  unfold SetTable.layClean
  rw [← Array.foldl_toList,e]
  rfl
 unfold SetTable.laid at h
 rw [lc] at h
 have h:=Option.some.inj h
 have eo:order=(((List.range (m + 1)).filterMap fun j=>(o.getD j none).map (j,·)).map (·.2)).toArray:=(congrArg Prod.snd h).symm
 intro x hx
 obtain ⟨j,hj⟩:=al x hx
 have jl:j < m + 1:=Nat.lt_of_not_le fun z=>by
  rw [Array.getD_eq_getD_getElem?,Array.getElem?_eq_none_iff.mpr (by rw [w.sz]; exact z)] at hj
  cases hj
 rw [eo,List.toList_toArray]
 exact List.mem_map.mpr ⟨(j,x),List.mem_filterMap.mpr ⟨j,List.mem_range.mpr jl,by rw [hj]; rfl⟩,rfl⟩
section
variable {prog:Program} {w:World} {A:Around} {E:Value→Shared→Prop} {s:Shared}
def Hs (prog:Program) (w:World) (h:Heap) (es:Array (Int×Value)) (l:List Int):Prop:=∃ e∈es.toList,∃ b,e.2=.ref b∧IsTupleKey (intKind prog w) h l b
theorem Zaz {h h':Heap} {l:List Int} {a b:Addr} {o:Obj} (k:IsTupleKey (intKind prog w) h l b) (hs:Heap.SameBut a h h') (ho:h.get? a=some o) (hc:o.cls=.type "set"):IsTupleKey (intKind prog w) h' l b:=by
 obtain ⟨ob,items,n,h1,h2,h3,h4⟩:=k
 refine ⟨ob,items,n,?_,h2,h3,h4⟩
 rw [hs.2 b (fun e=>?_)]
 ·exact h1
 ·subst e
  rw [ho] at h1
  have:=Option.some.inj h1
  subst this
  rw [hc] at h2
  exact absurd h2 (by decide)
theorem Zhi {ks ls:List Int} {vs:List Value} (h:ItemsAre (intKind prog w) ks vs) (g:ItemsAre (intKind prog w) ls vs):ks=ls:=by
 induction h generalizing ls with
 | nil=>cases g; rfl
 | @cons k v ks vs h1 _ ih =>
  cases g with
  | @cons k2 _ ls _ g1 g2 =>
   rw [ih g2]
   congr 1
   exact (intKind prog w).inj _ _ _ h1 g1
theorem key_uniq {h:Heap} {l m:List Int} {b:Addr} (k:IsTupleKey (intKind prog w) h l b) (g:IsTupleKey (intKind prog w) h m b):l=m:=by
 obtain ⟨ob,items,n,h1,h2,h3,h4⟩:=k
 obtain ⟨ob',items',n',g1,g2,g3,g4⟩:=g
 rw [h1] at g1
 have:=Option.some.inj g1
 subst this
 rw [h3] at g3
 cases g3
 exact Zhi h4 g4
theorem ZcE {t:SetTable} {hashAt:Nat→Int} {h:Int}:∀ (fuel:Nat) (p:Probe) (j:Nat) (d:Option Nat),SetTable.probe.go t hashAt h fuel p=some (.empty j d)→t.slot j=.empty
 | 0,_,_,_,e=>by cases e
 | fuel + 1,p,j,d,e=>by
  unfold SetTable.probe.go at e
  cases q:t.slot p.j with
  | empty =>
   rw [q] at e
   cases e
   exact q
  | dummy =>
   rw [q] at e
   exact ZcE fuel _ j d e
  | live i =>
   rw [q] at e
   dsimp only at e
   split at e
   ·cases e
   ·exact ZcE fuel _ j d e
theorem ZeA {kx:List Int} {a x:Addr} {o:Obj} {es:Array (Int×Value)} {ep:Nat} {t:SetTable} {hs:Int} {Q:SetFound→Shared→Prop} (hu:A.units < cLine)
  (ho:s.heap.get? a=some o) (hd:o.data=.set es ep t) (ok:TOk t es.size) (ks:TKs prog w s.heap es) (hx':IsTupleKey (intKind prog w) s.heap kx x)
  (h1:Hs prog w s.heap es kx→Q (.there none) s) (h2:∀ j,t.slot j=.empty→Q (.free j false) s):∀ (n:Nat) (fuel:Nat) (st:Option Probe),n < fuel→Stand t (st.getD (t.probeStart hs))→(st.getD (t.probeStart hs)).dummy=none→t.slot (advN t n (st.getD (t.probeStart hs))).j=.empty →
   wpAny (model prog w) A (setSearchFrom a (.ref x) hs true fuel st) Q E s:=by
 have hx:TK prog w s.heap x:=⟨kx,hx'⟩
 intro n
 induction n using Nat.strongRecOn with
 | ind n ih =>
  intro fuel st hf hst hdm hemp
  obtain ⟨fuel,rfl⟩:∃ f,fuel=f + 1:=⟨fuel - 1,by omega⟩
  unfold setSearchFrom
  refine wpAny_bind (wpAny_setState_of ho hd ok.fits ?_)
  dsimp only
  rw [show t.gaveWay=false from Msk.odd ok.msk]
  simp only [Bool.false_eq_true,if_false]
  have lo:=ok.lo
  have key:∀ f:Nat→Int,t.probe f hs (st.getD (t.probeStart hs))≠none:=fun f z=>by
   obtain ⟨met,em⟩:=Zb3 (hashAt:=f) (h:=hs) ok.msk ok.dum (by rw [ok.sz]; omega) hst
   rw [z] at em; cases em
  split
  case h_2 q =>
   exfalso
   cases z:t.probe _ hs (st.getD (t.probeStart hs)) with
   | none=>exact key _ z
   | some met=>exact q met z
  case h_1 met q =>
  rcases Zgo ok.dum _ _ _ q with ⟨j,m,rfl,hje,hse⟩ | ⟨j,i,m,rfl,hl,hne⟩
  ·dsimp only
   rw [hdm]
   exact wpAny_pure (h2 j (ZcE _ _ _ _ q))
  ·dsimp only
   have hlt:m < n:=Nat.lt_of_not_le fun hle=>hne n hle hemp
   have hi:i < es.size:=by
    have:=Zfb hl
    rw [← ok.sz]
    exact (Array.getElem?_eq_some_iff.mp this).1
   obtain ⟨b,eb,kb⟩:=ks es[i] (Array.mem_toList_iff.mpr (Array.getElem_mem hi))
   have esi:es[i]?=some (es[i].1,.ref b):=by rw [Array.getElem?_eq_getElem hi,← eb]
   obtain ⟨k2,kb'⟩:=kb
   have sm:t.sameMemory t.moves t.mask=some true:=by unfold SetTable.sameMemory; rw [if_pos (by rw [beq_self_eq_true])]
   have go2:wpAny (model prog w) A (setSearchFrom a (Value.ref x) hs true fuel (some (advN t (m + 1) (st.getD (t.probeStart hs))))) Q E s :=
    ih (n - (m + 1)) (by omega) fuel (some _) (by omega) (ZdI (p:=t.probeStart hs) _ hst) ((ZdN _ _).trans hdm) (by
     show t.slot (advN t (n - (m + 1)) (advN t (m + 1) _)).j=_
     rw [← ZgE,show m + 1 + (n - (m + 1))=n by omega]; exact hemp)
   cases hled:t.led
   ·simp only [Bool.not_false,if_true]
    refine wpAny_bind (ZkQ hx _ (fun y hy=>?_) ?_)
    ·obtain ⟨e,he,rfl⟩:=List.mem_map.mp hy
     exact ks e (by
      rw [Array.toList_filter] at he
      exact (List.mem_filter.mp he).1)
    simp only [Bool.false_eq_true,if_false]
    rw [esi]
    dsimp only
    refine wpAny_bind (wpAny_holding (wpAny_eqBool_tuple hu kb' hx' ?_))
    refine wpAny_bind (wpAny_setState_of ho hd ok.fits ?_)
    dsimp only
    by_cases he:k2=kx
    ·simp only [he,decide_true,Bool.and_self,if_true]
     exact wpAny_pure (h1 ⟨es[i],Array.mem_toList_iff.mpr (Array.getElem_mem hi),b,eb,he ▸ kb'⟩)
    ·simp only [he,decide_false,Bool.and_false,Bool.false_eq_true,if_false]
     rw [sm]
     simp only [if_true]
     rw [hl]
     dsimp only
     rw [esi]
     dsimp only
     refine wpAny_bind (wpAny_isSame_ref_self ?_)
     simp only [if_true]
     refine wpAny_bind (wpAny_pure ?_)
     exact go2
   ·simp only [Bool.not_true,Bool.false_eq_true,if_false]
    rw [esi]
    dsimp only
    refine wpAny_bind (wpAny_holding (wpAny_eqBool_tuple hu kb' hx' ?_))
    refine wpAny_bind (wpAny_setState_of ho hd ok.fits ?_)
    dsimp only
    by_cases he:k2=kx
    ·simp only [he,decide_true,Bool.and_self,if_true]
     exact wpAny_pure (h1 ⟨es[i],Array.mem_toList_iff.mpr (Array.getElem_mem hi),b,eb,he ▸ kb'⟩)
    ·simp only [he,decide_false,Bool.and_false,Bool.false_eq_true,if_false]
     rw [sm]
     simp only [if_true]
     rw [hl]
     dsimp only
     rw [esi]
     dsimp only
     refine wpAny_bind (wpAny_isSame_ref_self ?_)
     simp only [if_true]
     refine wpAny_bind (wpAny_pure ?_)
     exact go2
theorem Zmr {kx:List Int} {a x:Addr} {o:Obj} {es:Array (Int×Value)} {ep:Nat} {t:SetTable} {hs:Int} {Q:SetFound→Shared→Prop} (hu:A.units < cLine)
  (ho:s.heap.get? a=some o) (hd:o.data=.set es ep t) (ok:TOk t es.size) (ks:TKs prog w s.heap es) (hx:IsTupleKey (intKind prog w) s.heap kx x)
  (h1:Hs prog w s.heap es kx→Q (.there none) s) (h2:∀ j,t.slot j=.empty→Q (.free j false) s):wpAny (model prog w) A (setSearch a (.ref x) hs true) Q E s:=by
 have lo:=ok.lo
 obtain ⟨n,hn,e⟩:=ZjE ok.msk ok.dum (by rw [ok.sz]; omega) (ZbO t hs)
 refine ZeA hu ho hd ok ks hx h1 h2 n 100000 none ?_ (ZbO t hs) rfl e
 have:=ok.msk
 unfold turns at hn
 rcases this with q | q | q | q | q | q <;> rw [q] at hn <;> omega
end
def Ris (xs:Array Nat):Prop:=∀ i j,i < j→j < xs.size→xs.getD i 0 < xs.getD j 0
theorem Za9 {xs:Array Nat} {i:Nat} (h:i < xs.size) (d:Nat):xs.getD i d=xs[i]:=by simp [Array.getD,h]
theorem Zeq {xs:Array Nat} {j:Nat} (r:Ris xs):∀ (fuel lo hi:Nat),hi - lo≤fuel→lo≤hi→hi≤xs.size→(∀ i,i < lo→xs.getD i 0 < j)→(∀ i,hi≤i→i < xs.size→j≤xs.getD i 0) →
  ∃ p,SetTable.below.go xs j fuel lo hi=p∧p≤xs.size∧(∀ i,i < p→xs.getD i 0 < j)∧∀ i,p≤i→i < xs.size→j≤xs.getD i 0
 | 0,lo,hi,h,l1,l2,a,b=>by
  have e:lo=hi:=by omega
  subst e
  exact ⟨lo,rfl,l2,a,b⟩
 | fuel + 1,lo,hi,h,l1,l2,a,b=>by
  unfold SetTable.below.go
  by_cases z:lo < hi
  ·rw [if_pos z]
   dsimp only
   have ms:(lo + hi) / 2 < xs.size:=by omega
   have g:xs.getD ((lo + hi) / 2) j=xs.getD ((lo + hi) / 2) 0:=by rw [Za9 ms,Za9 ms]
   rw [g]
   by_cases c:xs.getD ((lo + hi) / 2) 0 < j
   ·rw [if_pos c]
    refine Zeq r fuel _ hi (by omega) (by omega) l2 (fun i hi'=>?_) b
    by_cases q:i=(lo + hi) / 2
    ·rw [q]; exact c
    ·exact Nat.lt_trans (r i ((lo + hi) / 2) (by omega) ms) c
   ·rw [if_neg c]
    refine Zeq r fuel lo _ (by omega) (by omega) (by omega) a fun i h1 h2=>?_
    by_cases q:i=(lo + hi) / 2
    ·rw [q]; omega
    ·exact Nat.le_trans (Nat.le_of_not_lt c) (Nat.le_of_lt (r ((lo + hi) / 2) i (by omega) h2))
  ·rw [if_neg z]
   have e:lo=hi:=by omega
   subst e
   exact ⟨lo,rfl,l2,a,b⟩
theorem Zb4 {xs:Array Nat} (r:Ris xs) (j:Nat):SetTable.below xs j≤xs.size∧(∀ i,i < SetTable.below xs j→xs.getD i 0 < j)∧∀ i,SetTable.below xs j≤i→i < xs.size→j≤xs.getD i 0:=by
 obtain ⟨p,e,h⟩:=Zeq (j:=j) r xs.size 0 xs.size (by omega) (Nat.zero_le _) (Nat.le_refl _) (fun i h=>absurd h (Nat.not_lt_zero _)) (fun i h1 h2=>absurd h2 (by omega))
 have:SetTable.below xs j=p:=e
 rw [this]; exact h
theorem ZgX {xs:Array Nat} (r:Ris xs) {i:Nat} (h:i < xs.size):SetTable.below xs (xs.getD i 0 + 1)=i + 1:=by
 obtain ⟨a,b,c⟩:=Zb4 r (xs.getD i 0 + 1)
 generalize SetTable.below xs (xs.getD i 0 + 1)=p at a b c
 rcases Nat.lt_trichotomy p (i + 1) with z | z | z
 ·have:=c i (by omega) h; omega
 ·exact z
 ·have:=b (i + 1) z
  have q:=r i (i + 1) (by omega) (by omega)
  omega
theorem ZgQ {xs:Array Nat} (r:Ris xs):SetTable.below xs 0=0:=by
 obtain ⟨a,b,c⟩:=Zb4 r 0
 generalize SetTable.below xs 0=p at a b c
 by_cases z:0 < p
 ·have:=b 0 z; omega
 ·omega
theorem ris_iff {xs:Array Nat}:Ris xs↔xs.toList.Pairwise (· < ·):=by
 rw [List.pairwise_iff_getElem]
 constructor
 ·intro r i k hi hk hik
  have h:=r i k hik (by simpa using hk)
  rw [Za9 (by simpa using hi),Za9 (by simpa using hk)] at h
  simpa using h
 ·intro r i k hik hk
  have h:=r i k (by simp; omega) (by simpa using hk) hik
  rw [Za9 (by omega),Za9 hk]
  simpa using h
theorem Zhf {xs:Array Nat} {j:Nat} (r:Ris xs) (n:xs[SetTable.below xs j]?≠some j):Ris (SetTable.insertAt xs (SetTable.below xs j) j):=by
 obtain ⟨a,b,c⟩:=Zb4 r j
 generalize hp:SetTable.below xs j=p at a b c n
 have e:(SetTable.insertAt xs p j).toList=xs.toList.take p ++ j :: xs.toList.drop p:=by
  unfold SetTable.insertAt
  simp
  exact List.take_of_length_le (by simp)
 rw [ris_iff,e]
 have pw:=ris_iff.mp r
 have lowL:∀ x∈xs.toList.take p,x < j:=fun x hx=>by
  obtain ⟨i,hi,q⟩:=List.mem_iff_getElem.mp hx
  have hi':i < p:=by simp at hi; omega
  have:=b i hi'
  rw [Za9 (by omega)] at this
  rw [← q,List.getElem_take]
  simpa using this
 have highL:∀ x∈xs.toList.drop p,j < x:=fun x hx=>by
  obtain ⟨i,hi,q⟩:=List.mem_iff_getElem.mp hx
  have hi':p + i < xs.size:=by simp at hi; omega
  have h1:=c (p + i) (by omega) hi'
  rw [Za9 hi'] at h1
  have h2:x=xs[p + i]:=by rw [← q,List.getElem_drop]; simp
  rw [h2]
  rcases Nat.lt_or_ge j xs[p + i] with z | z
  ·exact z
  ·exfalso
   have e1:xs[p + i]=j:=by omega
   by_cases i0:i=0
   ·subst i0
    exact n (by rw [Array.getElem?_eq_getElem (by omega)]; exact congrArg some e1)
   ·have h3:=c p (by omega) (by omega)
    have h4:=r p (p + i) (by omega) hi'
    rw [Za9 hi',e1] at h4
    omega
 refine List.pairwise_append.mpr ⟨pw.sublist (List.take_sublist _ _),List.pairwise_cons.mpr ⟨highL,pw.sublist (List.drop_sublist _ _)⟩,fun x hx y hy=>?_⟩
 rcases List.mem_cons.mp hy with rfl | hy
 ·exact lowL x hx
 ·exact Nat.lt_trans (lowL x hx) (highL y hy)
theorem ZhO {t:SetTable} {j:Nat} (h:t.slot j=.empty):t.place[SetTable.below t.place j]?≠some j:=fun e=>by
 unfold SetTable.slot at h
 dsimp only at h
 rw [e] at h
 simp at h
theorem Zjn {t:SetTable} {j:Nat} (r:Ris t.place) (h:t.slot j=.empty):Ris (t.put j).1.place:=Zhf r (ZhO h)
theorem ZfR {m finger moves:Nat} {led plain:Bool} {hashes:Array Int} {t:SetTable} {order:Array Nat} (h:SetTable.laid m finger moves led plain hashes=some (t,order)):Ris t.place:=by
 unfold SetTable.laid at h
 simp only [Option.bind_eq_bind,Option.bind_eq_some_iff,Option.pure_def,Option.some.injEq,Prod.mk.injEq] at h
 obtain ⟨owner,_,h,_⟩:=h
 rw [← h,ris_iff]
 show (List.map (·.1) ((List.range (m + 1)).filterMap fun j=>(owner.getD j none).map (j,·))).Pairwise (· < ·)
 have key:∀ l:List Nat,l.Pairwise (· < ·)→(List.map (·.1) (l.filterMap fun j=>(owner.getD j none).map (j,·))).Pairwise (· < ·)∧∀ x∈List.map (·.1) (l.filterMap fun j=>(owner.getD j none).map (j,·)),x∈l:=fun l=>by
  induction l with
  | nil=>intro _; exact ⟨.nil,fun x h=>by simp at h⟩
  | cons a l ih =>
   intro hp
   obtain ⟨h1,h2⟩:=List.pairwise_cons.mp hp
   obtain ⟨i1,i2⟩:=ih h2
   rw [List.filterMap_cons]
   cases q:owner.getD a none with
   | none =>
    simp only [Option.map_none]
    exact ⟨i1,fun x hx=>List.mem_cons_of_mem _ (i2 x hx)⟩
   | some v =>
    simp only [Option.map_some,List.map_cons]
    refine ⟨List.pairwise_cons.mpr ⟨fun x hx=>h1 x (i2 x hx),i1⟩,fun x hx=>?_⟩
    rcases List.mem_cons.mp hx with rfl | hx
    ·exact List.mem_cons_self
    ·exact List.mem_cons_of_mem _ (i2 x hx)
 exact (key _ List.pairwise_lt_range).1
section
variable {prog:Program} {w:World} {A:Around} {E:Value→Shared→Prop} {s:Shared}
def SetC (prog:Program) (w:World) (h:Heap) (a:Addr) (n:Nat) (L:Bool×(Value→Prop)) (M:List Int→Prop):Prop :=
 ∃ o es ep t,h.get? a=some o∧o.ExactSet∧o.data=.set es ep t∧es.size=n∧TOk t n∧(t.led=L.1∧Ris t.place∧t.plain=true∧∀ e∈es.toList,L.2 e.2)∧TKs prog w h es∧∀ l,M l↔Hs prog w h es l
theorem Zij {x:Addr} {Q:Bool→Shared→Prop} (hx:TK prog w s.heap x) (h:Q true s):wpAny (model prog w) A (hashByValue 8 (.ref x)) Q E s:=by
 obtain ⟨o,items,n,ho,hc,hd,hi⟩:=hx.at
 unfold hashByValue
 refine wpAny_bind (wpAny_specialOf ⟨o,ho,hc⟩ F.slot_tuple_hash.lookup ?_); dsimp only
 refine wpAny_bind (Zb9 ho hd (wpAny_bind ?_))
 show wpAny _ _ (forIn items _ _) _ _ s
 rw [← Array.forIn_toList]
 refine wpAny_forIn_list _ (fun rest r s'=>s'=s∧r.1=none∧∀ v∈rest,∃ i tk,v=.int i tk) _ ?_ ?_ _ _ ⟨rfl,rfl,hi⟩
 ·rintro v rest ⟨r1,r2⟩ s' ⟨rfl,hr,hv⟩
  obtain ⟨i,tk,rfl⟩:=hv v List.mem_cons_self
  exact wpAny_bind (wpAny_pure (wpAny_pure ⟨rfl,rfl,fun u hu=>hv u (List.mem_cons_of_mem _ hu)⟩))
 ·rintro ⟨r1,r2⟩ s' ⟨rfl,hr,_⟩
  have hr:r1=none:=hr
  subst hr
  exact wpAny_pure h
theorem Zkm {m finger moves:Nat} {led plain:Bool} {hashes:Array Int} {t:SetTable} {order:Array Nat} (h:SetTable.laid m finger moves led plain hashes=some (t,order)):t.led=led:=by
 unfold SetTable.laid at h
 simp only [Option.bind_eq_bind,Option.bind_eq_some_iff,Option.pure_def,Option.some.injEq,Prod.mk.injEq] at h
 obtain ⟨_,_,h,_⟩:=h
 rw [← h]
theorem ZmW (t:SetTable) (j:Nat):(t.put j).1.led=t.led:=by
 unfold SetTable.put
 rfl
theorem ZlI {L:Bool×(Value→Prop)} {M:List Int→Prop} {a:Addr} {o:Obj} {es:Array (Int×Value)} {ep n wanted:Nat} {t:SetTable} {Q:Unit→Shared→Prop}
  (ho:s.heap.get? a=some o) (hex:o.ExactSet) (hd:o.data=.set es ep t) (hz:es.size=n) (hf:t.fits n=true) (hl:t.led=L.1) (hpl:t.plain=true) (hv:∀ e∈es.toList,L.2 e.2) (ks:TKs prog w s.heap es) (cs:∀ l,M l↔Hs prog w s.heap es l)
  (hm:Msk (SetTable.sizeAbove wanted - 1)) (lo:n * 5 < (SetTable.sizeAbove wanted - 1) * 3) (hs:SetTable.sizeAbove wanted≤256)
  (h:∀ h',Heap.SameBut a s.heap h'→SetC prog w h' a n L M→(∀ o' es' ep' t',h'.get? a=some o'→o'.data=.set es' ep' t'→t'.mask=SetTable.sizeAbove wanted - 1)→Q () { s with heap:=h' }):wpAny (model prog w) A (setRelay a wanted) Q E s:=by
 unfold setRelay
 refine wpAny_bind (wpAny_setState_of ho hd (by rw [hz]; exact hf) ?_)
 dsimp only
 rw [if_neg (by rw [sizeLine_eq]; omega)]
 obtain ⟨t',order,e1,e2,e3,e4,e5,e6,e7,e8⟩:=ZiB (finger:=t.finger) (moves:=t.movedTo (SetTable.sizeAbove wanted - 1)) (led:=t.led) (plain:=t.plain) (hashes:=es.map (·.1)) hm (by rw [Array.size_map]; omega)
 rw [Array.size_map] at e4 e5 e6
 have e0:=e1
 have e1:t.relaid (es.map (·.1)) wanted=some (t',order):=e1
 rw [e1]
 have sz:(order.filterMap (es[·]?)).size=es.size:=by
  rw [← Array.length_toList,Array.toList_filterMap,Zfs _ e6,Array.length_toList,e5]
 refine wpAny_bind ?_
 change wpAny _ _ (if ((order.filterMap (es[·]?)).size != es.size)=true then (unsupported "internal:set-table-lost-an-element" >>= fun _=>pure (order.filterMap (es[·]?),t')) else pure (order.filterMap (es[·]?),t')) _ _ _
 rw [sz,bne_self_eq_false]
 simp only [Bool.false_eq_true,if_false]
 refine wpAny_pure ?_
 dsimp only
 refine wpAny_storeSet_of ho hd ?_ (by rw [sz,sizeLine_eq]; omega)
 have sb:=Heap.SameBut.update s.heap a (Obj.putSet (order.filterMap (es[·]?)) t')
 have k2:=ks.same sb ho hex.1
 have pm:∀ e,e∈(order.filterMap (es[·]?)).toList↔e∈es.toList:=fun e=>by
  rw [Array.toList_filterMap]
  constructor
  ·intro he
   obtain ⟨i,_,hi⟩:=List.mem_filterMap.mp he
   exact Array.mem_toList_iff.mpr (Array.mem_of_getElem? hi)
  ·intro he
   obtain ⟨i,hi,q⟩:=List.mem_iff_getElem.mp he
   have hi':i < es.size:=by rw [Array.length_toList] at hi; exact hi
   refine List.mem_filterMap.mpr ⟨i,ZgM hm (by rw [Array.size_map]; omega) e1 i (by rw [Array.size_map]; exact hi'),?_⟩
   rw [Array.getElem?_eq_getElem hi',← q,Array.getElem_toList]
 refine h _ sb ⟨_,_,_,_,Zex ho hd _ _,hex,rfl,by rw [sz,hz],⟨by rw [e2]; exact hm,e3,by rw [e4,hz],by rw [e2]; exact lo⟩,⟨by rw [Zkm e0]; exact hl,ZfR e0,by rw [e8]; exact hpl,fun e he=>hv e ((pm e).mp he)⟩,fun e he=>k2 e ((pm e).mp he),fun l=>?_⟩ fun o' es' ep' t'' g' d'=>?_
 rotate_left
 ·rw [Zex ho hd _ _] at g'
  cases g'
  cases d'
  exact e2
 rw [cs l]
 constructor
 ·rintro ⟨e,he,b,eb,kb⟩
  exact ⟨e,(pm e).mpr he,b,eb,Zaz kb sb ho hex.1⟩
 ·rintro ⟨e,he,b,eb,kb⟩
  have he:=(pm e).mp he
  obtain ⟨b',eb',l',kb'⟩:=ks e he
  have e2:b=b':=by rw [eb] at eb'; cases eb'; rfl
  subst e2
  rw [key_uniq kb (Zaz kb' sb ho hex.1)]
  exact ⟨e,he,b,eb,kb'⟩
theorem Zdb {L:Bool×(Value→Prop)} {M:List Int→Prop} {kx:List Int} {a x:Addr} {n:Nat} {hs:Int} {Q:Bool→Shared→Prop} (hu:A.units < cLine) (st:SetC prog w s.heap a n L M) (hx:IsTupleKey (intKind prog w) s.heap kx x) (hn:n + 1≤76) (hv:L.2 (.ref x))
  (h:∀ b h' n',Heap.SameBut a s.heap h'→SetC prog w h' a n' L (fun l=>M l∨l=kx)→n'≤n + 1→Q b { s with heap:=h' }):wpAny (model prog w) A (setAddHashed a (.ref x) hs) Q E s:=by
 obtain ⟨o,es,ep,t,ho,hex,hd,hz,ok,hl,ks,cs⟩:=st
 subst hz
 unfold setAddHashed
 refine wpAny_holding ?_
 unfold setAddHashedIn
 refine wpAny_bind (wpAny_setState_of ho hd ok.fits ?_)
 dsimp only
 rw [show byScan (.ref x) es=false from rfl]
 simp only [Bool.false_eq_true,if_false]
 refine wpAny_bind (Zmr hu ho hd ok ks hx (fun hs=>?_) fun j hje=>?_)
 ·exact wpAny_pure (h _ _ _ (Heap.SameBut.refl _ _) ⟨o,es,ep,t,ho,hex,hd,rfl,ok,hl,ks,fun l=>⟨fun z=>z.elim (fun z=>(cs l).mp z) (fun z=>z ▸ hs),fun z=>.inl ((cs l).mpr z)⟩⟩ (Nat.le_succ _))
 ·dsimp only
  refine wpAny_bind (wpAny_setState_of ho hd ok.fits ?_)
  dsimp only
  obtain ⟨p1,p2,p3,p4⟩:=ZkX ok.msk ok.dum ok.sz j
  have p5:(t.put j).1.led=L.1:=(ZmW t j).trans hl.1
  have p6:Ris (t.put j).1.place:=Zjn hl.2.1 hje
  have p7:(t.put j).1.plain=true:=(show (t.put j).1.plain=t.plain from rfl).trans hl.2.2.1
  generalize hp:t.put j=tp at p1 p2 p3 p4 p5 p6 p7
  obtain ⟨t1,p⟩:=tp
  dsimp only at p1 p2 p3 p4 p5 p6 p7
  have isz:(SetTable.insertAt es p (hs,Value.ref x)).size=es.size + 1:=by
   rw [← Array.length_toList,(SetTable.insertAt_perm _ _ _).length_eq,Array.length_toList,Array.size_push]
  have rest:∀ b:Bool,b=true→wpAny (model prog w) A (do
    storeSet a (SetTable.insertAt es p (hs,Value.ref x)) (if b=true then t1 else { t1 with plain:=false })
    if (!false && (if b=true then t1 else { t1 with plain:=false }).tooFull)=true then do
     setRelay a (SetTable.grown (es.size + 1))
     pure true
    else pure true) Q E s:=fun b hb=>by
   have t2:∃ t2,(if b=true then t1 else { t1 with plain:=false })=t2∧t2.mask=t.mask∧t2.dummies = #[]∧t2.place.size=es.size + 1∧t2.led=L.1∧Ris t2.place∧t2.plain=true:=by
    subst hb
    exact ⟨_,rfl,p1,p2,p3,p5,p6,p7⟩
   obtain ⟨t2,q,q1,q2,q3,q9,q10,q11⟩:=t2
   rw [q]
   have sb:=Heap.SameBut.update s.heap a (Obj.putSet (SetTable.insertAt es p (hs,Value.ref x)) t2)
   have gt:=Zex ho hd (SetTable.insertAt es p (hs,Value.ref x)) t2
   have ks2:TKs prog w (s.heap.update a (Obj.putSet (SetTable.insertAt es p (hs,Value.ref x)) t2)) (SetTable.insertAt es p (hs,Value.ref x)):=fun e he=>by
    have he:=(SetTable.insertAt_perm _ _ _).mem_iff.mp he
    rw [Array.toList_push] at he
    rcases List.mem_append.mp he with he | he
    ·exact (ks.same sb ho hex.1) e he
    ·have:=List.mem_singleton.mp he
     subst this
     exact ⟨x,rfl,kx,Zaz hx sb ho hex.1⟩
   have vs2:∀ e∈(SetTable.insertAt es p (hs,Value.ref x)).toList,L.2 e.2:=fun e he=>by
    have he:=(SetTable.insertAt_perm _ _ _).mem_iff.mp he
    rw [Array.toList_push] at he
    rcases List.mem_append.mp he with he | he
    ·exact hl.2.2.2 e he
    ·have:=List.mem_singleton.mp he
     subst this
     exact hv
   have cs2:∀ l,(M l∨l=kx)↔Hs prog w (s.heap.update a (Obj.putSet (SetTable.insertAt es p (hs,Value.ref x)) t2)) (SetTable.insertAt es p (hs,Value.ref x)) l:=fun l=>by
    have mem:∀ e,e∈(SetTable.insertAt es p (hs,Value.ref x)).toList↔e∈es.toList∨e=(hs,Value.ref x):=fun e=>by
     rw [(SetTable.insertAt_perm _ _ _).mem_iff,Array.toList_push,List.mem_append,List.mem_singleton]
    constructor
    ·rintro (z | z)
     ·obtain ⟨e,he,b,eb,kb⟩:=(cs l).mp z
      exact ⟨e,(mem e).mpr (.inl he),b,eb,Zaz kb sb ho hex.1⟩
     ·exact ⟨_,(mem _).mpr (.inr rfl),x,rfl,z ▸ Zaz hx sb ho hex.1⟩
    ·rintro ⟨e,he,b,eb,kb⟩
     rcases (mem e).mp he with he | he
     ·obtain ⟨b',eb',l',kb'⟩:=ks e he
      have e2:b=b':=by rw [eb] at eb'; cases eb'; rfl
      subst e2
      refine .inl ((cs l).mpr ?_)
      rw [key_uniq kb (Zaz kb' sb ho hex.1)]
      exact ⟨e,he,b,eb,kb'⟩
     ·subst he
      cases eb
      exact .inr (key_uniq kb (Zaz hx sb ho hex.1))
   have lo:=ok.lo
   refine wpAny_bind (wpAny_storeSet_of ho hd ?_ (by rw [isz,sizeLine_eq]; omega))
   have tf:t2.tooFull=decide ((es.size + 1) * 5 ≥ t.mask * 3):=by
    unfold SetTable.tooFull SetTable.fill
    rw [q1,q2,q3]
    rfl
   rw [tf]
   by_cases c:(es.size + 1) * 5 ≥ t.mask * 3
   ·simp only [c,decide_true,Bool.not_false,Bool.and_self,if_true]
    obtain ⟨g1,g2,g3⟩:=Zmn ok.msk lo (Nat.not_lt.mpr c) hn
    refine wpAny_bind (ZlI gt hex rfl isz ?_ q9 q11 vs2 ks2 cs2 g1 g2 g3 fun h' sb' sw _=>?_)
    ·unfold SetTable.fits SetTable.fill
     rw [q1,q2,q3]
     simp only [beq_self_eq_true,Bool.true_and,decide_eq_true_eq]
     show es.size + 1 + 0≤_
     have:=ok.msk
     rcases this with z | z | z | z | z | z <;> rw [z] at lo ⊢ <;> omega
    ·exact wpAny_pure (h _ _ _ (sb.trans sb') sw (Nat.le_refl _))
   ·simp only [c,decide_false,Bool.and_false,Bool.false_eq_true,if_false]
    exact wpAny_pure (h _ _ _ sb ⟨_,_,_,_,gt,hex,rfl,isz,⟨by rw [q1]; exact ok.msk,q2,q3,by rw [q1]; omega⟩,⟨q9,q10,q11,vs2⟩,ks2,cs2⟩ (Nat.le_refl _))
  dsimp only
  split
  all_goals first | exact wpAny_bind (Zij ⟨kx,hx⟩ (rest true rfl)) | exact wpAny_bind (wpAny_pure (rest true rfl))
end
instance (m:Nat):Decidable (Msk m):=by unfold Msk; infer_instance
theorem Zmj:∀ k,k < 76→Msk (SetTable.sizeAbove (k * 2) - 1)∧k * 5 < (SetTable.sizeAbove (k * 2) - 1) * 3∧SetTable.sizeAbove (k * 2)≤256:=by decide +kernel
section
variable {prog:Program} {w:World} {A:Around} {E:Value→Shared→Prop} {s:Shared}
theorem roomC {L:Bool×(Value→Prop)} {M:List Int→Prop} {a:Addr} {n more:Nat} {Q:Unit→Shared→Prop} (st:SetC prog w s.heap a n L M) (hn:n + more < 76)
  (h:∀ h',Heap.SameBut a s.heap h'→SetC prog w h' a n L M→(∀ o' es' ep' t',h'.get? a=some o'→o'.data=.set es' ep' t'→(n + more) * 5 < t'.mask * 3)→Q () { s with heap:=h' }):wpAny (model prog w) A (setRoomFor a more) Q E s:=by
 obtain ⟨o,es,ep,t,ho,hex,hd,hz,ok,hl,ks,cs⟩:=id st
 unfold setRoomFor
 refine wpAny_bind (wpAny_setState_of ho hd (by rw [hz]; exact ok.fits) ?_)
 dsimp only
 have rf:t.roomFor more=if (n + more) * 5 ≥ t.mask * 3 then some ((n + more) * 2) else none:=by
  unfold SetTable.roomFor SetTable.fill
  rw [ok.sz,ok.dum]
  rfl
 rw [rf]
 by_cases c:(n + more) * 5 ≥ t.mask * 3
 ·rw [if_pos c]
  dsimp only
  obtain ⟨r1,r2,r3⟩:=Zmj (n + more) hn
  exact ZlI ho hex hd hz ok.fits hl.1 hl.2.2.1 hl.2.2.2 ks cs r1 (by omega) r3 fun h' sb sc mk=>h h' sb sc fun o' es' ep' t' g' d'=>by
   rw [mk o' es' ep' t' g' d']; omega
 ·rw [if_neg c]
  exact wpAny_pure (h _ (Heap.SameBut.refl _ _) st fun o' es' ep' t' g' d'=>by
   rw [ho] at g'
   cases g'
   rw [hd] at d'
   cases d'
   omega)
end
section
variable {prog:Program} {w:World} {A:Around} {E:Value→Shared→Prop} {s:Shared}
def KyIn (prog:Program) (w:World) (h:Heap) (des:Array DictEntry) (i:Nat) (l:List Int):Prop:=∃ j e b,j < i∧des[j]?=some e∧e.key=.ref b∧IsTupleKey (intKind prog w) h l b
theorem Zh8 {id:String} {L:Bool×(Value→Prop)} {M:List Int→Prop} {S d:Addr} {o so:Obj} {des:Array DictEntry} {ep n:Nat} {Q:PUnit→Shared→Prop} (hu:A.units < cLine) (hS:s.heap.get? S=some so) (hSc:so.cls=.type "set") (hd:s.heap.get? d=some o) (hdd:o.data=.dict des ep) (ne:d≠S)
  (hk:∀ e∈des.toList,∃ b l,e.key=.ref b∧IsTupleKey (intKind prog w) s.heap l b) (hv:∀ e∈des.toList,L.2 e.key) (st:SetC prog w s.heap S n L M) (room:n + des.size < 76)
  (h:∀ h' m,Heap.SameBut S s.heap h'→SetC prog w h' S m L (fun l=>M l∨KyIn prog w s.heap des des.size l)→m≤n + des.size→Q PUnit.unit { s with heap:=h' }) :
  wpAny (model prog w) A (forIn [:des.size] PUnit.unit fun i __s=>do
        let __do_lift ← PySem.dictEntries d
        match __do_lift[i]? with
         | some e=>do
          let _ ← PySem.holding [e.key] (PySem.setAddHashed S e.key e.hash)
          let __do_lift ← PySem.dictEpoch d
          if (__do_lift != ep)=true then do
            PySem.unsupported (toString id ++ toString ":changed-during-callback")
            pure (ForInStep.yield PUnit.unit)
           else pure (ForInStep.yield PUnit.unit)
         | x=>do
          PySem.unsupported "internal:set-from-dict"
          pure (ForInStep.yield PUnit.unit)) Q E s:=by
 rw [Std.Legacy.Range.forIn_eq_forIn_range']
 have sz:(Std.Legacy.Range.size [:des.size])=des.size:=by simp [Std.Legacy.Range.size]
 rw [sz]
 show wpAny (model prog w) A (forIn (List.range' 0 des.size 1) PUnit.unit _) Q E s
 refine wpAny_forIn_list _ (fun rest _ s'=>∃ h' m i,s'={ s with heap:=h' }∧Heap.SameBut S s.heap h'∧SetC prog w h' S m L (fun l=>M l∨KyIn prog w s.heap des i l)∧m≤n + i∧i≤des.size∧rest=List.range' i (des.size - i) 1) _ ?_ ?_ _ _ ⟨s.heap,n,0,rfl,Heap.SameBut.refl _ _,?_,Nat.le_refl _,Nat.zero_le _,rfl⟩
 ·rintro x rest u s' ⟨h',m,i,rfl,sb,sc,hm,hi,er⟩
  have lt:i < des.size:=Nat.lt_of_not_le fun z=>by
   rw [show des.size - i=0 by omega] at er
   cases er
  rw [show des.size - i=(des.size - (i + 1)) + 1 by omega,List.range'_succ] at er
  cases er
  have gd:h'.get? d=some o:=(sb.2 d ne).trans hd
  refine wpAny_bind (wpAny_dictEntries gd hdd ?_)
  rw [Array.getElem?_eq_getElem lt]
  dsimp only
  obtain ⟨b,l,ek,kl⟩:=hk des[x] (Array.mem_toList_iff.mpr (Array.getElem_mem lt))
  have hvx:=hv des[x] (Array.mem_toList_iff.mpr (Array.getElem_mem lt))
  rw [ek] at hvx ⊢
  refine wpAny_bind (wpAny_holding (Zdb hu sc (Zaz kl sb hS hSc) (by omega) hvx fun bb h2 m2 sb2 st2 hm2=>?_))
  have sb3:Heap.SameBut S s.heap h2:=sb.trans sb2
  refine wpAny_bind (wpAny_dictEpoch ((sb3.2 d ne).trans hd) hdd ?_)
  rw [bne_self_eq_false]
  simp only [Bool.false_eq_true,if_false]
  refine wpAny_pure ⟨h2,m2,x + 1,rfl,sb3,?_,by omega,lt,rfl⟩
  obtain ⟨o2,es2,ep2,t2,q1,q2,q3,q4,q5,q8,q6,q7⟩:=st2
  refine ⟨o2,es2,ep2,t2,q1,q2,q3,q4,q5,q8,q6,fun l2=>?_⟩
  rw [← q7 l2]
  constructor
  ·rintro (z | ⟨j,e,b2,j1,j2,j3,j4⟩)
   ·exact .inl (.inl z)
   ·by_cases c:j=x
    ·subst c
     rw [Array.getElem?_eq_getElem lt] at j2
     cases j2
     rw [ek] at j3
     cases j3
     exact .inr (key_uniq j4 kl)
    ·exact .inl (.inr ⟨j,e,b2,by omega,j2,j3,j4⟩)
  ·rintro ((z | ⟨j,e,b2,j1,j2,j3,j4⟩) | z)
   ·exact .inl z
   ·exact .inr ⟨j,e,b2,by omega,j2,j3,j4⟩
   ·subst z
    exact .inr ⟨x,des[x],b,by omega,Array.getElem?_eq_getElem lt,ek,kl⟩
 ·rintro u s' ⟨h',m,i,rfl,sb,sc,hm,hi,er⟩
  have e:i=des.size:=by
   have:=congrArg List.length er
   rw [List.length_range'] at this
   simp at this
   omega
  subst e
  exact h h' m sb sc hm
 ·obtain ⟨o2,es2,ep2,t2,q1,q2,q3,q4,q5,q8,q6,q7⟩:=st
  refine ⟨o2,es2,ep2,t2,q1,q2,q3,q4,q5,q8,q6,fun l2=>?_⟩
  rw [← q7 l2]
  exact ⟨fun z=>z.elim (fun z=>z) (fun ⟨j,_,_,z,_⟩=>absurd z (by omega)),.inl⟩
end
end Tab
namespace Tab
open PySem PySem.SetTable PyProof.Rows
section
variable {prog:Program} {w:World} {A:Around} {E:Value→Shared→Prop} {s:Shared}
def byT (w:World):Bool:=w.params.followText "set-order"
theorem Zdf (a:Value) {Q₁:Value→Shared→Prop} (h:Q₁ (.ref s.heap.objs.size) { s with heap:=s.heap.push (fresh (!byT w)) }):codeAny (model prog w) A (.call (.builtin "set.__new__") ⟨[.type "set", a],[]⟩) (wants Q₁ E) s:=by
 refine codeAny_of_tree (show wpAny _ A.in1 (do checkBuiltinCall "set.__new__" ⟨[.type "set", a],[]⟩; again (.builtin "set.__new__" ⟨[.type "set", a],[]⟩)) _ _ s from ?_)
 refine wpAny_bind (wpAny_of_eq (F.newCall_set_1 a) (wpAny_pure ⟨plainId_quiet F.plain_set_new _,?_⟩))
 refine codeAny_builtin F.entry_set_new ?_
 rw [Around.under_plainId F.plain_set_new _]; unfold Builtin.«set.__new__» Builtin.Frozenset.newClass; have sub0:=sub_set_self
 obtain ⟨hp,g,d,tk,os⟩:=s; dsimp only; wp_walk
 refine wpAny_askSetting (wpAny_pure ?_); dsimp only; simp only [newObj]
 exact wpAny_bind (wpAny_alloc (wpAny_pure (wpAny_pure h)))
theorem ZgT {Q:Value→Shared→Prop} (h:Q (.ref s.heap.objs.size) { s with heap:=s.heap.push (fresh (!byT w)) }):wpAny (model prog w) A (newSet (.type "set")) Q E s:=by
 unfold newSet setsByText
 refine wpAny_bind (wpAny_bind (wpAny_askSetting (wpAny_pure ?_))); dsimp only; simp only [newObj]
 exact wpAny_bind (wpAny_alloc (wpAny_pure h))
theorem Zbg {h h':Heap} {l:List Int} {b:Addr} (k:IsTupleKey (intKind prog w) h l b) (kp:∀ b o,h.get? b=some o→h'.get? b=some o):IsTupleKey (intKind prog w) h' l b:=by
 obtain ⟨o,its,n,h1,h2,h3,h4⟩:=k
 exact ⟨o,its,n,kp _ _ h1,h2,h3,h4⟩
theorem ZiV {h:Heap} {a:Addr} {led:Bool} {V:Value→Prop} (e:h.get? a=some (fresh led)):SetC prog w h a 0 (led,V) fun _=>False :=
 ⟨_,#[],0,_,e,⟨rfl,rfl,rfl⟩,rfl,rfl,⟨.inl rfl,rfl,rfl,show 0 * 5 < 7 * 3 by decide⟩,⟨rfl,fun i k _ h=>absurd h (Nat.not_lt_zero _),rfl,fun e he=>by simp at he⟩,fun e he=>by simp at he,fun l=>⟨fun z=>z.elim,fun ⟨e,he,_⟩=>by simp at he⟩⟩
theorem call_setDct {d:Addr} {od:Obj} {des:Array DictEntry} {ep:Nat} {Q:Value→Shared→Prop} (hu:A.units + 8 < cLine) (hd:s.heap.get? d=some od) (hc:od.cls=.type "dict") (hdd:od.data=.dict des ep) (ns:(d == sysModules)=false)
  (hk:∀ e∈des.toList,∃ b l,e.key=.ref b∧IsTupleKey (intKind prog w) s.heap l b) (room:des.size < 76)
  (h:∀ (h':Heap) (m:Nat),(∀ b o,s.heap.get? b=some o→h'.get? b=some o)→SetC prog w h' s.heap.objs.size m (!byT w,fun v=>∃ e∈des.toList,v=e.key) (fun l=>KyIn prog w s.heap des des.size l)→m≤des.size→Q (.ref s.heap.objs.size) { s with heap:=h' }) :
  wpAny (model prog w) A (call (.type "set") [.ref d]) Q E s:=by
 obtain ⟨c,tl,mr⟩:=F.called_set.mro
 have md:=F.called_set.made; have sb:=F.called_set.sub; have c1:=F.called_set.notType; have c2:=F.called_set.canCreate; have c3:=F.typeCall_set_1 (.ref d)
 refine wpAny_call (codeAny_of_tree (show wpAny _ _ (callAny (.type "set") _) _ _ _ from wpAny_pure ⟨Code.quiet_builtin _ (by decide +kernel),codeAny_builtin F.entry_type_call ?_⟩))
 rw [Around.under_plain (weight_type_call_type "set" [.ref d] []) rfl]
 repeat (any_goals (first | assumption | wp_step))
 refine codeAny_mono (Zdf (.ref d) (E:=E) (Q₁:=fun v z=>v=.ref s.heap.objs.size∧z={ s with heap:=s.heap.push (fresh (!byT w)) }) ⟨rfl,rfl⟩) fun r z hr=>?_
 cases r with
 | error e=>exact hr
 | ok fl =>
  cases fl with
  | ret v =>
   obtain ⟨rfl,rfl⟩:=hr
   have gS:(s.heap.push (fresh (!byT w))).get? s.heap.objs.size=some (fresh (!byT w)):=Heap.get?_push_size _ rfl
   have tS:Shared.TypeIs { s with heap:=s.heap.push (fresh (!byT w)) } (.ref s.heap.objs.size) "set" := ⟨_,gS,rfl⟩
   have d1:=F.called_set.init.lookup; have d2:=F.called_set.init.bind (.ref s.heap.objs.size)
   repeat (any_goals (first | assumption | wp_step))
   refine codeAny_mono (codeAny_call_builtin (R:=wants (fun v z=>v=.none∧∃ h' m,z={ s with heap:=h' }∧(∀ b o,s.heap.get? b=some o→h'.get? b=some o)∧SetC prog w h' s.heap.objs.size m (!byT w,fun v=>∃ e∈des.toList,v=e.key) (fun l=>KyIn prog w s.heap des des.size l)∧m≤des.size) E) F.called_set.init.plain F.entry_set_init (check_set_init_1 tS ?_)) fun r2 z2 hr2=>?_
   ·have llt:=Heap.lt_size hd
    have kp:∀ b o,s.heap.get? b=some o→(s.heap.push (fresh (!byT w))).get? b=some o:=fun b o e=>Heap.get?_push_of_some _ e
    have gd:=kp d od hd
    have ne:d≠s.heap.objs.size:=Nat.ne_of_lt llt
    obtain ⟨oc,oo,oda,osl⟩:=od
    simp only at hc hdd
    subst hc hdd
    have f1:=F.sub_dict_set
    have f2:=F.sub_dict_frozenset
    have f3:(Value.type "dict" == Value.type "dict")=true:=by decide
    unfold Builtin.«set.__init__» noKeywords Builtin.Frozenset.updateFrom
    generalize g:setRoomFor=rf
    wp_walk
    subst g
    refine roomC (A:=A.in1.in1) (ZiV (V:=fun v=>∃ e∈des.toList,v=e.key) gS) (by omega) fun h1 sb1 sc1 _=>?_
    have g1:h1.get? d=some _:=(sb1.2 d ne).trans gd
    obtain ⟨o1,_,_,_,x1,x2,_⟩:=id sc1
    have hk1:∀ e∈des.toList,∃ b l,e.key=.ref b∧IsTupleKey (intKind prog w) h1 l b:=fun e he=>by
     obtain ⟨b,l,q1,q2⟩:=hk e he
     exact ⟨b,l,q1,Zaz (Zbg q2 kp) sb1 gS rfl⟩
    have hv1:∀ e∈des.toList,((!byT w,fun v=>∃ e∈des.toList,v=e.key):Bool×(Value→Prop)).2 e.key:=fun e he=>⟨e,he,rfl⟩
    refine wpAny_bind (wpAny_dictEntries g1 rfl ?_)
    refine wpAny_bind (Zh8 (A:=A.in1.in1) (by show A.units + 1 + 1 < _; omega) x1 x2.1 g1 rfl ne hk1 hv1 sc1 (by omega) fun h2 m sb2 sc2 hm=>?_)
    refine wpAny_pure (show wpAny _ _ (ret Value.none) _ _ _ from wpAny_pure ⟨rfl,h2,m,rfl,fun b o e=>?_,?_,by omega⟩)
    ·have bl:b≠s.heap.objs.size:=Nat.ne_of_lt (Heap.lt_size e)
     exact (sb2.2 b bl).trans ((sb1.2 b bl).trans (kp b o e))
    ·obtain ⟨o2,es2,ep2,t2,q1,q2,q3,q4,q5,q8,q6,q7⟩:=sc2
     refine ⟨o2,es2,ep2,t2,q1,q2,q3,q4,q5,q8,q6,fun l2=>?_⟩
     rw [← q7 l2]
     constructor
     ·rintro ⟨j,e,b,j1,j2,j3,j4⟩
      exact .inr ⟨j,e,b,j1,j2,j3,Zaz (Zbg j4 kp) sb1 gS rfl⟩
     ·rintro (z | ⟨j,e,b,j1,j2,j3,j4⟩)
      ·exact z.elim
      ·obtain ⟨b',l',k1,k2⟩:=hk e (Array.mem_toList_iff.mpr (Array.mem_of_getElem? j2))
       rw [j3] at k1
       cases k1
       rw [key_uniq j4 (Zaz (Zbg k2 kp) sb1 gS rfl)]
       exact ⟨j,e,b,j1,j2,j3,k2⟩
   ·cases r2 with
    | error e=>exact hr2
    | ok fl2 =>
     cases fl2 with
     | ret r =>
      obtain ⟨rfl,h',m,rfl,kp,sc,hm⟩:=hr2
      repeat (any_goals (first | assumption | wp_step))
      exact h _ _ kp sc hm
     | next=>exact hr2.elim
     | brk=>exact hr2.elim
     | cont=>exact hr2.elim
  | next=>exact hr.elim
  | brk=>exact hr.elim
  | cont=>exact hr.elim
end
end Tab
namespace Tab
open PySem PySem.SetTable
section
variable {prog:Program} {w:World} {A:Around} {E:Value→Shared→Prop} {s:Shared}
theorem ZeX {α:Type} (next:Nat→Nat):∀ (fuel k:Nat) (left:List α) (out:Array α),left.length=fuel→(pickOrder.go next fuel k left out).toList.Perm (out.toList ++ left)
 | 0,k,left,out,h=>by
  have:left=[]:=List.eq_nil_of_length_eq_zero h
  subst this
  unfold pickOrder.go
  simp
 | fuel + 1,k,left,out,h=>by
  unfold pickOrder.go
  have lt:next k % left.length < left.length:=Nat.mod_lt _ (by omega)
  rw [List.getElem?_eq_getElem lt]
  dsimp only
  refine (ZeX next fuel (k + 1) _ _ (by rw [List.length_eraseIdx_of_lt lt]; omega)).trans ?_
  rw [Array.toList_push,List.append_assoc]
  refine List.Perm.append_left _ ?_
  generalize next k % left.length=i at lt
  rw [List.eraseIdx_eq_take_drop_succ]
  have e:left=left.take i ++ left[i] :: left.drop (i + 1):=by rw [← List.drop_eq_getElem_cons lt,List.take_append_drop]
  conv=>rhs; rw [e]
  exact (List.perm_middle (l₁:=left.take i) (l₂:=left.drop (i + 1)) (a:=left[i])).symm
def ordE (w:World) (a:Addr) (ep:Nat) (es:Array (Int×Value)):Array (Int×Value):=if byT w=true then pickOrder (w.params.setOrder a ep) es else es
theorem ord_perm (a:Addr) (ep:Nat) (es:Array (Int×Value)):(ordE w a ep es).toList.Perm es.toList:=by
 unfold ordE
 split
 ·have:=ZeX (w.params.setOrder a ep) es.size 0 es.toList #[] (by simp)
  simpa [pickOrder] using this
 ·exact .refl _
theorem Zcx {Q:Bool→Shared→Prop} (h:Q (byT w) s):wpAny (model prog w) A setsByText Q E s:=by
 unfold setsByText
 exact wpAny_bind (wpAny_askSetting (wpAny_pure h))
theorem walkC {a:Addr} {o:Obj} {es:Array (Int×Value)} {ep n:Nat} {t:SetTable} {Q:Array (Int×Value)→Shared→Prop} (ho:s.heap.get? a=some o) (hd:o.data=.set es ep t) (hz:es.size=n) (ok:TOk t n) (hl:t.led = !byT w) (hp:t.plain=true)
  (h:Q (ordE w a ep es) s):wpAny (model prog w) A (setWalk a) Q E s:=by
 unfold setWalk
 refine wpAny_bind (wpAny_setState_of ho hd (by rw [hz]; exact ok.fits) ?_)
 dsimp only
 refine wpAny_bind (Zcx ?_)
 unfold ordE at h
 cases q:byT w with
 | true =>
  rw [q] at h
  simp only [if_true] at h ⊢
  exact wpAny_bind (wpAny_askSetting (wpAny_pure h))
 | false =>
  rw [q] at h hl
  simp only [Bool.false_eq_true,if_false] at h ⊢
  change wpAny _ _ (if (!t.plain && decide (es.size > 1))=true then _ else ((if (!t.led && decide (es.size > 1))=true then unsupported "set:maker-not-led" else pure ()) >>= fun _=>pure es)) _ _ _
  rw [hp,hl]
  simp only [Bool.not_true,Bool.not_false,Bool.false_and,Bool.false_eq_true,if_false]
  exact wpAny_bind (wpAny_pure (wpAny_pure h))
theorem ZjC {h:Heap} {S:Addr} {o:Obj} {es es':Array (Int×Value)} {ep n:Nat} {t t':SetTable} {L:Bool×(Value→Prop)} {M:List Int→Prop} (g:h.get? S=some o) (ex:o.ExactSet) (d:o.data=.set es ep t) (ks:TKs prog w h es') (cs:∀ l,M l↔Hs prog w h es' l) (hz:es'.size=n) (ok:TOk t' n)
  (hl:t'.led=L.1∧Ris t'.place∧t'.plain=true∧∀ e∈es'.toList,L.2 e.2):SetC prog w (h.update S (Obj.putSet es' t')) S n L M:=by
 have sb:=Heap.SameBut.update h S (Obj.putSet es' t')
 have k2:=ks.same sb g ex.1
 refine ⟨_,es',_,t',Zex g d es' t',ex,rfl,hz,ok,hl,k2,fun l=>?_⟩
 rw [cs l]
 constructor
 ·rintro ⟨e,he,b,eb,kb⟩
  exact ⟨e,he,b,eb,Zaz kb sb g ex.1⟩
 ·rintro ⟨e,he,b,eb,kb⟩
  obtain ⟨b',eb',l',kb'⟩:=ks e he
  have e2:b=b':=by rw [eb] at eb'; cases eb'; rfl
  subst e2
  rw [key_uniq kb (Zaz kb' sb g ex.1)]
  exact ⟨e,he,b,eb,kb'⟩
theorem ZlZ {h h':Heap} {S:Addr} {o:Obj} {es:Array (Int×Value)} (ks:TKs prog w h es) (sb:Heap.SameBut S h h') (g:h.get? S=some o) (hc:o.cls=.type "set") (l:List Int):Hs prog w h es l↔Hs prog w h' es l:=by
 constructor
 ·rintro ⟨e,he,b,eb,kb⟩
  exact ⟨e,he,b,eb,Zaz kb sb g hc⟩
 ·rintro ⟨e,he,b,eb,kb⟩
  obtain ⟨b',eb',l',kb'⟩:=ks e he
  have e2:b=b':=by rw [eb] at eb'; cases eb'; rfl
  subst e2
  rw [key_uniq kb (Zaz kb' sb g hc)]
  exact ⟨e,he,b,eb,kb'⟩
theorem Zlg {S O:Addr} {n m:Nat} {M M':List Int→Prop} {V:Value→Prop} {each:Sem Unit} {Q:Unit→Shared→Prop} (hu:A.units < cLine) (ne:S≠O) (stS:SetC prog w s.heap S n (!byT w,V) M) (stO:SetC prog w s.heap O m (!byT w,V) M') (room:n + m < 76)
  (he:∀ (h1:Heap) (Q':Unit→Shared→Prop),Heap.SameBut S s.heap h1→Q' () { s with heap:=h1 }→wpAny (model prog w) A each Q' E { s with heap:=h1 })
  (h:∀ h' k,Heap.SameBut S s.heap h'→SetC prog w h' S k (!byT w,V) (fun l=>M l∨M' l)→k≤n + m→Q () { s with heap:=h' }):wpAny (model prog w) A (setMerge S O each) Q E s:=by
 obtain ⟨oS,esS,epS,tS,gS,exS,dS,zS,okS,hlS,ksS,csS⟩:=id stS
 obtain ⟨oO,eo,epO,tO,gO,exO,dO,zO,okO,hlO,ksO,csO⟩:=id stO
 unfold setMerge
 rw [if_neg (by simpa using ne)]
 refine wpAny_bind (wpAny_setState_of gO dO (by rw [zO]; exact okO.fits) ?_)
 dsimp only
 by_cases emp:eo.isEmpty=true
 ·rw [if_pos emp]
  refine wpAny_pure (h s.heap n (Heap.SameBut.refl _ _) ⟨oS,esS,epS,tS,gS,exS,dS,zS,okS,hlS,ksS,fun l=>?_⟩ (by omega))
  rw [← csS l]
  refine ⟨fun z=>z.elim id fun z=>?_,.inl⟩
  obtain ⟨e,he,_⟩:=(csO l).mp z
  rw [Array.isEmpty_iff] at emp
  rw [emp] at he
  simp at he
 rw [if_neg emp]
 refine wpAny_bind (roomC stS (by rw [zO]; exact room) fun h1 sb1 sc1 big=>?_)
 obtain ⟨o1,es1,ep1,t1,g1,ex1,d1,z1,ok1,hl1,ks1,cs1⟩:=id sc1
 have big:=big o1 es1 ep1 t1 g1 d1
 rw [zO] at big
 refine wpAny_bind (wpAny_setState_of g1 d1 (by rw [z1]; exact ok1.fits) ?_)
 dsimp only
 have gO1:h1.get? O=some oO:=(sb1.2 O (Ne.symm ne)).trans gO
 have ksO1:TKs prog w h1 eo:=ksO.same sb1 gS exS.1
 have fl:t1.fill=n:=by unfold SetTable.fill; rw [ok1.sz,ok1.dum]; rfl
 have csO1:∀ l,M' l↔Hs prog w h1 eo l:=fun l=>(csO l).trans (ZlZ ksO sb1 gS exS.1 l)
 have noM:n=0→∀ l,¬ M l:=fun n0 l z=>by
  obtain ⟨e,he,_⟩:=(csS l).mp z
  have:esS = #[]:=by apply Array.eq_empty_of_size_eq_zero; omega
  rw [this] at he
  simp at he
 unfold SetTable.road
 rw [fl]
 by_cases n0:n=0
 ·subst n0
  simp only [bne_self_eq_false,Bool.false_eq_true,if_false]
  have cs2:∀ l,(M l∨M' l)↔Hs prog w h1 eo l:=fun l=>⟨fun z=>z.elim (fun z=>absurd z (noM rfl l)) (csO1 l).mp,fun z=>.inr ((csO1 l).mpr z)⟩
  by_cases rd:(t1.mask == tO.mask && tO.dummies.isEmpty)=true
  ·rw [if_pos rd]
   refine wpAny_storeSet_of g1 d1 ?_ (by rw [zO,sizeLine_eq]; omega)
   refine h _ m (sb1.trans (Heap.SameBut.update h1 S _)) (ZjC g1 ex1 d1 ksO1 cs2 zO ⟨okO.msk,okO.dum,okO.sz,okO.lo⟩ ⟨?_,hlO.2.1,?_,hlO.2.2.2⟩) (by omega)
   ·show (t1.led && tO.led)=_
    rw [hl1.1,hlO.1,Bool.and_self]
   ·show (t1.plain && tO.plain)=_
    rw [hl1.2.2.1,hlO.2.2.1]; rfl
  ·rw [if_neg rd]
   obtain ⟨t',order,e1,e2,e3,e4,e5,e6,e7,e8⟩:=ZiB (finger:=t1.finger) (moves:=t1.moves) (led:=t1.led && tO.led) (plain:=t1.plain && tO.plain) (hashes:=eo.map (·.1)) ok1.msk (by rw [Array.size_map,zO]; omega)
   rw [Array.size_map] at e4 e5 e6
   have sz:(order.filterMap (eo[·]?)).size=eo.size:=by
    rw [← Array.length_toList,Array.toList_filterMap,Zfs _ e6,Array.length_toList,e5]
   have pm:∀ e,e∈(order.filterMap (eo[·]?)).toList↔e∈eo.toList:=fun e=>by
    rw [Array.toList_filterMap]
    constructor
    ·intro he
     obtain ⟨i,_,hi⟩:=List.mem_filterMap.mp he
     exact Array.mem_toList_iff.mpr (Array.mem_of_getElem? hi)
    ·intro he
     obtain ⟨i,hi,q⟩:=List.mem_iff_getElem.mp he
     have hi':i < eo.size:=by rw [Array.length_toList] at hi; exact hi
     refine List.mem_filterMap.mpr ⟨i,ZgM ok1.msk (by rw [Array.size_map,zO]; omega) e1 i (by rw [Array.size_map]; exact hi'),?_⟩
     rw [Array.getElem?_eq_getElem hi',← q,Array.getElem_toList]
   rw [e1]
   refine wpAny_bind ?_
   change wpAny _ _ (if ((order.filterMap (eo[·]?)).size != eo.size)=true then (unsupported "internal:set-table-lost-an-element" >>= fun _=>pure (order.filterMap (eo[·]?),t')) else pure (order.filterMap (eo[·]?),t')) _ _ _
   rw [sz,bne_self_eq_false]
   simp only [Bool.false_eq_true,if_false]
   refine wpAny_pure ?_
   dsimp only
   refine wpAny_storeSet_of g1 d1 ?_ (by rw [sz,zO,sizeLine_eq]; omega)
   have hsS:∀ l,Hs prog w h1 eo l↔Hs prog w h1 (order.filterMap (eo[·]?)) l:=fun l=>⟨fun ⟨e,he,r⟩=>⟨e,(pm e).mpr he,r⟩,fun ⟨e,he,r⟩=>⟨e,(pm e).mp he,r⟩⟩
   refine h _ m (sb1.trans (Heap.SameBut.update h1 S _)) (ZjC g1 ex1 d1 (fun e he=>ksO1 e ((pm e).mp he)) (fun l=>(cs2 l).trans (hsS l)) (by rw [sz,zO]) ⟨by rw [e2]; exact ok1.msk,e3,by rw [e4,zO],by rw [e2]; omega⟩ ⟨?_,ZfR e1,?_,fun e he=>hlO.2.2.2 e ((pm e).mp he)⟩) (by omega)
   ·rw [e7,hl1.1,hlO.1,Bool.and_self]
   ·rw [e8,hl1.2.2.1,hlO.2.2.1]; rfl
 ·have nb:(n != 0)=true:=by simpa using n0
  rw [nb]
  simp only [if_true]
  have unseen:∀ Q':Array (Int×Value)→Shared→Prop,Q' (ordE w O epO eo) { s with heap:=h1 }→wpAny (model prog w) A (setWalkUnseen O [S] (some S)) Q' E { s with heap:=h1 }:=fun Q' q=>by
   unfold setWalkUnseen
   refine wpAny_bind (wpAny_setState_of gO1 dO (by rw [zO]; exact okO.fits) ?_)
   dsimp only
   refine wpAny_bind (Zcx ?_)
   have tr:(byT w || (tO.led && tO.plain) || decide (eo.size≤1))=true:=by
    rw [hlO.1,hlO.2.2.1]
    cases byT w <;> rfl
   rw [if_pos tr]
   exact walkC gO1 dO zO okO hlO.1 hlO.2.2.1 q
  refine wpAny_bind (unseen _ ?_)
  have pm:=ord_perm (w:=w) O epO eo
  generalize ordE w O epO eo=arr at pm
  refine wpAny_bind ?_
  rw [← Array.forIn_toList]
  refine wpAny_forIn_list _ (fun rest _ s'=>∃ h' k done,arr.toList=done ++ rest∧s'={ s with heap:=h' }∧Heap.SameBut S s.heap h'∧SetC prog w h' S k (!byT w,V) (fun l=>M l∨∃ e∈done,∃ b,e.2=.ref b∧IsTupleKey (intKind prog w) s.heap l b)∧k≤n + done.length) _ ?_ ?_ _ _ ⟨h1,n,[],rfl,rfl,sb1,?_,Nat.le_refl _⟩
  ·rintro ⟨hx,x⟩ rest u s' ⟨h',k,done,el,rfl,sb,sc,hk⟩
   have mem:(hx,x)∈eo.toList:=pm.mem_iff.mp (by rw [el]; simp)
   obtain ⟨b,eb,l,kb⟩:=ksO _ mem
   have eb:x=.ref b:=eb
   subst eb
   have ll:done.length < m:=by
    have:=congrArg List.length el
    rw [pm.length_eq,Array.length_toList,zO,List.length_append,List.length_cons] at this
    omega
   dsimp only
   refine wpAny_bind (wpAny_holding (Zdb hu sc (Zaz kb sb gS exS.1) (by omega) (hlO.2.2.2 _ mem) fun bb h2 k2 sb2 sc2 hk2=>?_))
   have sb3:Heap.SameBut S s.heap h2:=sb.trans sb2
   refine wpAny_bind (he h2 _ sb3 ?_)
   refine wpAny_bind (wpAny_setState_of ((sb3.2 O (Ne.symm ne)).trans gO) dO (by rw [zO]; exact okO.fits) ?_)
   dsimp only
   rw [bne_self_eq_false]
   simp only [Bool.false_eq_true,if_false]
   refine wpAny_pure ⟨h2,k2,done ++ [(hx,.ref b)],by rw [el]; simp,rfl,sb3,?_,by rw [List.length_append,List.length_singleton]; omega⟩
   obtain ⟨o2,es2,ep2,t2,q1,q2,q3,q4,q5,q8,q6,q7⟩:=sc2
   refine ⟨o2,es2,ep2,t2,q1,q2,q3,q4,q5,q8,q6,fun l2=>?_⟩
   rw [← q7 l2]
   constructor
   ·rintro (z | ⟨e,he',b2,eb2,kb2⟩)
    ·exact .inl (.inl z)
    ·rcases List.mem_append.mp he' with he' | he'
     ·exact .inl (.inr ⟨e,he',b2,eb2,kb2⟩)
     ·rw [List.mem_singleton.mp he'] at eb2
      cases eb2
      exact .inr (key_uniq kb2 kb)
   ·rintro ((z | ⟨e,he',b2,eb2,kb2⟩) | z)
    ·exact .inl z
    ·exact .inr ⟨e,List.mem_append_left _ he',b2,eb2,kb2⟩
    ·subst z
     exact .inr ⟨_,List.mem_append_right _ (List.mem_singleton.mpr rfl),b,rfl,kb⟩
  ·rintro u s' ⟨h',k,done,el,rfl,sb,sc,hk⟩
   rw [List.append_nil] at el
   refine wpAny_pure (h h' k sb ?_ ?_)
   ·obtain ⟨o2,es2,ep2,t2,q1,q2,q3,q4,q5,q8,q6,q7⟩:=sc
    refine ⟨o2,es2,ep2,t2,q1,q2,q3,q4,q5,q8,q6,fun l2=>?_⟩
    rw [← q7 l2]
    dsimp only
    rw [csO l2]
    refine or_congr Iff.rfl ⟨fun ⟨e,he',r⟩=>⟨e,?_,r⟩,fun ⟨e,he',r⟩=>⟨e,?_,r⟩⟩
    ·rw [← el]; exact pm.mem_iff.mpr he'
    ·rw [← el] at he'; exact pm.mem_iff.mp he'
   ·have:=congrArg List.length el
    rw [pm.length_eq,Array.length_toList,zO] at this
    omega
  ·refine ⟨o1,es1,ep1,t1,g1,ex1,d1,z1,ok1,hl1,ks1,fun l=>?_⟩
   rw [← cs1 l]
   exact ⟨fun z=>z.elim id fun ⟨e,he',_⟩=>by simp at he',.inl⟩
end
end Tab
namespace Tab
open PySem PySem.SetTable PyProof.Rows
section
variable {prog:Program} {w:World} {A:Around} {E:Value→Shared→Prop} {s:Shared}
theorem Zkn:entryFor table "set.__or__" = some Builtin.«frozenset.__or__» := entryFor_alias (id' := "frozenset.__or__") (by kernel_rfl) rfl (by decide +kernel) (by kernel_rfl)
theorem SetC.keep {h h':Heap} {a:Addr} {n:Nat} {L:Bool×(Value→Prop)} {M:List Int→Prop} (st:SetC prog w h a n L M) (kp:∀ b o,h.get? b=some o→h'.get? b=some o):SetC prog w h' a n L M:=by
 obtain ⟨o,es,ep,t,g,ex,d,z,ok,hl,ks,cs⟩:=st
 refine ⟨o,es,ep,t,kp _ _ g,ex,d,z,ok,hl,fun e he=>?_,fun l=>?_⟩
 ·obtain ⟨b,eb,l,kb⟩:=ks e he
  exact ⟨b,eb,l,Zbg kb kp⟩
 ·rw [cs l]
  constructor
  ·rintro ⟨e,he,b,eb,kb⟩
   exact ⟨e,he,b,eb,Zbg kb kp⟩
  ·rintro ⟨e,he,b,eb,kb⟩
   obtain ⟨b',eb',l',kb'⟩:=ks e he
   have e2:b=b':=by rw [eb] at eb'; cases eb'; rfl
   subst e2
   rw [key_uniq kb (Zbg kb' kp)]
   exact ⟨e,he,b,eb,kb'⟩
theorem ZmO {a:Addr} {o:Obj} {Q:Bool→Shared→Prop} (g:s.heap.get? a=some o) (hc:o.cls=.type "set") (h:Q true s):wpAny (model prog w) A (Builtin.Frozenset.isAnySet (.ref a)) Q E s:=by
 have f1:=sub_set_self
 obtain ⟨oc,oo,od,os⟩:=o
 simp only at hc
 subst hc
 unfold Builtin.Frozenset.isAnySet
 wp_walk
 exact h
theorem Zkq {a:Addr} {o:Obj} {Q:Value→Shared→Prop} (g:s.heap.get? a=some o) (hc:o.cls=.type "set") (h:Q (.type "set") s):wpAny (model prog w) A (Builtin.Frozenset.baseOf a) Q E s:=by
 have f1:=sub_set_self
 obtain ⟨oc,oo,od,os⟩:=o
 simp only at hc
 subst hc
 unfold Builtin.Frozenset.baseOf
 wp_walk
 exact h
theorem copyC {a:Addr} {n:Nat} {V:Value→Prop} {M:List Int→Prop} {Q:Value→Shared→Prop} (hu:A.units < cLine) (sa:SetC prog w s.heap a n (!byT w,V) M) (room:n < 76)
  (h:∀ h' k,(∀ x o,s.heap.get? x=some o→h'.get? x=some o)→SetC prog w h' s.heap.objs.size k (!byT w,V) M→k≤n→Q (.ref s.heap.objs.size) { s with heap:=h' }):wpAny (model prog w) A (Builtin.Frozenset.copyOf a) Q E s:=by
 obtain ⟨oa,ea,epa,ta,ga,exa,da,za,oka,hla,ksa,csa⟩:=id sa
 unfold Builtin.Frozenset.copyOf
 refine wpAny_bind (Zkq ga exa.1 (wpAny_bind (ZgT ?_)))
 have kp:∀ x o,s.heap.get? x=some o→(s.heap.push (fresh (!byT w))).get? x=some o:=fun x o e=>Heap.get?_push_of_some _ e
 have gN:(s.heap.push (fresh (!byT w))).get? s.heap.objs.size=some (fresh (!byT w)):=Heap.get?_push_size _ rfl
 have ne:s.heap.objs.size≠a:=Nat.ne_of_gt (Heap.lt_size ga)
 refine wpAny_bind (wpAny_pure (wpAny_bind (Zlg hu ne (ZiV gN) (sa.keep kp) (by omega) (fun h1 Q' _ q=>wpAny_pure q) fun h' k sb sc hk=>?_)))
 refine wpAny_pure (h h' k (fun x o e=>?_) ?_ (by omega))
 ·exact (sb.2 x (Nat.ne_of_lt (Heap.lt_size e))).trans (kp x o e)
 ·obtain ⟨o2,es2,ep2,t2,q1,q2,q3,q4,q5,q8,q6,q7⟩:=sc
  exact ⟨o2,es2,ep2,t2,q1,q2,q3,q4,q5,q8,q6,fun l=>⟨fun z=>(q7 l).mp (.inr z),fun z=>((q7 l).mpr z).elim (fun f=>f.elim) id⟩⟩
theorem orC {a b:Addr} {V:Value→Prop} {n m:Nat} {M M':List Int→Prop} {Q:Value→Shared→Prop} (hu:A.units + 4 < cLine) (ne:a≠b) (sa:SetC prog w s.heap a n (!byT w,V) M) (sb:SetC prog w s.heap b m (!byT w,V) M') (room:n + m < 76)
  (h:∀ h' k,(∀ x o,s.heap.get? x=some o→h'.get? x=some o)→SetC prog w h' s.heap.objs.size k (!byT w,V) (fun l=>M l∨M' l)→k≤n + m→Q (.ref s.heap.objs.size) { s with heap:=h' }):wpAny (model prog w) A (binaryOp .BitOr (.ref a) (.ref b)) Q E s:=by
 obtain ⟨oa,ea,epa,ta,ga,exa,da,za,oka,hla,ksa,csa⟩:=id sa
 obtain ⟨ob,eb,epb,tb,gb,exb,db,zb,okb,hlb,ksb,csb⟩:=id sb
 refine wpAny_binaryOp_same (T := "set") ⟨_,ga,exa.1⟩ ⟨_,gb,exb.1⟩ F.fills_set_or F.slot_set_or ?_
 refine wpAny_call_entry F.slot_set_or ⟨_,ga,exa.1⟩ Zkn ?_ (F.args_set_or_2 _ _)
 unfold Builtin.«frozenset.__or__»
 refine wpAny_bind (m:=Builtin.Frozenset.slot1 "__or__" ⟨[.ref a,.ref b],[]⟩) (wpAny_of_eq (a:=(Value.ref a,Value.ref b)) rfl ?_)
 dsimp only
 simp only [Bool.false_eq_true,if_false]
 refine wpAny_bind (wpAny_bind (m:=Builtin.Frozenset.isAnySet (.ref a)) (ZmO ga exa.1 (ZmO gb exb.1 ?_)))
 simp only [Bool.not_true,Bool.false_eq_true,if_false]
 refine wpAny_bind (wpAny_pure (wpAny_bind ?_))
 refine wpAny_bind (m:=Builtin.Frozenset.copyOf a) (copyC (by show A.units + 1 < _; omega) sa (by omega) fun h1 k1 kp1 sc1 hk1=>?_)
 have lt:a < s.heap.objs.size:=Heap.lt_size ga
 have ltb:b < s.heap.objs.size:=Heap.lt_size gb
 have neq:(Value.ref b != Value.ref a)=true:=by
  have:¬ (Value.ref b=Value.ref a):=fun z=>ne (by cases z; rfl)
  simpa using this
 rw [neq]
 simp only [if_true]
 have neN:s.heap.objs.size≠b:=Nat.ne_of_gt ltb
 refine wpAny_bind (wpAny_pure (wpAny_bind (wpAny_holding ?_)))
 unfold Builtin.Frozenset.updateFrom
 refine wpAny_bind (ZmO (kp1 _ _ gb) exb.1 ?_)
 simp only [if_true]
 refine wpAny_bind (wpAny_pure ?_)
 unfold Builtin.Frozenset.merge setEpoch
 refine wpAny_bind (wpAny_bind (wpAny_setState_of (kp1 _ _ gb) db (by rw [zb]; exact okb.fits) (wpAny_pure ?_)))
 refine Zlg (by show A.units + 1 < _; omega) neN sc1 (sb.keep kp1) (by omega) (fun h2 Q' sb2 q=>?_) fun h' k sb2 sc hk=>?_
 ·unfold Builtin.Frozenset.unchanged setEpoch
  refine wpAny_bind (wpAny_bind (wpAny_setState_of ((sb2.2 b neN.symm).trans (kp1 _ _ gb)) db (by rw [zb]; exact okb.fits) (wpAny_pure ?_)))
  rw [if_neg (by simp)]
  exact wpAny_pure q
 ·refine wpAny_pure (wpAny_pure ⟨_,rfl,by simp,h h' k (fun x o e=>?_) sc (by omega)⟩)
  exact (sb2.2 x (Nat.ne_of_lt (Heap.lt_size e))).trans (kp1 x o e)
end
end Tab
namespace Tab
open PySem PySem.SetTable PyProof.Rows L2 L3
theorem Zfz:Manifest.owners.lookup (String.ofList ['r','o','t','a','r','e','t','i','_','t','e','s'].reverse)=some Manifest.sig_set_iterator:=by kernel_rfl
theorem slot_setit_next:Slot "set_iterator" "__next__" "set_iterator.__next__" :=
 .of (owner := "set_iterator") (n := "__next__") (by rw [typeLookup_type,builtinLookup_eq_fast]; kernel_rfl) (by decide +kernel) (by decide +kernel) (by decide +kernel)
  (by first | exact .inl (by decide +kernel) | exact .inr (by decide +kernel)) (by rw [isSubtype_type]; kernel_rfl)
theorem Zcw:entryFor table "set_iterator.__next__" = some Builtin.«set_iterator.__next__» := entryFor_of_tree (by kernel_rfl)
theorem Zdn (a:Value):argsOk "set_iterator.__next__" ⟨[a],[]⟩:=by
 unfold argsOk; rw [signature?_of (id := "set_iterator.__next__") (n:=['_','_','t','x','e','n','_','_']) (o:=['r','o','t','a','r','e','t','i','_','t','e','s']) (by kernel_rfl) Zfz]; kernel_rfl
theorem Zg5:entryFor table "set.__iter__" = some Builtin.«frozenset.__iter__» := entryFor_alias (id' := "frozenset.__iter__") (by kernel_rfl) rfl (by decide +kernel) (by kernel_rfl)
section
variable {prog:Program} {w:World} {A:Around} {E:Value→Shared→Prop} {s:Shared} {a it:Addr} {es:Array (Int×Value)} {ep n:Nat} {t:SetTable}
def Zbo (w:World) (t:SetTable) (i:Nat):Nat:=if byT w=true then 0 else if i=0 then 0 else t.place.getD (i - 1) 0 + 1
def SIt (h:Heap) (it a:Addr) (j i n ep:Nat):Prop:=∃ o,h.get? it=some o∧o.cls=.type "set_iterator" ∧ o.data=.fields #[.int j 0,.int i 0,.ref a,.int n 0,.int ep 0]
def RawS (w:World) (h:Heap) (a:Addr) (es:Array (Int×Value)) (ep:Nat) (t:SetTable):Prop:=∃ o,h.get? a=some o∧o.cls=.type "set" ∧ o.data=.set es ep t∧TOk t es.size∧t.led=(!byT w)∧Ris t.place∧t.plain=true
theorem RawS.mono {h h':Heap} (x:RawS w h a es ep t) (k:∀ o,h.get? a=some o→h'.get? a=some o):RawS w h' a es ep t:=by
 obtain ⟨o,q,b⟩:=x
 exact ⟨o,k o q,b⟩
theorem SIt.mono {h h':Heap} {j i:Nat} (x:SIt h it a j i n ep) (k:∀ o,h.get? it=some o→h'.get? it=some o):SIt h' it a j i n ep:=by
 obtain ⟨o,q,b⟩:=x
 exact ⟨o,k o q,b⟩
theorem ZjQ {Q:Value→Shared→Prop} (hm:RawS w s.heap a es ep t)
  (hQ:Q (.ref s.heap.objs.size) { s with heap:=s.heap.push { cls:=.type "set_iterator", data:=.fields #[.int 0 0,.int 0 0,.ref a,.int es.size 0,.int ep 0] } }):wpAny (model prog w) A (pyIter (.ref a)) Q E s:=by
 obtain ⟨o,ho,hc,he,ok,hl,hr,hp⟩:=hm
 have ty:s.TypeIs (.ref a) "set" := ⟨o,ho,hc⟩
 refine wpAny_pyIter_slot ty F.slot_set_iter (wpAny_call_entry F.slot_set_iter ty Zg5 ?_ (F.args_set_iter_1 _))
 unfold Builtin.«frozenset.__iter__» Builtin.Frozenset.slot0 Builtin.Frozenset.sizeOf setEntries setDrawn setEpoch
 refine wpAny_bind (wpAny_pure (wpAny_bind (wpAny_bind (wpAny_bind (wpAny_setState_of ho he ok.fits (wpAny_pure (wpAny_pure ?_)))))))
 refine wpAny_bind (wpAny_bind (wpAny_setState_of ho he ok.fits ?_))
 dsimp only
 refine wpAny_bind (Zcx (wpAny_pure ?_))
 have dr:(!byT w && (!t.plain && decide (es.size > 1)))=false:=by rw [hp]; simp
 change wpAny _ _ (if (!byT w && (!t.plain && decide (es.size > 1)))=true then _ else _) _ _ _
 rw [dr,if_neg (by simp)]
 refine wpAny_bind (wpAny_pure (wpAny_bind (wpAny_bind (wpAny_setState_of ho he ok.fits (wpAny_pure ?_)))))
 refine wpAny_bind (wpAny_newObj_type (wpAny_pure ?_))
 exact ⟨_,rfl, "set_iterator", _,⟨_,Heap.get?_push_size _ rfl,rfl⟩,slot_setit_next.lookup,by simpa [rawInt] using hQ⟩
theorem Zd9:(ordE w a ep es).size=es.size:=by
 have:=(ord_perm (w:=w) a ep es).length_eq
 simpa using this
theorem Zkg {i:Nat} {Q:Option (Value×Nat)→Shared→Prop} (hm:RawS w s.heap a es ep t) (hi:i≤es.size)
  (h:Q ((ordE w a ep es)[i]?.map fun e=>(e.2,Zbo w t (i + 1))) s):wpAny (model prog w) A (setNext a (Zbo w t i) i ep) Q E s:=by
 obtain ⟨o,ho,hc,he,ok,hl,hr,hp⟩:=hm
 unfold setNext
 refine wpAny_bind (wpAny_setState_of ho he ok.fits ?_)
 dsimp only
 refine wpAny_bind (Zcx ?_)
 unfold Zbo at h ⊢
 cases q:byT w with
 | true =>
  simp only [q,if_true] at h ⊢
  rw [if_neg (by simp)]
  exact wpAny_bind (walkC ho he rfl ok hl hp (wpAny_pure h))
 | false =>
  rw [q] at hl
  have oe:ordE w a ep es=es:=by unfold ordE; rw [q]; rfl
  rw [oe] at h
  simp only [q,Bool.false_eq_true,if_false] at h ⊢
  change wpAny _ _ (if (!t.plain && decide (es.size > 1))=true then _ else ((if (!t.led && !es.isEmpty)=true then unsupported "set:maker-not-led" else pure ()) >>= fun _=>_)) _ _ _
  rw [hp,hl]
  simp only [Bool.not_true,Bool.not_false,Bool.false_and,Bool.false_eq_true,if_false]
  refine wpAny_bind (wpAny_pure (wpAny_pure ?_))
  have sz:=ok.sz
  have bi:SetTable.below t.place (if i=0 then 0 else t.place.getD (i - 1) 0 + 1)=i:=by
   by_cases z:i=0
   ·rw [if_pos z,z]; exact ZgQ hr
   ·rw [if_neg z,ZgX hr (by omega)]; omega
  rw [bi]
  rw [if_neg (by omega),Nat.add_sub_cancel] at h
  by_cases z:i < es.size
  ·rw [Array.getElem?_eq_getElem z,Array.getElem?_eq_getElem (by omega)]
   rw [Array.getElem?_eq_getElem z,Za9 (by omega)] at h
   exact h
  ·rw [Array.getElem?_eq_none (by omega)]
   rw [Array.getElem?_eq_none (by omega)] at h
   exact h
theorem Zge {i:Nat} {Q:Option Value→Shared→Prop} (hh:A.handled=none) (hit:SIt s.heap it a (Zbo w t i) i es.size ep) (hm:RawS w s.heap a es ep t)
  (more:∀ e h',(ordE w a ep es)[i]?=some e→SIt h' it a (Zbo w t (i + 1)) (i + 1) es.size ep→Heap.SameBut it s.heap h'→Q (some e.2) { s with heap:=h' })
  (done:∀ h',es.size≤i→Heap.ExtBut it s.heap h'→Q none { s with heap:=h' }) (hi:i≤es.size):wpAny (model prog w) A (pyNext (.ref it)) Q E s:=by
 obtain ⟨oi,gi,ci,di⟩:=id hit
 have ty:s.TypeIs (.ref it) "set_iterator" := ⟨oi,gi,ci⟩
 obtain ⟨o,ho,hc,he,ok,hl,hr,hp⟩:=id hm
 unfold pyNext
 refine wpAny_bind (wpAny_attempt (wpAny_callSpecial?_slot (name := "__next__") ty slot_setit_next (wpAny_call_entry slot_setit_next ty Zcw ?_ (Zdn _))))
 unfold Builtin.«set_iterator.__next__» setEntries
 refine wpAny_bind (wpAny_pure (wpAny_bind (wpAny_fieldsOf gi di ?_)))
 dsimp only
 refine wpAny_bind (wpAny_bind (wpAny_setState_of ho he ok.fits (wpAny_pure ?_)))
 rw [if_neg (by simp)]
 simp only [Int.toNat_natCast]
 refine wpAny_bind (Zkg hm hi ?_)
 cases q:(ordE w a ep es)[i]? with
 | some e =>
  simp only [Option.map_some]
  let h1:=s.heap.update it (Obj.mapFields (·.setIfInBounds 0 (rawInt (Zbo w t (i + 1):Nat))))
  let h2:=h1.update it (Obj.mapFields (·.setIfInBounds 1 (rawInt ((i:Int) + 1))))
  have k1:SIt h1 it a (Zbo w t (i + 1)) i es.size ep:=by
   refine ⟨_,Heap.get?_update_self _ gi ?_,(Obj.cls_mapFields ..).trans ci,?_⟩
   ·exact Obj.isFreed_of_fields (Obj.data_mapFields di _)
   ·rw [Obj.data_mapFields di]; simp [rawInt]
  obtain ⟨o1,g1,c1,d1⟩:=id k1
  have k2:SIt h2 it a (Zbo w t (i + 1)) (i + 1) es.size ep:=by
   refine ⟨_,Heap.get?_update_self _ g1 ?_,(Obj.cls_mapFields ..).trans c1,?_⟩
   ·exact Obj.isFreed_of_fields (Obj.data_mapFields d1 _)
   ·rw [Obj.data_mapFields d1]; simp [rawInt]
  refine wpAny_bind (wpAny_setField gi di (by simp) (wpAny_bind (wpAny_setField (s:={ s with heap:=h1 }) g1 d1 (by simp) ?_)))
  exact wpAny_pure ⟨_,rfl,wpAny_pure (more e h2 q k2 ((Heap.SameBut.update ..).trans (Heap.SameBut.update ..)))⟩
 | none =>
  simp only [Option.map_none]
  refine wpAny_bind (wpAny_setField gi di (by simp) ?_)
  show wpAny _ _ (newExc (.type "StopIteration") [] >>= _) _ _ _
  unfold newExc newTuple
  refine wpAny_bind (wpAny_bind (wpAny_newObj_type (wpAny_bind (m:=firstArgMember _ _) (wpAny_of_eq (a:=Value.none) (by first | rfl | (unfold firstArgMember; rfl)) (wpAny_newObj_type ?_ (by size_fits)))) (by size_fits)))
  unfold raiseNew
  refine wpAny_bind (wpAny_handled ?_)
  rw [show A.in1.handled=none from hh]
  refine wpAny_bind (wpAny_pure (wpAny_throw ?_))
  refine wpAny_bind (wpAny_isInstance (T := "StopIteration") (b:=true) (by exact ⟨_,Heap.get?_push_size _ rfl,rfl⟩) isSubtype_stop ?_)
  refine wpAny_pure (done _ ?_ (((Heap.SameBut.update ..).extBut.push _).push _))
  have:=Array.getElem?_eq_none_iff.mp q
  rw [Zd9] at this
  exact this
def vls (w:World) (a:Addr) (ep:Nat) (es:Array (Int×Value)):List Value:=(ordE w a ep es).toList.map (·.2)
theorem ZlP {S I:Addr} {res:Value} {R:Result→Shared→Prop} (hh:A.in1.handled=none) (n1:S≠I) (n2:S≠a) (n3:I≠a) (few:es.size≤sizeLine) :
  ∀ (k i:Nat) (s:Shared) (c:Nat),es.size - i=k→i≤es.size→SIt s.heap I a (Zbo w t i) i es.size ep→RawS w s.heap a es ep t→s.heap.get? S=some (seqObj "list" ((vls w a ep es).take i).toArray c) →
  (∀ (h':Heap) (c':Nat),h'.get? S=some (seqObj "list" (vls w a ep es).toArray c')→(∀ b o,b≠S→b≠I→s.heap.get? b=some o→h'.get? b=some o)→R (.ok (.ret res)) { s with heap:=h' }) →
  codeAny (model prog w) A (.builtin "list.extend.loop" ⟨[.ref S,.ref I,res],[]⟩) R s:=by
 have lv:(vls w a ep es).length=es.size:=by unfold vls; rw [List.length_map,Array.length_toList,Zd9]
 intro k
 induction k with
 | zero =>
  intro i s c hk hi it rd hS hR
  have hin:i=es.size:=by omega
  subst hin
  refine codeAny_builtin F.entry_extend_loop ?_
  rw [Around.under_plainId F.plain_extend_loop _]
  show wpAny _ A.in1 (pyNext (.ref I) >>= _) _ _ s
  refine wpAny_bind (Zge hh it rd (fun e h' q _ _=>?_) (fun h' _ eb=>wpAny_pure (hR h' c ?_ fun b o _ nb e=>eb b o nb e)) hi)
  ·have:=(Array.getElem?_eq_some_iff.mp q).1
   rw [Zd9] at this
   omega
  ·have:=eb S _ n1 hS
   rwa [List.take_of_length_le (by omega)] at this
 | succ k ih =>
  intro i s c hk hi it rd hS hR
  have hlt:i < es.size:=by omega
  refine codeAny_builtin F.entry_extend_loop ?_
  rw [Around.under_plainId F.plain_extend_loop _]
  show wpAny _ A.in1 (pyNext (.ref I) >>= _) _ _ s
  refine wpAny_bind (Zge hh it rd (fun e h' q it' sb=>?_) (fun h' q _=>absurd q (by omega)) hi)
  have hS':=(sb.2 S n1).trans hS
  have sz:((vls w a ep es).take i).toArray.size=i:=by simp; omega
  show wpAny _ A.in1 (updateSeq S (·.push e.2) >>= _) _ _ _
  refine wpAny_bind ?_
  have sb2:Heap.SameBut S h' (h'.update S (Obj.mapSeq (·.push e.2))):=Heap.SameBut.update ..
  have e1:(vls w a ep es).take (i + 1)=(vls w a ep es).take i ++ [e.2]:=by
   rw [List.take_succ]
   congr 1
   unfold vls
   rw [List.getElem?_map,Array.getElem?_toList,q]; rfl
  have hS2:(h'.update S (Obj.mapSeq (·.push e.2))).get? S=some (seqObj "list" ((vls w a ep es).take (i + 1)).toArray (if (((vls w a ep es).take i).toArray.push e.2).size == ((vls w a ep es).take i).toArray.size then c else c + 1)):=by
   rw [e1,← List.push_toArray]
   exact get?_update_seq hS' fun xs=>xs.push e.2
  refine wpAny_updateSeq hS' rfl (wpAny_pure ⟨plainId_quiet F.plain_extend_loop _,ih (i + 1) _ _ (by omega) hlt (it'.mono fun o e=>sb2.extBut _ _ (Ne.symm n1) e) ((rd.mono fun o e=>(sb.2 a (Ne.symm n3)).trans e).mono fun o e=>sb2.extBut _ _ (Ne.symm n2) e) hS2 fun h'' c' q2 q3=>?_⟩)
   (by rw [sz]; omega) (by show (Array.push _ _).size≤sizeLine + 1; rw [Array.size_push,sz]; omega)
  exact hR h'' c' q2 fun b o nb ni e=>q3 b o nb ni (sb2.extBut _ _ nb ((sb.2 b ni).trans e))
theorem collect_set {Q:List Value→Shared→Prop} (hh:A.in1.handled=none) (hm:RawS w s.heap a es ep t) (few:es.size≤sizeLine)
  (h:∀ h':Heap,s.heap.objs.size≤h'.objs.size→(∀ b o,s.heap.get? b=some o→h'.get? b=some o)→Q (vls w a ep es) { s with heap:=h' }):wpAny (model prog w) A (collect (.ref a)) Q E s:=by
 obtain ⟨o,ho,hc,he,ok,hl,hr,hp⟩:=id hm
 have dl:=Heap.lt_size ho
 let S:=s.heap.objs.size
 let h1:=s.heap.push (seqObj "list" #[] 0)
 have z1:h1.objs.size=S + 1:=size_push' _ _
 have ty1:Shared.TypeIs { s with heap:=h1 } (.ref a) "set" := ⟨o,Heap.get?_push_of_some _ ho,hc⟩
 let h2:=h1.push { cls:=.type "set_iterator", data:=.fields #[.int 0 0,.int 0 0,.ref a,.int es.size 0,.int ep 0] }
 have ty2:Shared.TypeIs { s with heap:=h2 } (.ref a) "set" := ⟨o,Heap.get?_push_of_some _ (Heap.get?_push_of_some _ ho),hc⟩
 have nS:S≠a:=Nat.ne_of_gt dl
 have lS:h2.get? S=some (seqObj "list" #[] 0):=Heap.get?_push_of_some _ (Heap.get?_push_size _ rfl)
 have s0:Zbo w t 0=0:=by unfold Zbo; split <;> rfl
 have lI:SIt h2 h1.objs.size a (Zbo w t 0) 0 es.size ep:=by rw [s0]; exact ⟨_,Heap.get?_push_size _ rfl,rfl,rfl⟩
 have nSI:S≠h1.objs.size:=by rw [z1]; exact Nat.ne_of_lt (Nat.lt_succ_self _)
 have nId:h1.objs.size≠a:=by rw [z1]; exact Nat.ne_of_gt (Nat.lt_succ_of_lt dl)
 unfold collect
 refine wpAny_bind (wpAny_runValue (codeAny_builtin F.entry_proto_collect ?_))
 rw [Around.under_plainId F.plain_proto_collect _]
 show wpAny _ A.in1 (newList [] >>= fun l=>again (.builtin "list.__iadd__" ⟨[l,.ref a],[]⟩)) _ _ s
 refine wpAny_bind (wpAny_newObj_type (wpAny_pure ⟨plainId_quiet F.plain_list_iadd _,codeAny_builtin F.entry_list_iadd ?_⟩))
 rw [Around.under_plainId F.plain_list_iadd _]
 show wpAny _ A.in1 (Builtin.List.listExtendWith (.ref S) (.ref a) (.ref S)) _ _ { s with heap:=h1 }
 unfold Builtin.List.listExtendWith
 refine wpAny_bind (wpAny_typeOf ty1 ?_)
 have t1:Builtin.List.listSameRef (.ref S) (.ref a)=false:=by simp [Builtin.List.listSameRef,nS]
 have t2:(Value.type "set" == Value.type "list")=false:=by decide
 have t3:(Value.type "set" == Value.type "tuple")=false:=by decide
 simp only [t1,t2,t3,Bool.or_false,Bool.false_eq_true,if_false]
 refine wpAny_bind (ZjQ (s:={ s with heap:=h1 }) (hm.mono fun o e=>Heap.get?_push_of_some _ e) (wpAny_bind (wpAny_holding ?_)))
 unfold Builtin.List.listLengthHint
 refine wpAny_bind (wpAny_specialOf (s:={ s with heap:=h2 }) (name:=Str.ofString "__len__") ty2 F.slot_set_len.lookup ?_)
 generalize hid:("set.__len__" : String)=nm
 wp_delta
 rw [show splitId nm=some ("set", "__len__") from by subst hid; decide +kernel]
 subst hid
 refine wpAny_bind (wpAny_isInstance (b:=true) (s:={ s with heap:=h2 }) ty2 sub_set_self ?_)
 refine wp_no (b := !true) rfl ?_
 refine Zlm (by decide) ?_
 refine wpAny_bind (wpAny_typeOf (s:={ s with heap:=h2 }) ty2 (wpAny_pure ?_))
 show wpAny _ A.in1 (rule "list.extend.makes-room" >>= fun _=>Builtin.List.listTouch (.ref S) >>= fun _=>again (.builtin "list.extend.loop" ⟨[.ref S,.ref h1.objs.size,.ref S],[]⟩)) _ _ { s with heap:=h2 }
 refine wpAny_bind (wpAny_rule (wpAny_bind ?_))
 show wpAny _ A.in1 (updateSeq S (·.push .none) >>= fun _=>updateSeq S (·.pop)) _ _ { s with heap:=h2 }
 let h3:=h2.update S (Obj.mapSeq (·.push Value.none))
 let h4:=h3.update S (Obj.mapSeq (·.pop))
 have l3:∃ c,h3.get? S=some (seqObj "list" #[Value.none] c):=⟨_,get?_update_seq lS (·.push Value.none)⟩
 obtain ⟨c3,l3⟩:=l3
 have l4:∃ c,h4.get? S=some (seqObj "list" #[] c):=⟨_,get?_update_seq l3 (·.pop)⟩
 obtain ⟨c4,l4⟩:=l4
 have oth:∀ b o,b≠S→h2.get? b=some o→h4.get? b=some o:=fun b o n e=>(Heap.SameBut.update h3 S _).extBut b o n ((Heap.SameBut.update h2 S _).extBut b o n e)
 refine wpAny_bind (wpAny_updateSeq (s:={ s with heap:=h2 }) lS rfl (wpAny_updateSeq (s:={ s with heap:=h3 }) l3 rfl ?_))
 refine wpAny_pure ⟨plainId_quiet F.plain_extend_loop _,ZlP (s:={ s with heap:=h4 }) (a:=a) (es:=es) (ep:=ep) (t:=t) hh nSI nS nId few es.size 0 c4 rfl (Nat.zero_le _) (lI.mono fun o e=>oth _ o (Ne.symm nSI) e) (RawS.mono (RawS.mono hm fun o e=>Heap.get?_push_of_some _ (Heap.get?_push_of_some _ e)) fun o e=>oth a o (Ne.symm nS) e) l4 fun h5 c5 q1 q2=>?_⟩
 show wpAny _ A (load S >>= _) _ _ { s with heap:=h5 }
 refine wpAny_bind (wpAny_load (s:={ s with heap:=h5 }) q1 (wpAny_pure ?_))
 refine h h5 (Nat.le_of_lt (Heap.lt_size q1)) fun b o e=>?_
 have lt:=Heap.lt_size e
 have n1:b≠S:=Nat.ne_of_lt lt
 exact q2 b o n1 (by rw [z1]; exact Nat.ne_of_lt (Nat.lt_succ_of_lt lt)) (oth b o n1 (Heap.get?_push_of_some _ (Heap.get?_push_of_some _ e)))
end
end Tab
namespace Tab
open PySem PySem.SetTable
theorem SetC.wk {prog:Program} {w:World} {h:Heap} {a:Addr} {n:Nat} {L:Bool} {V V':Value→Prop} {M:List Int→Prop} (st:SetC prog w h a n (L,V) M) (k:∀ v,V v→V' v):SetC prog w h a n (L,V') M:=by
 obtain ⟨o,es,ep,t,g,ex,d,z,ok,hl,ks,cs⟩:=st
 exact ⟨o,es,ep,t,g,ex,d,z,ok,⟨hl.1,hl.2.1,hl.2.2.1,fun e he=>k _ (hl.2.2.2 e he)⟩,ks,cs⟩
end Tab
namespace L3
open PySem PySem.Spec PyProof.Rows PySem.W L2
abbrev Bsd (ks:List (List (List Int))) (as:List Addr) (k:List (List Int)) (c:Addr):Prop:=(k,c)∈ks.zip as
theorem ZaX {p:List (List Int)→Addr→Prop}:∀ {ks:List (List (List Int))} {as:List Addr},Paired p ks as→∀ {k:List (List Int)} {c:Addr},Bsd ks as k c→p k c
 | _,_,.nil,k,c,h=>by simp [Bsd] at h
 | _,_,.cons x q,k,c,h=>by
  unfold Bsd at h
  rw [List.zip_cons_cons] at h
  rcases List.mem_cons.mp h with h | h
  ·cases h; exact x
  ·exact ZaX q h
theorem Zdx:∀ {ks:List (List (List Int))} {as:List Addr},as.length=ks.length→∀ {c:Addr},c∈as→∃ k,Bsd ks as k c
 | [],[],_,c,h=>by simp at h
 | [],_ :: _,e,_,_=>by simp at e
 | _ :: _,[],e,_,_=>by simp at e
 | k :: ks,a :: as,e,c,h=>by
  rcases List.mem_cons.mp h with h | h
  ·subst h; exact ⟨k,by simp [Bsd]⟩
  ·obtain ⟨k',h'⟩:=Zdx (by simpa using e) h
   exact ⟨k',by unfold Bsd; rw [List.zip_cons_cons]; exact List.mem_cons_of_mem _ h'⟩
theorem Zef {ks:List (List (List Int))} {as:List Addr} {k:List (List Int)} {c:Addr} (h:Bsd ks as k c):k∈ks:=(List.of_mem_zip h).1
theorem Znc {ks:List (List (List Int))} {as:List Addr} {k:List (List Int)} {c:Addr} (h:Bsd ks as k c):c∈as:=(List.of_mem_zip h).2
theorem Zi0:∀ {ks:List (List (List Int))} {as:List Addr},as.length=ks.length→∀ {k:List (List Int)},k∈ks→∃ c,Bsd ks as k c
 | [],[],_,c,h=>by simp at h
 | [],_ :: _,e,_,_=>by simp at e
 | _ :: _,[],e,_,_=>by simp at e
 | k :: ks,a :: as,e,c,h=>by
  rcases List.mem_cons.mp h with h | h
  ·subst h; exact ⟨a,by simp [Bsd]⟩
  ·obtain ⟨k',h'⟩:=Zi0 (by simpa using e) h
   exact ⟨k',by unfold Bsd; rw [List.zip_cons_cons]; exact List.mem_cons_of_mem _ h'⟩
theorem ZeT {R:List (List Int)→Addr→Prop}:∀ {vs:List Value},(∀ v∈vs,∃ k c,v=.ref c∧R k c)→∃ ks as,vs=as.map Value.ref∧Paired R ks as
 | [],_=>⟨[],[],rfl,.nil⟩
 | v :: vs,h=>by
  obtain ⟨k,c,rfl,r⟩:=h v List.mem_cons_self
  obtain ⟨ks,as,rfl,p⟩:=ZeT (vs:=vs) fun u hu=>h u (List.mem_cons_of_mem _ hu)
  exact ⟨k :: ks,c :: as,rfl,.cons r p⟩
theorem ZdF {R R':List (List Int)→Addr→Prop} (f:∀ k c,R k c→R' k c):∀ {ks:List (List (List Int))} {as:List Addr},Paired R ks as→Paired R' ks as
 | _,_,.nil=>.nil
 | _,_,.cons x q=>.cons (f _ _ x) (ZdF f q)
theorem Zdi {R:List (List Int)→Addr→Prop} {ks:List (List (List Int))} {as:List Addr} (p:Paired R ks as):∀ {l:List Nat},(∀ i∈l,i < as.length)→Paired R (l.map fun i=>ks.getD i []) (l.map fun i=>as.getD i 0)
 | [],_=>.nil
 | i :: l,h=>by
  have hi:=h i List.mem_cons_self
  have el:=ZaD p
  obtain ⟨a,h1,h2⟩:=Zcg p (i:=i) (k:=ks.getD i []) (by simp [show i < ks.length by omega])
  refine .cons ?_ (Zdi p fun j hj=>h j (List.mem_cons_of_mem _ hj))
  have:as.getD i 0=a:=by simp [h1]
  dsimp only
  rw [this]
  exact h2
section
variable {X:Cx}
theorem ld_var {E:Value→Shared→Prop} {pins:List (Addr×Obj)} {s:Shared} {σ:L2.St} {H:Hp} {i:Nat} {x:Str} {v:V} {pos:Pos} {Q:Value→Shared→Prop} (I:Inv X pins σ H s) (hN:X.N[i]?=some x) (hv:Vis X.env.scope x) (e:σ[i]?=some (some v)) (h:∀ u,RelV v u→Q u s)
  (hd:(x == ("__debug__" : Str))=false:=by decide) (hcd:(x == ("__classdict__" : Str))=false:=by decide):wpAny (model X.prog X.w) X.A (eval (.Name x pos) X.env) Q E s:=by
 obtain ⟨m,hn,hl⟩:=I.loc
 obtain ⟨u,r,l⟩:=hl i x v hN e hv
 have fin:=h u r
 rcases l with ⟨hk,hm⟩ | ⟨hk,c,hc,hcell⟩
 ·exact wpAny_Name (wpAny_loadName_local I.ok.kind hk hn hm fin) hd
 ·rcases hk with hk | hk
  ·exact wpAny_Name (wpAny_loadName_cell I.ok.kind hk hc hcell fin) hd
  ·exact wpAny_Name (wpAny_loadName_free I.ok.kind hk hc hcell fin hcd) hd
theorem Zgu {pins:List (Addr×Obj)} {s:Shared} {σ:L2.St} {H:Hp} {i:Nat} {x:Str} {a:Addr} {ep:Nat} {ks:List (List (List Int))} {as:List Addr} {vs:List V} {p q pos:Pos} {Q:Value→Shared→Prop} {E:Value→Shared→Prop}
  (hu:X.A.units + 64 < cLine) (hg:Gl X "set") (hm:X.mg "set" = none) (hN:X.N[i]?=some x) (hv:Vis X.env.scope x) (hd:(x == ("__debug__" : Str))=false) (hcd:(x == ("__classdict__" : Str))=false)
  (I:Inv X pins σ H s) (e:σ[i]?=some (some (.ref a))) (dc:DcAt H false a ep ks as vs) (l76:ks.length < 76)
  (h:∀ (h':Heap) (m:Nat),(∀ b o,s.heap.get? b=some o→h'.get? b=some o)→Tab.SetC X.prog X.w h' s.heap.objs.size m (!Tab.byT X.w,fun v=>∃ c∈as,v=.ref c) (fun l=>[l]∈ks)→m≤ks.length→Q (.ref s.heap.objs.size) { s with heap:=h' })
  (hs:starEach [.Name x q] X.env=[(false,eval (.Name x q) X.env)]:=by rfl) :
  wpAny (model X.prog X.w) X.A (eval (.Call (.Name "set" p) [.Name x q] [] pos) X.env) Q E s:=by
 refine wpAny_Call_Name_kw (Zbs I hg hm (by decide +kernel:bootBuiltins "set" = some (.type "set")) (PyProof.Rows.callWith_type1 ?_ hs rfl))
 rw [hs]
 show wpAny _ _ (spliced ((false,eval (.Name x q) X.env) :: backTo pos [])) _ _ s
 refine Calls.spliced_cons (ld_var I hN hv e (fun u r=>Calls.spliced_nil ?_) hd hcd)
 cases r
 obtain ⟨us,es,rd,el,l1,l2,l3,_,ns⟩:=Ze3 I.hok dc.h
 obtain ⟨o,go,co,dd⟩:=rd
 have ek:es.toList.map (·.key)=as.map Value.ref:=by rw [el]; exact ZcR l1 l2
 have kA:∀ {k c},Bsd ks as k c→∃ l,k=[l]∧IsTupleKey (intKind X.prog X.w) s.heap l c:=fun b=>by
  obtain ⟨l,e,z⟩:=(ZaX dc.k b:KeyAt H false _ _)
  exact ⟨l,e,Zdc I.hok z⟩
 refine Tab.call_setDct (by omega) go co.1 dd ns (fun e he=>?_) (by rw [l3]; exact l76) fun h' m kp sc hm=>?_
 ·have:e.key∈as.map Value.ref:=by rw [← ek]; exact List.mem_map_of_mem he
  obtain ⟨c,hc,e1⟩:=List.mem_map.mp this
  obtain ⟨k,hk⟩:=Zdx l1 hc
  obtain ⟨l,_,z⟩:=kA hk
  exact ⟨c,l,e1.symm,z⟩
 ·rw [l3] at hm
  refine h h' m kp ?_ hm
  obtain ⟨o2,es2,ep2,t2,q1,q2,q3,q4,q5,q8,q6,q7⟩:=sc.wk (V':=fun v=>∃ c∈as,v=.ref c) fun v ⟨e,he,z⟩=>by
   have:e.key∈as.map Value.ref:=by rw [← ek]; exact List.mem_map_of_mem he
   obtain ⟨c,hc,e1⟩:=List.mem_map.mp this
   exact ⟨c,hc,z.trans e1.symm⟩
  refine ⟨o2,es2,ep2,t2,q1,q2,q3,q4,q5,q8,q6,fun l=>?_⟩
  rw [← q7 l]
  constructor
  ·intro hl
   obtain ⟨c,hc⟩:=Zi0 l1 hl
   obtain ⟨l',e1,z⟩:=kA hc
   cases e1
   have:Value.ref c∈es.toList.map (·.key):=by rw [ek]; exact List.mem_map_of_mem (Znc hc)
   obtain ⟨e,he,e2⟩:=List.mem_map.mp this
   obtain ⟨j,hj,e3⟩:=List.mem_iff_getElem.mp he
   rw [Array.length_toList] at hj
   exact ⟨j,e,c,hj,by rw [Array.getElem?_eq_getElem hj,← e3,Array.getElem_toList],e2,z⟩
  ·rintro ⟨j,e,c,hj,e1,e2,z⟩
   have he:e∈es.toList:=Array.mem_toList_iff.mpr (Array.mem_of_getElem? e1)
   have:e.key∈as.map Value.ref:=by rw [← ek]; exact List.mem_map_of_mem he
   obtain ⟨c',hc,e4⟩:=List.mem_map.mp this
   rw [e2] at e4
   cases e4
   obtain ⟨k,hk⟩:=Zdx l1 hc
   obtain ⟨l',e5,z'⟩:=kA hk
   rw [Tab.key_uniq z z',← e5]
   exact Zef hk
def ZmY (i j:Nat):TE:=fun σ H Q=>∃ (a b:Addr) (ep1 ep2:Nat) (ks1 ks2:List (List (List Int))) (as1 as2:List Addr) (vs1 vs2:List V),σ[i]?=some (some (.ref a))∧σ[j]?=some (some (.ref b))∧DcAt H false a ep1 ks1 as1 vs1∧DcAt H false b ep2 ks2 as2 vs2∧ks1.length + ks2.length < 64 ∧
 (∃ n,1≤n∧∀ k,k∈ks1∨k∈ks2→∃ l,k=[l]∧l.length=n)∧∀ ks' as',(∀ k,k∈ks'↔k∈ks1∨k∈ks2)→Paired (fun k c=>Bsd ks1 as1 k c∨Bsd ks2 as2 k c) ks' as'→ks'.Pairwise Zb6→ks'.length < 64→∀ l,H l=none→Q (.ref l) (upd H l (.lst (as'.map V.ref)))
theorem Zjk {i j:Nat} {x y:Str} {p p1 p2 q1 q2 c1 c2 pb pos:Pos} (hc:X.calm=true) (hu:X.A.units + 64 < cLine) (hg1:Gl X "sorted") (hm1:X.mg "sorted" = none) (hg2:Gl X "set") (hm2:X.mg "set" = none)
  (hN:X.N[i]?=some x) (hv:Vis X.env.scope x) (hd:(x == ("__debug__" : Str))=false) (hcd:(x == ("__classdict__" : Str))=false)
  (hN':X.N[j]?=some y) (hv':Vis X.env.scope y) (hd':(y == ("__debug__" : Str))=false) (hcd':(y == ("__classdict__" : Str))=false)
  (hs1:starEach [.Name x q1] X.env=[(false,eval (.Name x q1) X.env)]:=by rfl) (hs2:starEach [.Name y q2] X.env=[(false,eval (.Name y q2) X.env)]:=by rfl)
  (hs:starEach [.BinOp (.Call (.Name "set" p1) [.Name x q1] [] c1) .BitOr (.Call (.Name "set" p2) [.Name y q2] [] c2) pb] X.env=[(false,eval (.BinOp (.Call (.Name "set" p1) [.Name x q1] [] c1) .BitOr (.Call (.Name "set" p2) [.Name y q2] [] c2) pb) X.env)]:=by rfl) :
  PE X (.Call (.Name "sorted" p) [.BinOp (.Call (.Name "set" p1) [.Name x q1] [] c1) .BitOr (.Call (.Name "set" p2) [.Name y q2] [] c2) pb] [] pos) (ZmY i j):=by
 intro pins s σ H Q I h
 obtain ⟨a,b,ep1,ep2,ks1,ks2,as1,as2,vs1,vs2,e1,e2,dc1,dc2,l64,⟨n,hn,hk⟩,h⟩:=h
 refine wpAny_Call_Name_kw (Zbs I hg1 hm1 (by decide +kernel:bootBuiltins "sorted" = some (.builtin "sorted")) (PyProof.Rows.callWith_builtin1 ?_ hs rfl))
 rw [hs]
 show wpAny _ _ (spliced ((false,eval (.BinOp (.Call (.Name "set" p1) [.Name x q1] [] c1) .BitOr (.Call (.Name "set" p2) [.Name y q2] [] c2) pb) X.env) :: backTo pos [])) _ _ s
 refine Calls.spliced_cons (wpAny_BinOp ?_)
 refine Zgu hu hg2 hm2 hN hv hd hcd I e1 dc1 (by omega) (fun h1 m1 kp1 sc1 lm1=>?_) hs1
 have I1:Inv X pins σ H { s with heap:=h1 }:=I.kept (t':=s.toks) kp1
 refine Zgu hu hg2 hm2 hN' hv' hd' hcd' I1 e2 dc2 (by omega) (fun h2 m2 kp2 sc2 lm2=>?_) hs2
 have I2:Inv X pins σ H { s with heap:=h2 }:=I1.kept (t':=s.toks) kp2
 obtain ⟨o1,_,_,_,g1,_⟩:=id sc1
 have ne:s.heap.objs.size≠h1.objs.size:=Nat.ne_of_lt (Heap.lt_size g1)
 refine Tab.orC (s:={ s with heap:=h2 }) (V:=fun v=>∃ c,(c∈as1∨c∈as2)∧v=.ref c) (by omega) ne ((sc1.keep kp2).wk fun v ⟨c,hc,z⟩=>⟨c,.inl hc,z⟩) (sc2.wk fun v ⟨c,hc,z⟩=>⟨c,.inr hc,z⟩) (by omega) fun h3 m3 kp3 sc3 lm3=>?_
 have I3:Inv X pins σ H { s with heap:=h3 }:=I2.kept (t':=s.toks) kp3
 refine Calls.spliced_nil ?_
 obtain ⟨o3,es3,ep3,t3,g3,ex3,d3,z3,ok3,hl3,ks3,cs3⟩:=sc3
 generalize ed:({ s with heap:=h2 }:Shared).heap.objs.size=S at g3
 have len1:=ZaD dc1.k
 have len2:=ZaD dc2.k
 have pm:=Tab.ord_perm (w:=X.w) S ep3 es3
 obtain ⟨ks',as',ev,pr⟩:=ZeT (R:=fun k c=>Bsd ks1 as1 k c∨Bsd ks2 as2 k c) (vs:=Tab.vls X.w S ep3 es3) fun v hv=>by
  obtain ⟨e,he,rfl⟩:=List.mem_map.mp hv
  obtain ⟨c,hc,z⟩:=hl3.2.2.2 e (pm.mem_iff.mp he)
  rcases hc with hc | hc
  ·obtain ⟨k,hk⟩:=Zdx len1 hc
   exact ⟨k,c,z,.inl hk⟩
  ·obtain ⟨k,hk⟩:=Zdx len2 hc
   exact ⟨k,c,z,.inr hk⟩
 have lv:(Tab.vls X.w S ep3 es3).length=m3:=by unfold Tab.vls; rw [List.length_map,pm.length_eq,Array.length_toList,z3]
 have la:as'.length=m3:=by rw [← lv,ev,List.length_map]
 have lk:ks'.length=m3:=by rw [← la]; exact (ZaD pr).symm
 have kin:∀ k,k∈ks'→k∈ks1∨k∈ks2:=fun k hk=>by
  obtain ⟨c,hc⟩:=Zi0 (ZaD pr) hk
  exact (ZaX pr hc).imp Zef Zef
 have pk:Paired (KeyAt H false) ks' as':=ZdF (fun k c hb=>hb.elim (ZaX dc1.k) (ZaX dc2.k)) pr
 have kall:∀ k,k∈ks'↔k∈ks1∨k∈ks2:=fun k=>⟨kin k,fun hk'=>by
  obtain ⟨l,rfl,_⟩:=hk k hk'
  obtain ⟨e,he,c,e1,z⟩:=(cs3 l).mp hk'
  have:Value.ref c∈as'.map Value.ref:=by
   rw [← ev,← e1]
   exact List.mem_map_of_mem (pm.mem_iff.mpr he)
  obtain ⟨c',hc',e2⟩:=List.mem_map.mp this
  cases e2
  obtain ⟨k,hk⟩:=Zdx (ZaD pr) hc'
  obtain ⟨l',e3,z'⟩:=(ZaX pk hk:KeyAt H false _ _)
  have z'':=Zdc I3.hok z'
  rw [Tab.key_uniq z z'',← e3]
  exact Zef hk⟩
 have rw0:Tab.RawS X.w h3 S es3 ep3 t3:=⟨o3,g3,ex3.1,d3,by rw [z3]; exact ok3,hl3.1,hl3.2.1,hl3.2.2.1⟩
 refine ZcG (b:=false) (ks:=ks') (as:=as') hu I3 ⟨by omega,by rw [if_neg (by simp)]; exact ⟨n,hn,fun k hk'=>hk k (kin k hk')⟩⟩ pk (fun E' Q' hq=>?_) fun pm2 pp pr2 pw l hl=>?_
 ·rw [← ev] at hq
  refine Tab.collect_set (s:={ s with heap:=h3 }) (show X.A.in1.in1.handled=none from I.ok.hd hc) rw0 (by rw [z3,sizeLine_eq]; omega) hq
 ·refine h _ _ (fun k=>?_) (Zdi pr (Zeh pp)) pw (by rw [List.length_map,Array.length_toList,pp.sz]; omega) l hl
  rw [pr2.mem_iff]
  exact kall k
def ZmN (n1 n2:Nat):UL:=fun ρ k=>∃ t1 ks1 ds1 t2 ks2 ds2,ρ[n1]?=some (.own (.d false t1 ks1 ds1))∧ρ[n2]?=some (.own (.d false t2 ks2 ds2))∧ks1.length + ks2.length < 64∧(∃ n,1≤n∧∀ k,k∈ks1∨k∈ks2→∃ l,k=[l]∧l.length=n) ∧
 ∀ ks',(∀ k,k∈ks'↔k∈ks1∨k∈ks2)→List.Pairwise Zb6 ks'→ks'.length < 64→k (ks'.map (keyD false))
theorem Zel {K:PySem.W.Frag} {B:Hp} {b:Bool}:∀ {ks:List (List (List Int))} {as:List Addr},Reps K B (as.map V.ref) (ks.map (keyD b))→∀ {k:List (List Int)} {c:Addr},Bsd ks as k c→Rep K B (.ref c) (keyD b k)
 | [],_,_,k,c,h=>by simp [Bsd] at h
 | _ :: _,[],_,k,c,h=>by simp [Bsd] at h
 | k0 :: ks,a :: as,r,k,c,h=>by
  rw [List.map_cons,List.map_cons] at r
  unfold Bsd at h
  rw [List.zip_cons_cons] at h
  cases r with
  | cons r1 r2 =>
   rcases List.mem_cons.mp h with h | h
   ·cases h; exact r1
   ·exact Zel r2 h
theorem ZhT {K:PySem.W.Frag} {B:Hp} {b:Bool} {R:List (List Int)→Addr→Prop} (f:∀ k c,R k c→Rep K B (.ref c) (keyD b k)):∀ {ks:List (List (List Int))} {as:List Addr},Paired R ks as→Reps K B (as.map V.ref) (ks.map (keyD b))
 | _,_,.nil=>.nil
 | _,_,.cons x q=>.cons (f _ _ x) (ZhT f q)
theorem Zkd (n1 n2:Nat) {x y:Str} {p p1 p2 q1 q2 c1 c2 pb pos:Pos} (hc:X.calm=true) (hu:X.A.units + 64 < cLine) (hg1:Gl X "sorted") (hm1:X.mg "sorted" = none) (hg2:Gl X "set") (hm2:X.mg "set" = none)
  (hN:X.N[n1]?=some x:=by rfl) (hN':X.N[n2]?=some y:=by rfl) (hv:Vis X.env.scope x:=by first | exact Or.inl rfl | exact Or.inr (Or.inl rfl) | exact Or.inr (Or.inr rfl)) (hv':Vis X.env.scope y:=by first | exact Or.inl rfl | exact Or.inr (Or.inl rfl) | exact Or.inr (Or.inr rfl))
  (hd:(x == ("__debug__" : Str))=false:=by decide) (hcd:(x == ("__classdict__" : Str))=false:=by decide) (hd':(y == ("__debug__" : Str))=false:=by decide) (hcd':(y == ("__classdict__" : Str))=false:=by decide)
  (hs1:starEach [.Name x q1] X.env=[(false,eval (.Name x q1) X.env)]:=by rfl) (hs2:starEach [.Name y q2] X.env=[(false,eval (.Name y q2) X.env)]:=by rfl)
  (hs:starEach [.BinOp (.Call (.Name "set" p1) [.Name x q1] [] c1) .BitOr (.Call (.Name "set" p2) [.Name y q2] [] c2) pb] X.env=[(false,eval (.BinOp (.Call (.Name "set" p1) [.Name x q1] [] c1) .BitOr (.Call (.Name "set" p2) [.Name y q2] [] c2) pb) X.env)]:=by rfl) :
  PO3 X (.Call (.Name "sorted" p) [.BinOp (.Call (.Name "set" p1) [.Name x q1] [] c1) .BitOr (.Call (.Name "set" p2) [.Name y q2] [] c2) pb] [] pos) (ZmN n1 n2):=by
 refine ⟨_,Zjk hc hu hg1 hm1 hg2 hm2 hN hv hd hcd hN' hv' hd' hcd' hs1 hs2 hs,fun ρ k h R W B H σ Q ev q=>?_⟩
 obtain ⟨t1,ks1,ds1,t2,ks2,ds2,h1,h2,l64,hk,h⟩:=h
 obtain ⟨a,a1,a2,a3,ep,as,vs,_,a4,a5,a6,a7⟩:=ev.ownC h1
 obtain ⟨b,b1,b2,b3,ep',as',vs',_,b4,b5,b6,b7⟩:=ev.ownC h2
 refine ⟨a,b,ep,ep',ks1,ks2,as,as',vs,vs',a1,b1,⟨a4,Za3 ev.bh a6 a5⟩,⟨b4,Za3 ev.bh b6 b5⟩,l64,hk,fun ks3 as3 m3 pr pw l3 l hl=>?_⟩
 have rp:=ZhT (fun k c hb=>hb.elim (Zel a5) (Zel b5)) pr
 obtain ⟨f1,f2,f3,f4,f5⟩:=ev.newO hl rp
 exact q _ l _ B _ (h _ m3 pw l3) f1 (Grow.refl _ _) f2 f3 f4 rp f5
end
end L3
namespace Tab
open PySem PyProof.Rows L2 L3
theorem ZdU:mroOf (.type "dict")=pure [.type "dict", .type "object"]:=by rw [mroOf_type]; kernel_rfl
theorem Zda:typeLookup (.type "dict") "__new__" = pure (some (.builtin "dict.__new__")):=by rw [typeLookup_type,builtinLookup_eq_fast]; kernel_rfl
theorem called_dict:TypeCalled "dict" "dict.__new__" "dict.__init__" :=
 ⟨by decide +kernel,by decide +kernel,⟨_,_,ZdU⟩,madeBy_type ZdU Zda (by decide +kernel),by decide +kernel,by rw [isSubtype_type]; kernel_rfl,F.slot_dict_init⟩
theorem ZcK (a:Value):checkTypeCall "dict" ⟨[a],[]⟩=pure ():=by kernel_rfl
theorem Zdp (a:Value):checkBuiltinCall "dict.__new__" ⟨[.type "dict", a],[]⟩=pure ():=by kernel_rfl
theorem Zdu:entryFor table "dict.__new__" = some Builtin.«dict.__new__» := entryFor_of_tree (by kernel_rfl)
theorem Zbz:plainId "dict.__new__" = true:=by decide +kernel
theorem Zbq:entryFor table "dict.update.loop" = some Builtin.«dict.update.loop» := entryFor_of_tree (by kernel_rfl)
theorem ZaM:plainId "dict.update.loop" = true:=by decide +kernel
theorem Znp:typeLookup (.type "list") "keys" = pure none:=by rw [typeLookup_type,builtinLookup_eq_fast]; kernel_rfl
section
variable {prog:Program} {w:World} {A:Around} {E:Value→Shared→Prop} {s:Shared}
theorem Zjh {a:Addr} {o:Obj} {xs:Array Value} {k:Nat} {Q:Option Value→Shared→Prop} (hx:s.heap.get? a=some o) (hc:o.cls=.type "list") (hdat:o.data=.seq xs k) (hd:o.dict=none) (hA:A.handled=none)
  (h:∀ h' tk,(∀ b o,s.heap.get? b=some o→h'.get? b=some o)→Q none { s with heap:=h',toks:=tk }):wpAny (model prog w) A (getAttr? (.ref a) "keys") Q E s:=by
 obtain ⟨c,dct,dat,sl⟩:=o
 simp only at hc hdat hd
 subst hc hdat hd
 obtain ⟨hp,g,d,tk,os⟩:=s
 have hT:∀ tk',(⟨hp,g,d,tk',os⟩:Shared).TypeIs (.ref a) "list" := fun _=>⟨_,hx,rfl⟩
 have f1:=sub_AttributeError
 have f3:=F.slot_list_getattribute.lookup
 have f4:=F.slot_list_getattribute.bind (.ref a)
 have f5:=am_list_getattr_none
 unfold getAttr? getAttrBy? getAttrBy
 repeat (any_goals (first | assumption | exact hT _ | ((with_reducible show wpAny _ _ (call (Value.builtin "list.__getattribute__") _ _) _ _ _); refine call_meets F.slot_list_getattribute (hT _) am_entry_list_getattribute (F.args_list_getattribute_2 _ _) (meets_getattribute_miss_list a xs k sl "keys" _ Znp (by decide) (by size_fits)) ⟨hx,hA,fun h' tk' e hx'=>?_⟩) | wp_step))
 obtain ⟨t',u',he⟩:=hx'.there
 show wpAny _ _ (getattributeRaised _ _ _ _ _ _ _) _ _ _
 unfold getattributeRaised
 repeat (any_goals (first | assumption | wp_step))
 exact h _ _ hx'.keeps
def PrAt (h:Heap) (t c:Addr) (u:Value):Prop:=∃ o its n,h.get? t=some o∧o.cls=.type "tuple" ∧ o.data=.seq its n∧its.toList=[.ref c,u]
theorem PrAt.mono {h h':Heap} {t c:Addr} {u:Value} (x:PrAt h t c u) (k:∀ b o,h.get? b=some o→h'.get? b=some o):PrAt h' t c u:=by
 obtain ⟨o,its,n,a,b⟩:=x
 exact ⟨o,its,n,k _ _ a,b⟩
theorem Zii {h h':Heap} {k:List (List Int)} {c:Addr} (x:(kd prog w false).is h k c) (kp:∀ b o,h.get? b=some o→h'.get? b=some o):(kd prog w false).is h' k c:=by
 obtain ⟨l,e,q⟩:=x
 exact ⟨l,e,Zbg q kp⟩
theorem Zj4 {h0:Heap} {D I l:Addr} {items:Array Value} {ks:List (List (List Int))} {as:List Addr} {us:List Value} {R:Result→Shared→Prop} (z1:h0.objs.size≤D) (z2:h0.objs.size≤I) (n3:D≠I) (hh:A.handled=none) (hu:A.units + 4 < cLine)
  (l1:as.length=ks.length) (l2:us.length=ks.length) (l3:items.size=ks.length) (l64:ks.length≤64) (nd:ks.Nodup)
  (hl:h0.IsList l items) (hp:∀ i,i < ks.length→∃ t,items[i]?=some (.ref t)∧PrAt h0 t (as.getD i 0) (us.getD i .none)) (hk:∀ i,i < ks.length→(kd prog w false).is h0 (ks.getD i []) (as.getD i 0)) :
  ∀ (k i:Nat) (j:Int) (u:Tok) (s:Shared),ks.length - i=k→i≤ks.length→s.heap.IsListIter I l i→(∀ b o,h0.get? b=some o→s.heap.get? b=some o)→s.heap.DictOfH (kd prog w false) D (ent3 (ks.take i) (as.take i) (us.take i)) →
   (∀ h' tk,(∀ b o,b≠D→b≠I→s.heap.get? b=some o→h'.get? b=some o)→h'.DictOfH (kd prog w false) D (ent3 ks as us)→R (.ok (.ret .none)) { s with heap:=h',toks:=tk }) →
   codeAny (model prog w) A (.builtin "dict.update.loop" ⟨[.ref D,.ref I,.int j u,.none],[]⟩) R s:=by
 intro k
 induction k with
 | zero =>
  intro i j u s ek hi hit kp dc hR
  have e:i=ks.length:=by omega
  subst e
  rw [List.take_of_length_le (Nat.le_refl _),List.take_of_length_le (by omega),List.take_of_length_le (by omega)] at dc
  refine codeAny_builtin Zbq ?_
  simp only [Around.under_plainId ZaM]
  show wpAny _ A.in1 (pyNext (.ref I) >>= _) _ _ _
  refine wpAny_bind (wpAny_pyNext_list_end hh hit (hl.at fun o e=>kp l o e) (Array.getElem?_eq_none_iff.mpr (by omega)) fun h' he=>?_)
  show wpAny _ A.in1 (Builtin.Dict.addKeywords D [] >>= fun _=>ret Value.none) _ _ _
  unfold Builtin.Dict.addKeywords
  refine wpAny_bind (wpAny_of_eq (a:=PUnit.unit) rfl (wpAny_pure (hR h' s.toks (fun b o _ b2 e=>he b o b2 e) ?_)))
  obtain ⟨o,es,ep,q1,q2,q3,q4,q5,q6⟩:=dc
  refine ⟨o,es,ep,he _ _ n3 q1,q2,q3,q4,fun x hx=>?_,q6⟩
  obtain ⟨lx,e1,ob,its,n,g1,g2,g3,g4⟩:=q5 x hx
  refine ⟨lx,e1,ob,its,n,he _ _ (fun e=>?_) g1,g2,g3,g4⟩
  obtain ⟨oi,i1,i2,i3⟩:=hit
  rw [e,i1] at g1
  cases g1
  rw [i2] at g2
  exact absurd g2 (by decide)
 | succ k ih =>
  intro i j u s ek hi hit kp dc hR
  have lt:i < ks.length:=by omega
  obtain ⟨t,et,pt⟩:=hp i lt
  have hki:=hk i lt
  refine codeAny_builtin Zbq ?_
  simp only [Around.under_plainId ZaM]
  show wpAny _ A.in1 (pyNext (.ref I) >>= _) _ _ _
  refine wpAny_bind (wpAny_pyNext_list_item hit (hl.at fun o e=>kp l o e) (x:=.ref t) et fun h1 hit1 sb1=>?_)
  have kp1:∀ b o,h0.get? b=some o→h1.get? b=some o:=fun b o e=>(sb1.2 b (Nat.ne_of_lt (Nat.lt_of_lt_of_le (Heap.lt_size e) z2))).trans (kp b o e)
  obtain ⟨o,its,n,g1,g2,g3,g4⟩:=pt.mono kp1
  show wpAny _ A.in1 (holding [Value.ref t] _ >>= _) _ _ _
  refine wpAny_bind (wpAny_holding ?_)
  refine wpAny_bind (wpAny_tryCatch ?_)
  unfold Builtin.Dict.pairItems
  refine wpAny_bind (wpAny_typeOf ⟨o,g1,g2⟩ ?_)
  rw [if_pos (by decide)]
  refine wpAny_bind (Zb9 g1 g3 (wpAny_pure ?_))
  rw [Option.getD_some,g4]
  dsimp only
  refine wpAny_holding ?_
  have dc1:h1.DictOfH (kd prog w false) D (ent3 (ks.take i) (as.take i) (us.take i)):=by
   obtain ⟨o,es,ep,q1,q2,q3,q4,q5,q6⟩:=dc
   refine ⟨o,es,ep,(sb1.2 D n3).trans q1,q2,q3,q4,fun x hx=>?_,q6⟩
   obtain ⟨lx,e1,ob,its,n,g1,g2,g3,g4⟩:=q5 x hx
   refine ⟨lx,e1,ob,its,n,(sb1.2 _ (fun e=>?_)).trans g1,g2,g3,g4⟩
   obtain ⟨oi,i1,i2,i3⟩:=hit
   rw [e,i1] at g1
   cases g1
   rw [i2] at g2
   exact absurd g2 (by decide)
  have kl:(ks.take i).length=i:=by rw [List.length_take]; omega
  have al:(as.take i).length=(ks.take i).length:=by rw [List.length_take,kl]; omega
  have ul:(us.take i).length=(ks.take i).length:=by rw [List.length_take,kl]; omega
  refine wpAny_dictSet_heap (ZdY (A:=A) hu) (Zii hki kp1) dc1 (fun h2 d2 sb2=>?_) ?_
  rotate_left
  ·have:=congrArg List.length (ZcA (ks:=ks.take i) (as:=as.take i) (us:=us.take i) al ul)
   rw [List.length_map,kl] at this
   rw [this,sizeLine_eq]; omega
  rw [ZdE _ _ _ al ul] at d2
  have nin:ks.getD i [] ∉ ks.take i:=fun m=>by
   obtain ⟨q,hq,e⟩:=List.mem_iff_getElem.mp m
   rw [List.length_take] at hq
   rw [List.getElem_take] at e
   have e2:ks[q]=ks[i]:=by rw [e]; simp [lt]
   have:=(List.pairwise_iff_getElem.mp nd) q i (by omega) lt (by omega)
   exact this e2
  have tk1:ks.take (i + 1)=ks.take i ++ [ks.getD i []]:=by rw [List.take_succ]; simp [lt]
  have tk2:as.take (i + 1)=as.take i ++ [as.getD i 0]:=by rw [List.take_succ]; simp [show i < as.length by omega]
  have tk3:us.take (i + 1)=us.take i ++ [us.getD i .none]:=by rw [List.take_succ]; simp [show i < us.length by omega]
  unfold ptK ptA at d2
  rw [if_neg nin,if_neg nin,if_neg nin,← tk1,← tk2,← tk3] at d2
  refine wpAny_pure ⟨plainId_quiet ZaM _,ih (i + 1) _ _ _ (by omega) lt (hit1.at fun o e=>(sb2.2 I (Ne.symm n3)).trans e) (fun b o e=>(sb2.2 b (Nat.ne_of_lt (Nat.lt_of_lt_of_le (Heap.lt_size e) z1))).trans (kp1 b o e)) d2 fun h3 tk up d3=>?_⟩
  exact hR h3 tk (fun b o b1 b2 e=>up b o b1 b2 ((sb2.2 b b1).trans ((sb1.2 b b2).trans e))) d3
end
section
variable {prog:Program} {w:World} {A:Around} {E:Value→Shared→Prop} {s:Shared}
abbrev ZbX:Obj:={ cls:=.type "dict", dict:=none,data:=.dict #[] 0 }
theorem Zg6 (a:Value) {Q₁:Value→Shared→Prop} (h:Q₁ (.ref s.heap.objs.size) { s with heap:=s.heap.push ZbX }):codeAny (model prog w) A (.call (.builtin "dict.__new__") ⟨[.type "dict", a],[]⟩) (wants Q₁ E) s:=by
 refine codeAny_of_tree (show wpAny _ A.in1 (do checkBuiltinCall "dict.__new__" ⟨[.type "dict", a],[]⟩; again (.builtin "dict.__new__" ⟨[.type "dict", a],[]⟩)) _ _ s from ?_)
 refine wpAny_bind (wpAny_of_eq (Zdp a) (wpAny_pure ⟨plainId_quiet Zbz _,?_⟩))
 refine codeAny_builtin Zdu ?_
 rw [Around.under_plainId Zbz _]; unfold Builtin.«dict.__new__»; have sub0:=isSubtype_dict_dict; have m0:=ZdU
 obtain ⟨hp,g,d,tk,os⟩:=s; dsimp only; wp_walk
 exact h
theorem call_dictL {l:Addr} {items:Array Value} {ks:List (List (List Int))} {as:List Addr} {us:List Value} {Q:Value→Shared→Prop} (hh:A.handled=none) (hu:A.units + 16 < cLine)
  (l1:as.length=ks.length) (l2:us.length=ks.length) (l3:items.size=ks.length) (l64:ks.length≤64) (nd:ks.Nodup)
  {o:Obj} {xn:Nat} (gl:s.heap.get? l=some o) (cl:o.cls=.type "list") (dl:o.data=.seq items xn) (ddl:o.dict=none) (hp:∀ i,i < ks.length→∃ t,items[i]?=some (.ref t)∧PrAt s.heap t (as.getD i 0) (us.getD i .none)) (hk:∀ i,i < ks.length→(kd prog w false).is s.heap (ks.getD i []) (as.getD i 0))
  (h:∀ (h':Heap) (tk:Nat),(∀ b o,s.heap.get? b=some o→h'.get? b=some o)→h'.DictOfH (kd prog w false) s.heap.objs.size (ent3 ks as us)→Q (.ref s.heap.objs.size) { s with heap:=h',toks:=tk }) :
  wpAny (model prog w) A (call (.type "dict") [.ref l]) Q E s:=by
 obtain ⟨c,tl,mr⟩:=called_dict.mro
 have md:=called_dict.made; have sb:=called_dict.sub; have c1:=called_dict.notType; have c2:=called_dict.canCreate; have c3:=ZcK (.ref l)
 refine wpAny_call (codeAny_of_tree (show wpAny _ _ (callAny (.type "dict") _) _ _ _ from wpAny_pure ⟨Code.quiet_builtin _ (by decide +kernel),codeAny_builtin F.entry_type_call ?_⟩))
 rw [Around.under_plain (weight_type_call_type "dict" [.ref l] []) rfl]
 repeat (any_goals (first | assumption | wp_step))
 refine codeAny_mono (Zg6 (.ref l) (E:=E) (Q₁:=fun v z=>v=.ref s.heap.objs.size∧z={ s with heap:=s.heap.push ZbX }) ⟨rfl,rfl⟩) fun r z hr=>?_
 cases r with
 | error e=>exact hr
 | ok fl =>
  cases fl with
  | ret v =>
   obtain ⟨rfl,rfl⟩:=hr
   have gS:(s.heap.push ZbX).get? s.heap.objs.size=some ZbX:=Heap.get?_push_size _ rfl
   have tS:Shared.TypeIs { s with heap:=s.heap.push ZbX } (.ref s.heap.objs.size) "dict" := ⟨_,gS,rfl⟩
   have d1:=called_dict.init.lookup; have d2:=called_dict.init.bind (.ref s.heap.objs.size)
   repeat (any_goals (first | assumption | wp_step))
   refine codeAny_mono (codeAny_call_builtin (R:=wants (fun v z=>v=.none∧∃ h' tk,z={ s with heap:=h',toks:=tk }∧(∀ b o,s.heap.get? b=some o→h'.get? b=some o)∧h'.DictOfH (kd prog w false) s.heap.objs.size (ent3 ks as us)) E) called_dict.init.plain F.entry_dict_init (F.slot_dict_init.check _ _ _ _ _ _ _ _ tS (F.args_dict_init_2 _ _) ?_)) fun r2 z2 hr2=>?_
   ·have kp:∀ b o,s.heap.get? b=some o→(s.heap.push ZbX).get? b=some o:=fun b o e=>Heap.get?_push_of_some _ e
    have gl1:=kp l o gl
    have tl:Shared.TypeIs { s with heap:=s.heap.push ZbX } (.ref l) "list" := ⟨_,gl1,cl⟩
    unfold Builtin.«dict.__init__» Builtin.Dict.selfAndRest Builtin.Dict.updateCommon Builtin.Dict.updateFrom
    refine wpAny_bind (wpAny_bind (wpAny_notOrdered_dict (s:={ s with heap:=s.heap.push ZbX }) tS ?_))
    dsimp only [List.cons_append,List.nil_append]
    refine wpAny_bind (wpAny_pure (wpAny_pure ?_))
    dsimp only
    refine wpAny_bind (wpAny_typeOf tl ?_)
    rw [if_pos (by decide)]
    refine wpAny_bind (Zjh (s:={ s with heap:=s.heap.push ZbX }) gl1 cl dl ddl (by simp [hh]) fun h1 tk1 kp1=>?_)
    simp only [Option.isNone_none,if_true]
    have gl2:=kp1 l o gl1
    refine wpAny_bind (wpAny_rule (wpAny_bind (wpAny_pyIter_list (items:=items) ⟨_,gl2,cl,xn,dl⟩ ?_)))
    have zS:s.heap.objs.size < h1.objs.size:=Heap.lt_size (kp1 _ _ gS)
    refine wpAny_pure ⟨plainId_quiet ZaM _,Zj4 (h0:=s.heap) (l:=l) (items:=items) (Nat.le_refl _) (Nat.le_of_lt zS) (Nat.ne_of_lt zS) (by simp [hh]) (by show A.units + 1 + 4 < _; omega) l1 l2 l3 l64 nd ⟨_,gl,cl,xn,dl⟩ hp hk (ks.length - 0) 0 0 _ _ rfl (Nat.zero_le _) ⟨_,Heap.get?_push_size _ rfl,rfl,rfl⟩ (fun b o e=>Heap.get?_push_of_some _ (kp1 _ _ (kp b o e))) ?_ fun h2 tk2 up dc=>?_⟩
    ·refine ⟨_,#[],0,Heap.get?_push_of_some _ (kp1 _ _ gS),⟨rfl,rfl,rfl⟩,rfl,?_,fun x hx=>?_,?_⟩
     ·simp [ent3]
     ·simp [ent3] at hx
     ·simp [ent3]
    ·refine ⟨rfl,h2,tk2,rfl,fun b o e=>?_,dc⟩
     have bl:=Heap.lt_size e
     exact up b o (Nat.ne_of_lt bl) (Nat.ne_of_lt (Nat.lt_trans bl zS)) (Heap.get?_push_of_some _ (kp1 _ _ (kp b o e)))
   ·cases r2 with
    | error e=>exact hr2
    | ok fl2 =>
     cases fl2 with
     | ret r =>
      obtain ⟨rfl,h',tk,rfl,kp,dc⟩:=hr2
      repeat (any_goals (first | assumption | wp_step))
      exact h _ _ kp dc
     | next=>exact hr2.elim
     | brk=>exact hr2.elim
     | cont=>exact hr2.elim
  | next=>exact hr.elim
  | brk=>exact hr.elim
  | cont=>exact hr.elim
end
end Tab
namespace L3
open PySem PySem.Spec PyProof.Rows PySem.W L2
section
variable {X:Cx}
abbrev Prd (H:Hp) (p:Addr×V) (t:Addr):Prop:=H t=some (.tup [.ref p.1,p.2])
theorem ZhR {pins:List (Addr×Obj)} {s:Shared} {σ:L2.St} {H:Hp} (I:Inv X pins σ H s):∀ {as:List Addr} {vs:List V} {ts:List Addr},as.length=ts.length→vs.length=ts.length→Paired (Prd H) (as.zip vs) ts →
  ∃ us,Vals vs us∧∀ i,i < ts.length→Tab.PrAt s.heap (ts.getD i 0) (as.getD i 0) (us.getD i .none)
 | [],[],[],_,_,_=>⟨[],.nil,fun i h=>absurd h (Nat.not_lt_zero _)⟩
 | [],[],_ :: _,h,_,_=>by simp at h
 | [],_ :: _,ts,h1,h2,_=>by simp at h1 h2; omega
 | _ :: _,[],ts,h1,h2,_=>by simp at h1 h2; omega
 | _ :: _,_ :: _,[],h,_,_=>by simp at h
 | a :: as,v :: vs,t :: ts,h1,h2,p=>by
  rw [List.zip_cons_cons] at p
  cases p with
  | cons x q =>
   obtain ⟨us,r,g⟩:=ZhR I (by simpa using h1) (by simpa using h2) q
   obtain ⟨its,rv,⟨o,go,co,n,dd⟩,_⟩:=I.tuple (SqT.of x)
   cases rv with
   | cons ra rb =>
    cases rb with
    | cons rc rd =>
     cases rd
     have ra:_=Value.ref a:=ra
     subst ra
     refine ⟨_ :: us,.cons rc r,fun i hi=>?_⟩
     cases i with
     | zero=>exact ⟨o,_,n,go,co,dd,by simp⟩
     | succ i=>simpa using g i (by simpa using hi)
def rDctL:List V→Hp→VK→Prop:=fun xs H Q=>∃ (a:Addr) (ts as:List Addr) (ks:List (List (List Int))) (vs:List V),xs=[.ref a]∧SqL X.K H a (ts.map V.ref)∧as.length=ts.length∧vs.length=ts.length∧Paired (Prd H) (as.zip vs) ts∧Paired (KeyAt H false) ks as∧ks.Nodup∧ks.length≤64 ∧
 ∀ l ep,H l=none→Q (.ref l) (upd H l (DicO false l ep ks as vs))
theorem Zjq (hc:X.calm=true) (hu:X.A.units + 64 < cLine):ZeK X (.type "dict") (rDctL (X:=X)):=by
 intro pins s σ H xs us Q I r h
 obtain ⟨a,ts,as,ks,vs,rfl,ha,l1,l2,pr,kk,nd,l64,q⟩:=h
 obtain ⟨u,rfl,rx⟩:=ZeQ r
 cases rx
 obtain ⟨its,rv,⟨ol,nl,gl,cl,ddl,dl⟩,_⟩:=I.list ha
 have e:=Zdg rv
 subst e
 have lk:=ZaD kk
 obtain ⟨us,ru,gu⟩:=ZhR I l1 l2 pr
 have lu:=ru.length
 refine Tab.call_dictL (ks:=ks) (as:=as) (us:=us) (I.ok.hd hc) (by omega) lk (by omega) (by simp; omega) l64 nd gl cl dl ddl (fun i hi=>?_) (fun i hi=>?_) fun h' tk kp dc=>?_
 ·have hi':i < ts.length:=by omega
  refine ⟨ts.getD i 0,by simp [hi'],gu i hi'⟩
 ·obtain ⟨c,h1,h2⟩:=Zcg kk (i:=i) (k:=ks.getD i []) (by simp [hi])
  have:as.getD i 0=c:=by simp [h1]
  rw [this]
  exact h2.is I.hok
 ·have big:sysModules < s.heap.objs.size:=Nat.lt_trans (by decide) ((I.mod.glob.keeps I.bk).lt:mainGlobals < s.heap.objs.size)
  obtain ⟨o,es,ep,o1,o2,o3,o4,o5,o6⟩:=dc
  refine ⟨.ref s.heap.objs.size,_,I.laid (a:=s.heap.objs.size) (o:=DicO false s.heap.objs.size ep ks as vs) (t':=tk) kp (Nat.le_refl _) ?_,rfl,q _ ep (I.hok.fresh (Nat.le_refl _))⟩
  refine ⟨⟨by rw [sizeLine_eq]; omega,lk,by omega,beq_eq_false_iff_ne.mpr (Ne.symm (Nat.ne_of_lt big)),us,ru,o,es,o1,o2,o3,by rw [o4,ZdQ (P:=X.prog) (w:=X.w)],nd⟩,⟨_,o1⟩,?_⟩
  rintro g1 g2 ⟨z1,z2,z3,z4,us',z5,ob',es',z6,z7⟩ hk
  exact ⟨z1,z2,z3,z4,us',z5,ob',es',hk _ z6,z7⟩
theorem Zgj {K:PySem.W.Frag} {B H:Hp} (sm:Same B H):∀ {L:List (List (List Int)×D)} {vs:List V},Reps K B vs (L.map fun p=>.tup [keyD false p.1,p.2]) →
  ∃ (ts as:List Addr) (ws:List V),vs=ts.map V.ref∧as.length=ts.length∧ws.length=ts.length∧Paired (Prd H) (as.zip ws) ts∧Reps K B (as.map V.ref) ((L.map (·.1)).map (keyD false))∧Reps K B ws (L.map (·.2))
 | [],_,r=>by rw [List.map_nil] at r; cases r; exact ⟨[],[],[],rfl,rfl,rfl,.nil,.nil,.nil⟩
 | p :: L,_,r=>by
  rw [List.map_cons] at r
  cases r with
  | cons h t =>
   obtain ⟨ts,as,ws,rfl,l1,l2,q1,q2,q3⟩:=Zgj sm t
   obtain ⟨b,us,rfl,hb,rs⟩:=h.tupV
   cases rs with
   | cons r1 r2 =>
    cases r2 with
    | cons r3 r4 =>
     cases r4
     obtain ⟨c,rfl⟩:=Zc9 r1
     exact ⟨b :: ts,c :: as,_ :: ws,rfl,by simp [l1],by simp [l2],.cons (sm _ _ hb) q1,.cons r1 q2,.cons r3 q3⟩
def uDlst (i:Nat) (u:UE):US:=fun U ρ=>u ρ fun d=>∃ L:List (List (List Int)×D),d=.lst (L.map fun p=>.tup [keyD false p.1,p.2])∧(∀ p∈L,∃ l,p.1=[l])∧(L.map (·.1)).Nodup∧L.length≤64∧U.nx (ρ.set i (.own (.d false none (L.map (·.1)) (L.map (·.2)))))
theorem Zlf {i:Nat} {x:Str} {e:Expr} {u:UE} {p pc pos pos':Pos} (hc:X.calm=true) (hu:X.A.units + 64 < cLine) (he:PE3 X e u) (hg:Gl X "dict") (hm:X.mg "dict" = none) (hN:X.N.Nodup) (hi:X.N[i]?=some x) (hx:Loc X.env.scope x)
  (hs:swapsWith (.Call (.Name "dict" p) [e] [] pc) (some (.Name x pos')) pos.line X.env=pure false:=by rfl) (hf:X.fn x=true∨X.env.scope.names.lookup x=some .local:=by first | exact .inl rfl | exact .inr rfl | assumption)
  (hse:starEach [e] X.env=(false,eval e X.env) :: starEach [] X.env:=by rfl) :
  PS3 X (.Assign [.Name x pos'] (.Call (.Name "dict" p) [e] [] pc) pos) (uDlst i u):=by
 obtain ⟨_,h1,r1⟩:=he
 refine ⟨_,ZdD hN hi hx (ZhN (Zjq hc hu) hg hm (by decide +kernel) (Zau h1 ZaR hse) (by decide) (by decide) hse rfl) hs hf,fun U ρ h R W B H σ D ev sm=>?_⟩
 refine r1 ρ _ h R W B H σ _ ev fun d v B1 H1 z1 e1 g1 s1=>?_
 obtain ⟨L,rfl,hk,nd,l64,z⟩:=z1
 obtain ⟨a,vs,rfl,ha,rs⟩:=s1.lstV
 obtain ⟨ts,as,ws,rfl,l1,l2,q1,q2,q3⟩:=Zgj e1.bh rs
 have one:false=false→∀ k∈L.map (·.1),∃ l,k=[l]:=fun _ k m=>by
  obtain ⟨p,hp,rfl⟩:=List.mem_map.mp m
  exact hk p hp
 refine ⟨a,ts,as,L.map (·.1),ws,rfl,SqL.of (e1.bh _ _ ha),l1,l2,q1,Za3 e1.bh one q2,nd,by rw [List.length_map]; exact l64,fun l ep hl=>?_⟩
 obtain ⟨f1,f2,f3⟩:=e1.toWd.fresh hl
 exact sm.nx _ _ B1 _ z ((e1.allocH hl _).setC i f1 f3 ⟨ep,as,ws,(fun _ z=>nomatch z),Zal,q2,one,q3⟩ fun j _ m=>e1.notNew hl m rfl) g1
end
end L3
namespace L3
open PySem PySem.Spec PyProof.Rows L2
section
open PySem.W
variable {X:Cx}
end
end L3
namespace Cut
open PySem L2 L3
open PySem.Builtin.Int (intBits)
def ZdA (S:F2→Int) (n:Int) (S':F2→Int) (m:Int):Option F2→Prop
 | none=>∀ d,nrat (S d) n=nrat (S' d) m
 | some d=>nrat (S d) n≠nrat (S' d) m∧∀ d',nrat (S d') n≠nrat (S' d') m→lexI [d'.1,d'.2] [d.1,d.2]=false
def arN (rs:RR) (n:Int):F2:=nrat (rs.map tw).sum (2 * n * n)
def fbD (rs qs:RR) (n m:Int) (t:Bool) (r:Option F2):D :=
 if arN rs n=arN qs m then (if t=true then .non else match r with
  | none=>.non
  | some d=>.tup [.str (Str.ofString "mark"),dR d,dR (nrat (smR rs d) n),dR (nrat (smR qs d) m)]) else .tup [.str (Str.ofString "area"),dR (arN rs n),dR (arN qs m)]
def FbR (rs qs:RR) (n m:Int) (t:Bool) (r:Option F2):Prop:=arN rs n=arN qs m→t=false→ZdA (smR rs) n (smR qs) m r
theorem ZkZ {F:F2→F2} (d:F2):∀ {L:List (F2×F2)},(∀ x∈L,x.2=F x.1)→lkA (L.map fun x=>kD x.1) (L.map fun x=>dR x.2) (kD d)=if d∈L.map (·.1) then some (dR (F d)) else none
 | [],_=>by simp [lkA]
 | x :: L,h=>by
  have ih:=ZkZ d (L:=L) fun y hy=>h y (List.mem_cons_of_mem _ hy)
  rw [List.map_cons,List.map_cons,List.map_cons,lkA]
  by_cases z:x.1=d
  ·rw [if_pos (by rw [z]),if_pos (by rw [z]; exact List.mem_cons_self),h x List.mem_cons_self,z]
  ·rw [if_neg (fun q=>z (Zcq q)),ih]
   by_cases y:d∈L.map (·.1)
   ·rw [if_pos y,if_pos (List.mem_cons_of_mem _ y)]
   ·rw [if_neg y,if_neg]
    intro q
    rcases List.mem_cons.mp q with q | q
    ·exact z q.symm
    ·exact y q
theorem Zfk {S:F2→Int} {n:Int} {L:List (F2×F2)} (mk:MkOk S n L) (d:F2):d∈L.map (·.1)↔S d≠0:=by
 constructor
 ·intro h
  obtain ⟨x,hx,rfl⟩:=List.mem_map.mp h
  exact ((mk.mem x.1 x.2).mp hx).1
 ·intro h
  exact List.mem_map.mpr ⟨(d,nrat (S d) n),(mk.mem _ _).mpr ⟨h,rfl⟩,rfl⟩
theorem Zek {S:F2→Int} {n:Int} {L:List (F2×F2)} (hn:0 < n) (mk:MkOk S n L) (d:F2):(lkA (L.map fun x=>kD x.1) (L.map fun x=>dR x.2) (kD d)).getD (.tup [.int 0,.int 1])=dR (nrat (S d) n):=by
 rw [ZkZ (F:=fun d=>nrat (S d) n) d fun x hx=>((mk.mem x.1 x.2).mp hx).2]
 by_cases z:d∈L.map (·.1)
 ·rw [if_pos z]; rfl
 ·rw [if_neg z]
  have:S d=0:=Decidable.byContradiction fun q=>z ((Zfk mk d).mpr q)
  rw [this,Za4 hn]; rfl
theorem ZfU {S:F2→Int} {n:Int} {L:List (F2×F2)} (mk:MkOk S n L):(L.map fun x=>kD x.1).Nodup:=by
 refine List.pairwise_map.mpr (mk.pw.imp fun {a b} h e=>?_)
 have:=Zcq e
 rw [this,ZaH] at h
 cases h
theorem Ziv {L L':List (F2×F2)} {ks:List (List (List Int))} (h:∀ k,k∈ks↔k∈L.map (fun x=>kD x.1)∨k∈L'.map (fun x=>kD x.1)):∃ ds:List F2,ks=ds.map kD∧∀ d,d∈ds↔d∈L.map (·.1)∨d∈L'.map (·.1):=by
 have ex:∀ {ks:List (List (List Int))},(∀ k∈ks,∃ d,k=kD d)→∃ ds:List F2,ks=ds.map kD:=by
  intro ks
  induction ks with
  | nil=>intro _; exact ⟨[],rfl⟩
  | cons k ks ih =>
   intro h
   obtain ⟨d,rfl⟩:=h k List.mem_cons_self
   obtain ⟨ds,rfl⟩:=ih fun x hx=>h x (List.mem_cons_of_mem _ hx)
   exact ⟨d :: ds,rfl⟩
 obtain ⟨ds,rfl⟩:=ex fun k hk=>by
  rcases (h k).mp hk with z | z <;> (obtain ⟨x,_,rfl⟩:=List.mem_map.mp z; exact ⟨_,rfl⟩)
 have inj:∀ {M:List (F2×F2)} {d:F2},kD d∈M.map (fun x=>kD x.1)↔d∈M.map (·.1):=by
  intro M d
  constructor
  ·intro z
   obtain ⟨x,hx,e⟩:=List.mem_map.mp z
   exact List.mem_map.mpr ⟨x,hx,Zcq e⟩
  ·intro z
   obtain ⟨x,hx,e⟩:=List.mem_map.mp z
   exact List.mem_map.mpr ⟨x,hx,by rw [e]⟩
 refine ⟨ds,rfl,fun d=>?_⟩
 rw [← inj,← inj (M:=L'),← h]
 constructor
 ·intro z; exact List.mem_map.mpr ⟨d,z,rfl⟩
 ·intro z
  obtain ⟨b,hb,e⟩:=List.mem_map.mp z
  rw [← Zcq e]; exact hb
section
variable {S S':F2→Int} {n m:Int} {L L':List (F2×F2)} {ds pre rest:List F2} {d:F2}
theorem ZgZ (hn:0 < n) (hm:0 < m) (mk:MkOk S n L) (mk':MkOk S' m L') (hd:∀ d,d∈ds↔d∈L.map (·.1)∨d∈L'.map (·.1)) (h:∀ d∈ds,nrat (S d) n=nrat (S' d) m):ZdA S n S' m none:=fun d=>by
 by_cases z:d∈ds
 ·exact h d z
 ·have a:S d=0:=Decidable.byContradiction fun q=>z ((hd d).mpr (.inl ((Zfk mk d).mpr q)))
  have b:S' d=0:=Decidable.byContradiction fun q=>z ((hd d).mpr (.inr ((Zfk mk' d).mpr q)))
  rw [a,b,Za4 hn,Za4 hm]
theorem Zhd (hn:0 < n) (hm:0 < m) (mk:MkOk S n L) (mk':MkOk S' m L') (hd:∀ d,d∈ds↔d∈L.map (·.1)∨d∈L'.map (·.1)) (pw:(ds.map kD).Pairwise Zb6) (e:ds=pre ++ d :: rest) (h:∀ d∈pre,nrat (S d) n=nrat (S' d) m) (ne:nrat (S d) n≠nrat (S' d) m):ZdA S n S' m (some d):=by
 refine ⟨ne,fun d' h'=>?_⟩
 have z:d'∈ds:=Decidable.byContradiction fun z=>by
  have a:S d'=0:=Decidable.byContradiction fun q=>z ((hd d').mpr (.inl ((Zfk mk d').mpr q)))
  have b:S' d'=0:=Decidable.byContradiction fun q=>z ((hd d').mpr (.inr ((Zfk mk' d').mpr q)))
  rw [a,b,Za4 hn,Za4 hm] at h'
  exact h' rfl
 rw [e] at z pw
 rcases List.mem_append.mp z with z | z
 ·exact absurd (h d' z) h'
 ·rcases List.mem_cons.mp z with z | z
  ·rw [z]; exact ZaH _
  ·rw [List.map_append,List.map_cons] at pw
   have:=(List.pairwise_cons.mp (List.pairwise_append.mp pw).2.1).1 (kD d') (List.mem_map.mpr ⟨d',z,rfl⟩)
   exact this
end
def crz (a b:F2):Int:=a.1 * b.2 - a.2 * b.1
theorem Zh7 {rs:RR} {n:Int} {T:F2} (hn:0 < n) (h:IsF T (hf (fsum ((rs.map fun r=>r.map fun p=>npt p.1 p.2 n).flatMap cyc)))):T=arN rs n :=
 due_is hn (fun ps _ p hp=>by
  obtain ⟨q,_,rfl⟩:=List.mem_map.mp hp
  exact (ZaL (a:=q.1) (b:=q.2) (n:=n) (by omega)).1.1) (fun ps _=>ZfD hn ps) h
theorem Zk7 {rs:RR} {n:Int} (ok:RgsW 20000000000 rs) (n1:1≤n) (n2:n≤12000000):∀ ps∈rs.map (fun r=>r.map fun p=>npt p.1 p.2 n),1≤ps.length∧∀ p∈ps,0 < p.2.2∧BP 36 p:=fun ps hps=>by
 obtain ⟨r,hr,rfl⟩:=List.mem_map.mp hps
 have rg:=ok.rg r hr
 refine ⟨by rw [List.length_map]; have:=rg.l3; omega,fun p hp=>?_⟩
 obtain ⟨q,hq,rfl⟩:=List.mem_map.mp hp
 obtain ⟨a,_,_,b1,b2,b3⟩:=ZaL (a:=q.1) (b:=q.2) (n:=n) (by omega)
 have b:=rg.le q hq
 have big:intBits 20000000000≤36:=by decide
 exact ⟨a.1,Zai (t:=20000000000) (by omega) big,Zai (t:=20000000000) (by omega) big,Zai (t:=20000000000) (by omega) big⟩
theorem ZfS {rs:RR} {n:Int}:((rs.map fun r=>r.map fun p=>npt p.1 p.2 n).map List.length)=rs.map List.length:=by
 rw [List.map_map]
 refine List.map_congr_left fun r _=>?_
 simp
end Cut
namespace Tab
open PySem PySem.SetTable PyProof.Rows L2 PySem.W
section
variable {prog:Program} {w:World} {A:Around} {E:Value→Shared→Prop} {s:Shared}
theorem go_no {t:SetTable} (hd:t.dummies = #[]) {h:Int}:∀ (fuel:Nat) (p:Probe) (j i:Nat) (nx:Probe),SetTable.probe.go t (fun _=>h + 1) h fuel p≠some (.candidate j i nx)
 | 0,p,j,i,nx=>fun z=>by cases z
 | fuel + 1,p,j,i,nx=>fun z=>by
  unfold SetTable.probe.go at z
  cases q:t.slot p.j with
  | empty=>rw [q] at z; cases z
  | dummy=>exact absurd q (ZaS hd _)
  | live i' =>
   rw [q] at z
   dsimp only at z
   rw [if_neg (by simp; omega)] at z
   exact go_no hd fuel _ _ _ _ z
theorem Zmw {t:SetTable} {n:Nat} (ok:TOk t n) (h:Int):∃ j,t.freeSlot h=some (j,false)∧t.slot j=.empty:=by
 have lo:=ok.lo
 obtain ⟨met,e⟩:=Zb3 (hashAt:=fun _=>h + 1) (h:=h) ok.msk ok.dum (by rw [ok.sz]; omega) (ZbO t h)
 have e':=e
 unfold SetTable.probe at e'
 rcases Zgo ok.dum _ _ _ e' with ⟨j,n,a,b,c⟩ | ⟨j,i,n,a,b,c⟩
 ·have dn:(t.probeStart h).dummy=none:=rfl
  rw [dn] at a
  subst a
  refine ⟨j,?_,ZcE _ _ _ _ e'⟩
  unfold SetTable.freeSlot
  rw [e]; rfl
 ·rw [a] at e'
  exact absurd e' (go_no ok.dum _ _ _ _ _)
def iv:Value→Int
 | .int i _=>i
 | _=>0
def SI (prog:Program) (w:World) (h:Heap) (a:Addr) (L:Bool) (ns:List Int):Prop :=
 ∃ o es ep t,h.get? a=some o∧o.ExactSet∧o.data=.set es ep t∧TOk t es.size∧t.mask=7∧t.led=L∧Ris t.place∧t.plain=true∧ElemsOf (intKind prog w) es.toList∧(es.toList.map fun e=>iv e.2).Perm ns∧ns.Nodup
theorem is_iv {k:Int} {v:Value} (h:∃ m,(intKind prog w).is m v=true):(intKind prog w).is k v=true↔iv v=k:=by
 obtain ⟨m,h⟩:=h
 obtain ⟨t,rfl⟩:=ZaY h
 constructor
 ·intro z
  obtain ⟨t',e⟩:=ZaY z
  cases e; rfl
 ·intro z
  have:m=k:=z
  rw [this]; exact intKind_is _ _ _ _
theorem elems_ints {es:List (Int×Value)} (h:ElemsOf (intKind prog w) es):∀ v∈es.map (·.2),∃ i t,v=.int i t:=fun v hv=>by
 obtain ⟨e,he,rfl⟩:=List.mem_map.mp hv
 obtain ⟨⟨k,hk,_⟩,_⟩:=h e he
 exact ⟨k,ZaY hk⟩
theorem add_int {L:Bool} {a:Addr} {ns:List Int} {k:Int} {tk:Tok} {Q:Bool→Shared→Prop} (st:SI prog w s.heap a L ns) (hn:ns.length < 4)
  (h:∀ b h' ns',Heap.SameBut a s.heap h'→SI prog w h' a L ns'→(∀ m,m∈ns'↔m∈ns∨m=k)→ns'.length≤ns.length + 1→Q b { s with heap:=h' }):wpAny (model prog w) A (setAddHashed a (.int k tk) (hashInt k)) Q E s:=by
 obtain ⟨o,es,ep,t,ho,hex,hd,ok,hm,hl,hr,hp,el,pm,nd⟩:=st
 have sz:es.size=ns.length:=by rw [← pm.length_eq,List.length_map,Array.length_toList]
 unfold setAddHashed
 refine wpAny_holding ?_
 unfold setAddHashedIn
 refine wpAny_bind (wpAny_setState_of ho hd ok.fits ?_)
 dsimp only
 have bs:byScan (.int k tk) es=true:=by
  unfold byScan
  rw [Bool.and_eq_true,Bool.and_eq_true]
  refine ⟨⟨rfl,by rw [decide_eq_true_eq,sz]; unfold scanBound; omega⟩,?_⟩
  rw [← Array.all_toList,List.all_eq_true]
  exact fun e he=>(el e he).2
 rw [bs]
 simp only [if_true]
 unfold setAddByScan
 refine wpAny_bind (wpAny_bind (wpAny_rule (wpAny_bind (wpAny_setScan_of (knd:=intKind prog w) (k:=k) (intKind_is _ _ _ _) ho hd ok.fits el ?_))))
 cases q:List.findIdx? (fun e=>(intKind prog w).is k e.snd) es.toList with
 | some j =>
  dsimp only
  refine wpAny_pure (wpAny_pure (h _ _ ns (Heap.SameBut.refl _ _) ⟨o,es,ep,t,ho,hex,hd,ok,hm,hl,hr,hp,el,pm,nd⟩ (fun m=>⟨.inl,fun z=>z.elim id fun z=>?_⟩) (Nat.le_succ _)))
  subst z
  obtain ⟨lt,hj,_⟩:=List.findIdx?_eq_some_iff_getElem.mp q
  rw [← pm.mem_iff]
  exact List.mem_map.mpr ⟨_,List.getElem_mem lt,(is_iv ((el _ (List.getElem_mem lt)).1.imp fun _ z=>z.1)).mp hj⟩
 | none =>
  dsimp only
  have no:k ∉ ns:=fun z=>by
   rw [← pm.mem_iff] at z
   obtain ⟨e,he,e2⟩:=List.mem_map.mp z
   have:=List.findIdx?_eq_none_iff.mp q e he
   rw [(is_iv ((el e he).1.imp fun _ z=>z.1)).mpr e2] at this
   cases this
  obtain ⟨j,fs,fe⟩:=Zmw ok (hashInt k)
  obtain ⟨p1,p2,p3,p4⟩:=ZkX ok.msk ok.dum ok.sz j
  have p6:Ris (t.put j).1.place:=Zjn hr fe
  have p7:(t.put j).1.plain=true:=(show (t.put j).1.plain=t.plain from rfl).trans hp
  have ln:layNew t es (hashInt k) (.int k tk)=(SetTable.insertAt es (t.put j).2 (hashInt k,.int k tk),(t.put j).1,false,false):=by
   unfold layNew
   rw [fs]
   have isz:(SetTable.insertAt es (t.put j).2 (hashInt k,Value.int k tk)).size=es.size + 1:=by
    rw [← Array.length_toList,(SetTable.insertAt_perm _ _ _).length_eq,Array.length_toList,Array.size_push]
   have ft:(t.put j).1.fits (es.size + 1)=true:=by
    unfold SetTable.fits SetTable.fill
    rw [p1,p2,p3,hm]
    simp
    omega
   dsimp only
   rw [isz,ft]
   unfold SetTable.orStandIn
   rw [ft]
   simp
  rw [ln]
  generalize hp2:t.put j=tp at p1 p2 p3 p4 p6 p7
  obtain ⟨t1,p⟩:=tp
  dsimp only at p1 p2 p3 p4 p6 p7 ⊢
  have pe:=SetTable.insertAt_perm es p (hashInt k,Value.int k tk)
  rw [Array.toList_push] at pe
  have isz:(SetTable.insertAt es p (hashInt k,Value.int k tk)).size=es.size + 1:=by
   rw [← Array.length_toList,pe.length_eq,List.length_append,Array.length_toList]; rfl
  have sb:=Heap.SameBut.update s.heap a (Obj.putSet (SetTable.insertAt es p (hashInt k,Value.int k tk)) t1)
  have gt:=Zex ho hd (SetTable.insertAt es p (hashInt k,Value.int k tk)) t1
  have tf:t1.tooFull=false:=by
   unfold SetTable.tooFull SetTable.fill
   rw [p1,p2,p3,hm]
   simp
   omega
  refine wpAny_bind (wpAny_pure ?_)
  rw [p7]
  simp only [if_true]
  refine wpAny_bind (wpAny_pure ?_)
  simp only [if_true]
  refine wpAny_bind (wpAny_storeSet_of ho hd ?_ (by rw [isz,sizeLine_eq]; omega))
  rw [tf]
  simp only [Bool.not_false,Bool.and_false,Bool.false_eq_true,if_false]
  refine wpAny_pure (wpAny_pure (h _ _ (k :: ns) sb ⟨_,_,_,_,gt,hex,rfl,⟨by rw [p1]; exact ok.msk,p2,by rw [p3,isz],by rw [p1,isz,hm]; omega⟩,by rw [p1]; exact hm,by rw [p4]; exact hl,p6,p7,fun e he=>?_,?_,List.nodup_cons.mpr ⟨no,nd⟩⟩ (fun m=>?_) (Nat.le_refl _)))
  ·rcases List.mem_append.mp (pe.mem_iff.mp he) with z | z
   ·exact el e z
   ·rw [List.mem_singleton.mp z]
    exact ⟨⟨k,intKind_is _ _ _ _,rfl⟩,rfl⟩
  ·refine (pe.map _).trans ?_
   rw [List.map_append]
   exact (List.perm_append_comm).trans (.cons k pm)
  ·rw [List.mem_cons]; exact Or.comm
theorem SI.keep {h h':Heap} {a:Addr} {L:Bool} {ns:List Int} (st:SI prog w h a L ns) (k:∀ o,h.get? a=some o→h'.get? a=some o):SI prog w h' a L ns:=by
 obtain ⟨o,es,ep,t,ho,r⟩:=st
 exact ⟨o,es,ep,t,k o ho,r⟩
theorem Znq {S I l:Addr} {items:Array Value} {ms:List Int} {L:Bool} {R:Result→Shared→Prop} (n1:l≠S) (n2:l≠I) (n3:S≠I) (hh:A.handled=none) (hi:IntsAre items.toList ms) (room:items.size≤4) :
  ∀ (k i:Nat) (ns:List Int) (s:Shared),items.size - i=k→i≤items.size→s.heap.IsListIter I l i→s.heap.IsList l items→SI prog w s.heap S L ns→ns.length≤i→(∀ m,m∈ns↔m∈ms.take i) →
   (∀ h' tk ns',s.toks≤tk→(∀ b o,b≠S→b≠I→s.heap.get? b=some o→h'.get? b=some o)→SI prog w h' S L ns'→(∀ m,m∈ns'↔m∈ms)→ns'.length≤4→R (.ok (.ret .none)) { s with heap:=h',toks:=tk }) →
   codeAny (model prog w) A (.builtin "set.update.loop" ⟨[.ref S,.ref I],[]⟩) R s:=by
 have lm:items.size=ms.length:=by rw [← Array.length_toList]; exact Zbh hi
 have at':∀ {vs:List Value} {ms:List Int},IntsAre vs ms→∀ {i:Nat} (h:i < vs.length),∃ m t,vs[i]=.int m t∧ms[i]?=some m:=by
  intro vs ms h
  induction h with
  | nil=>intro i h; exact absurd h (Nat.not_lt_zero _)
  | cons n t h ih =>
   intro i hi
   cases i with
   | zero=>exact ⟨n,t,rfl,rfl⟩
   | succ i=>obtain ⟨m,t,e1,e2⟩:=ih (i:=i) (by simpa using hi); exact ⟨m,t,by simpa using e1,by simpa using e2⟩
 intro k
 induction k with
 | zero =>
  intro i ns s hk hi hit hl st hn hv hR
  refine codeAny_builtin PyProof.Rows.F.entry_set_update_loop ?_
  simp only [Around.under_plainId PyProof.Rows.F.plain_set_update_loop]
  show wpAny _ A.in1 (pyNext (.ref I) >>= _) _ _ _
  refine wpAny_bind (wpAny_pyNext_list_end hh hit hl (Array.getElem?_eq_none_iff.mpr (by omega)) fun h' he=>?_)
  show wpAny _ A.in1 (ret Value.none) _ _ _
  refine wpAny_pure (hR h' s.toks ns (Nat.le_refl _) (fun b o _ b2 e=>he b o b2 e) (st.keep fun o e=>he S o n3 e) (fun m=>?_) (by omega))
  rw [hv,List.take_of_length_le (by omega)]
 | succ k ih =>
  intro i ns s hk hi hit hl st hn hv hR
  have lt:i < items.size:=by omega
  obtain ⟨m,tm,em,me⟩:=at' ‹_› (i:=i) (by rw [Array.length_toList]; exact lt)
  rw [Array.getElem_toList] at em
  refine codeAny_builtin PyProof.Rows.F.entry_set_update_loop ?_
  simp only [Around.under_plainId PyProof.Rows.F.plain_set_update_loop]
  show wpAny _ A.in1 (pyNext (.ref I) >>= _) _ _ _
  refine wpAny_bind (wpAny_pyNext_list_item hit hl (x:=items[i]) (by simp [lt]) fun h1 hit1 sb1=>?_)
  have st1:SI prog w h1 S L ns:=st.keep fun o e=>sb1.extBut S o n3 e
  rw [em]
  show wpAny _ A.in1 (holding [Value.int m tm] (setAdd S (.int m tm)) >>= _) _ _ _
  refine wpAny_bind (wpAny_holding ?_)
  unfold setAdd
  refine wpAny_holding ?_
  refine wpAny_bind ((intKind prog w).pyHash (k:=m) (intKind_is _ _ _ _) ?_)
  refine add_int (A:=A.in1) st1 (by omega) fun bb h2 ns' sb2 st2 mm ln=>?_
  have up:∀ c o,c≠S→c≠I→s.heap.get? c=some o→h2.get? c=some o:=fun c o c1 c2 e=>(sb2.2 c c1).trans (sb1.extBut c o c2 e)
  refine wpAny_pure ⟨plainId_quiet PyProof.Rows.F.plain_set_update_loop _,ih (i + 1) ns' _ (by omega) lt (hit1.at fun o e=>(sb2.2 I (Ne.symm n3)).trans e) (hl.at fun o e=>up l o n1 n2 e) st2 (by omega) (fun x=>?_) fun h3 tk ns3 ht up' st3 mm3 l3=>?_⟩
  ·rw [mm x,hv x,List.take_succ,me,List.mem_append]
   simp
  ·exact hR h3 tk ns3 (Nat.le_trans (Nat.le_add_right _ _) ht) (fun c o c1 c2 e=>up' c o c1 c2 (up c o c1 c2 e)) st3 mm3 l3
theorem ZmD {h:Heap} {a:Addr} {led:Bool} (e:h.get? a=some (fresh led)):SI prog w h a led [] :=
 ⟨_,#[],0,_,e,⟨rfl,rfl,rfl⟩,rfl,⟨.inl rfl,rfl,rfl,show 0 * 5 < 7 * 3 by decide⟩,rfl,rfl,fun i k _ h=>absurd h (Nat.not_lt_zero _),rfl,fun e he=>by simp at he,.nil,.nil⟩
theorem call_setI {l:Addr} {items:Array Value} {ms:List Int} {Q:Value→Shared→Prop} (hh:A.handled=none) (hl:s.heap.IsList l items) (hi:IntsAre items.toList ms) (room:items.size≤4)
  (h:∀ (h':Heap) (tk:Nat) (ns:List Int),s.toks≤tk→SI prog w h' s.heap.objs.size (!byT w) ns→(∀ m,m∈ns↔m∈ms)→ns.length≤4→(∀ b o,s.heap.get? b=some o→h'.get? b=some o)→Q (.ref s.heap.objs.size) { s with heap:=h',toks:=tk }) :
  wpAny (model prog w) A (call (.type "set") [.ref l]) Q E s:=by
 obtain ⟨c,tl,mr⟩:=F.called_set.mro
 have md:=F.called_set.made; have sb:=F.called_set.sub; have c1:=F.called_set.notType; have c2:=F.called_set.canCreate; have c3:=F.typeCall_set_1 (.ref l)
 refine wpAny_call (codeAny_of_tree (show wpAny _ _ (callAny (.type "set") _) _ _ _ from wpAny_pure ⟨Code.quiet_builtin _ (by decide +kernel),codeAny_builtin F.entry_type_call ?_⟩))
 rw [Around.under_plain (weight_type_call_type "set" [.ref l] []) rfl]
 repeat (any_goals (first | assumption | wp_step))
 refine codeAny_mono (Zdf (.ref l) (E:=E) (Q₁:=fun v z=>v=.ref s.heap.objs.size∧z={ s with heap:=s.heap.push (fresh (!byT w)) }) ⟨rfl,rfl⟩) fun r z hr=>?_
 cases r with
 | error e=>exact hr
 | ok fl =>
  cases fl with
  | ret v =>
   obtain ⟨rfl,rfl⟩:=hr
   have gS:(s.heap.push (fresh (!byT w))).get? s.heap.objs.size=some (fresh (!byT w)):=Heap.get?_push_size _ rfl
   have tS:Shared.TypeIs { s with heap:=s.heap.push (fresh (!byT w)) } (.ref s.heap.objs.size) "set" := ⟨_,gS,rfl⟩
   have d1:=F.called_set.init.lookup; have d2:=F.called_set.init.bind (.ref s.heap.objs.size)
   repeat (any_goals (first | assumption | wp_step))
   refine codeAny_mono (codeAny_call_builtin (R:=wants (fun v z=>v=.none∧∃ h' tk ns,s.toks≤tk∧z={ s with heap:=h',toks:=tk }∧SI prog w h' s.heap.objs.size (!byT w) ns∧(∀ m,m∈ns↔m∈ms)∧ns.length≤4∧∀ b o,s.heap.get? b=some o→h'.get? b=some o) E) F.called_set.init.plain F.entry_set_init (check_set_init_1 tS ?_)) fun r2 z2 hr2=>?_
   ·obtain ⟨ol,gl,lc,nl,ld⟩:=id hl
    obtain ⟨oc,od,oda,osl⟩:=ol
    simp only at lc ld
    subst lc ld
    have llt:=Heap.lt_size gl
    have gl1:(s.heap.push (fresh (!byT w))).get? l=some ⟨.type "list", od,.seq items nl,osl⟩:=Heap.get?_push_of_some _ gl
    have f1:=F.sub_list_set
    have f2:=F.sub_list_frozenset
    have f3:(Value.type "list" == Value.type "dict")=false:=by decide
    have hl1:(s.heap.push (fresh (!byT w))).IsList l items:=⟨_,gl1,rfl,nl,rfl⟩
    have sz:(s.heap.push (fresh (!byT w))).objs.size=s.heap.objs.size + 1:=Heap.size_push _ _
    unfold Builtin.«set.__init__» noKeywords Builtin.Frozenset.updateFrom
    generalize g:pyIter=it
    wp_walk
    subst g
    refine wpAny_pyIter_list hl1 (wpAny_bind (wpAny_runValue ?_))
    have kp:∀ b o,s.heap.get? b=some o→((s.heap.push (fresh (!byT w))).push { cls:=.type "list_iterator", data:=.fields #[.ref l,.int 0 0] }).get? b=some o:=fun b o e=>Heap.get?_push_of_some _ (Heap.get?_push_of_some _ e)
    refine Znq (S:=s.heap.objs.size) (I:=(s.heap.push (fresh (!byT w))).objs.size) (l:=l) (items:=items) (Nat.ne_of_lt llt) (by rw [sz]; exact Nat.ne_of_lt (Nat.lt_succ_of_lt llt)) (by rw [sz]; exact Nat.ne_of_lt (Nat.lt_succ_self _)) (by simp [hh]) hi room (items.size - 0) 0 [] _ rfl (Nat.zero_le _) ⟨_,Heap.get?_push_size _ rfl,rfl,rfl⟩ (hl1.push _) (ZmD (Heap.get?_push_of_some _ gS)) (Nat.le_refl _) (fun m=>by simp) fun h' tk ns ht up sw hm hn=>?_
    refine wpAny_pure (show wpAny _ _ (ret Value.none) _ _ _ from wpAny_pure ⟨rfl,h',tk,ns,ht,rfl,sw,hm,hn,fun b o e=>?_⟩)
    have bl:=Heap.lt_size e
    exact up b o (Nat.ne_of_lt bl) (by rw [sz]; exact Nat.ne_of_lt (Nat.lt_succ_of_lt bl)) (kp b o e)
   ·cases r2 with
    | error e=>exact hr2
    | ok fl2 =>
     cases fl2 with
     | ret r =>
      obtain ⟨rfl,h',tk,ns,ht,rfl,sw,hm,hn,kp⟩:=hr2
      repeat (any_goals (first | assumption | wp_step))
      exact h _ _ _ ht sw hm hn kp
     | _=>exact hr2.elim
  | _=>exact hr.elim
theorem rkd_ints {vs:List Value} (h:∀ v∈vs,∃ i t,v=.int i t):Rkd prog w A s vs oneType' (fun i=>iv (vs.getD i Value.none)) where
 kd:=fun h2 h' k E Q q=>kas_kind h2 (T:=.type "int") (fun v hv=>by obtain ⟨i,t,rfl⟩:=h v hv; exact ZeC) (by decide) (by decide) q
 lt:=fun h' k i j C hi hj c=>by
  have g:∀ i,i < vs.length→∃ a t,vs.getD i Value.none=.int a t:=fun i hi=>by
   obtain ⟨a,t,e⟩:=h vs[i] (List.getElem_mem hi)
   exact ⟨a,t,by simp [hi,e]⟩
  obtain ⟨a,t,e1⟩:=g i hi
  obtain ⟨b,u,e2⟩:=g j hj
  unfold kas_ask
  rw [e1,e2] at c ⊢
  exact kat_lt_int c
end
end Tab
namespace L2
open PySem PySem.Spec PyProof.Rows PySem.W
def Zko (ta:TA):TE:=fun σ H Q=>ta σ H fun vs H1=>∃ (l:Addr) (ns:List Int),vs=[.ref l]∧H1 l=some (.lst (ns.map V.int))∧ns.length≤4∧∀ ns':List Int,(∀ m,m∈ns'↔m∈ns)→ns'.Pairwise (· < ·)→ns'.length≤4→∀ p,H1 p=none→Q (.ref p) (upd H1 p (.lst (ns'.map V.int)))
theorem Zjl:∀ {vs:List Value},(∀ v∈vs,∃ i t,v=.int i t)→Vals ((vs.map Tab.iv).map V.int) vs
 | [],_=>.nil
 | v :: vs,h=>by
  obtain ⟨i,t,rfl⟩:=h _ List.mem_cons_self
  exact .cons ⟨t,rfl⟩ (Zjl fun v hv=>h v (List.mem_cons_of_mem _ hv))
theorem ZgV {X:Cx} {a:Expr} {ta:TA} {p p2 pos pos2:Pos} (hc:X.calm=true) (hg1:Gl X "sorted") (hm1:X.mg "sorted" = none) (hg2:Gl X "set") (hm2:X.mg "set" = none) (ha:PA X [a] ta)
  (hs:starEach [a] X.env=[(false,eval a X.env)]:=by rfl) (hs2:starEach [.Call (.Name "set" p2) [a] [] pos2] X.env=[(false,eval (.Call (.Name "set" p2) [a] [] pos2) X.env)]:=by rfl) :
  PE X (.Call (.Name "sorted" p) [.Call (.Name "set" p2) [a] [] pos2] [] pos) (Zko ta):=by
 intro pins s σ H Q I h
 refine wpAny_Call_Name_kw (Zbs I hg1 hm1 (by decide +kernel:bootBuiltins "sorted" = some (.builtin "sorted")) (PyProof.Rows.callWith_builtin1 ?_ hs2 rfl))
 rw [hs2]
 show wpAny _ _ (spliced ((false,eval (.Call (.Name "set" p2) [a] [] pos2) X.env) :: backTo pos [])) _ _ s
 refine Calls.spliced_cons ?_
 refine wpAny_Call_Name_kw (Zbs I hg2 hm2 (by decide +kernel:bootBuiltins "set" = some (.type "set")) (PyProof.Rows.callWith_type1 (thn (ha pos2 pins s σ H _ I h) fun us s1 ⟨vs,H1,I1,r1,q1⟩=>?_) hs rfl))
 obtain ⟨l,ns,rfl,hq,hz,q⟩:=q1
 obtain ⟨u,rfl,r⟩:=ZeQ r1
 cases r
 obtain ⟨its,rv,pl,_⟩:=I1.list (SqL.of hq)
 have ln:=rv.length
 rw [List.length_map] at ln
 refine Tab.call_setI (I1.ok.hd hc) pl.isList (Zdz rv) (by rw [List.size_toArray]; omega) fun h' tk ns' ht sw hm hn kp=>?_
 refine Calls.spliced_nil ?_
 obtain ⟨o,es,ep,t,ho,hex,hd,ok,hm7,hl,hr,hp,el,pm,nd⟩:=sw
 generalize ed:s1.heap.objs.size=S at ho
 have sz:es.size=ns'.length:=by rw [← pm.length_eq,List.length_map,Array.length_toList]
 have rw0:Tab.RawS X.w h' S es ep t:=⟨o,ho,hex.1,hd,ok,hl,hr,hp⟩
 have op:=Tab.ord_perm (w:=X.w) S ep es
 have iv1:∀ v∈Tab.vls X.w S ep es,∃ i t,v=.int i t:=fun v hv=>by
  obtain ⟨e,he,rfl⟩:=List.mem_map.mp hv
  exact Tab.elems_ints el _ (List.mem_map_of_mem (op.mem_iff.mp he))
 have pv:((Tab.vls X.w S ep es).map Tab.iv).Perm ns':=by
  unfold Tab.vls
  rw [List.map_map]
  exact (op.map _).trans pm
 have lv:(Tab.vls X.w S ep es).length=ns'.length:=by rw [← pv.length_eq,List.length_map]
 have I2:Inv X pins σ H1 { s1 with heap:=h',toks:=tk }:=I1.kept kp
 refine Zdv (s:={ s1 with heap:=h',toks:=tk }) (vs:=Tab.vls X.w S ep es) (by omega) (fun E' Q' hq=>Tab.collect_set (s:={ s1 with heap:=h',toks:=tk }) (show X.A.in1.in1.handled=none from I1.ok.hd hc) rw0 (by rw [sz,sizeLine_eq]; omega) hq) (Tab.rkd_ints iv1) fun pp2 h2 l2 e2 pp ic lo kp2 he=>?_
 have pm2:(ZaI (Tab.vls X.w S ep es) pp2).Perm (Tab.vls X.w S ep es):=L3.perm_map_get _ Value.none pp
 have iv2:∀ v∈ZaI (Tab.vls X.w S ep es) pp2,∃ i t,v=.int i t:=fun v hv=>iv1 v (pm2.mem_iff.mp hv)
 have pi:((ZaI (Tab.vls X.w S ep es) pp2).map Tab.iv).Perm ns':=(pm2.map _).trans pv
 have le:((ZaI (Tab.vls X.w S ep es) pp2).map Tab.iv).Pairwise (· ≤ ·):=by
  rw [List.pairwise_iff_getElem]
  intro i j hi hj hij
  unfold ZaI at hi hj ⊢
  rw [List.length_map,List.length_map,Array.length_toList] at hi hj
  have sp:=pp.sz
  have h:=ic i j (Nat.le_of_lt hij) (by omega)
  have ei:pp2.getD i 0=pp2[i]:=by simp [Array.getD,hi]
  have ej:pp2.getD j 0=pp2[j]:=by simp [Array.getD,hj]
  unfold rk at h
  rw [ei,ej] at h
  simpa using h
 have lt:((ZaI (Tab.vls X.w S ep es) pp2).map Tab.iv).Pairwise (· < ·):=by
  have ndp:((ZaI (Tab.vls X.w S ep es) pp2).map Tab.iv).Nodup:=pi.nodup_iff.mpr nd
  exact (List.Pairwise.and le ndp).imp fun {x y} ⟨a,b⟩=>by have b:x≠y:=b; omega
 have ll:(ZaI (Tab.vls X.w S ep es) pp2).length=ns'.length:=by rw [← pi.length_eq,List.length_map]
 refine ⟨.ref l2,_,I2.laid (t':=tk) kp2 lo (show ObjOk X.prog X.w _ _ _ (.lst (((ZaI (Tab.vls X.w S ep es) pp2).map Tab.iv).map V.int)) from ⟨by rw [List.length_map,List.length_map,ll,sizeLine_eq]; omega,_,e2,Zjl iv2,he⟩),rfl,q _ (fun m=>by rw [pi.mem_iff,hm]) lt (by rw [List.length_map,ll]; exact hn) l2 (I2.hok.fresh lo)⟩
end L2
namespace L3
open PySem L2
variable {X:Cx} {e:Expr} {u:UE} {p p2 pos pos2:Pos}
def ZkP (u:UE):UL:=fun ρ k=>u ρ fun x=>∃ ns:List Int,x=.lst (ns.map D.int)∧ns.length≤4∧∀ ns':List Int,(∀ m,m∈ns'↔m∈ns)→ns'.Pairwise (· < ·)→ns'.length≤4→k (ns'.map D.int)
theorem ZiS (hc:X.calm=true) (ha:PE3 X e u) (hg1:Gl X "sorted") (hm1:X.mg "sorted" = none) (hg2:Gl X "set") (hm2:X.mg "set" = none)
  (hs:starEach [e] X.env=[(false,eval e X.env)]:=by rfl) (hs2:starEach [.Call (.Name "set" p2) [e] [] pos2] X.env=[(false,eval (.Call (.Name "set" p2) [e] [] pos2) X.env)]:=by rfl) :
  PO3 X (.Call (.Name "sorted" p) [.Call (.Name "set" p2) [e] [] pos2] [] pos) (ZkP u):=by
 obtain ⟨_,h1,r1⟩:=ha
 refine ⟨_,ZgV hc hg1 hm1 hg2 hm2 (Zau h1 ZaR (by rw [hs]; rfl)) hs hs2,fun ρ k h R W B H σ Q e q=>?_⟩
 refine r1 ρ _ h R W B H σ _ e fun d v B1 H1 z1 e1 g1 s1=>?_
 obtain ⟨ns,rfl,hn,z⟩:=z1
 obtain ⟨a,vs,rfl,ha,rs⟩:=s1.lstV
 have ev:=Zdk rs
 subst ev
 refine ⟨a,ns,rfl,e1.bh _ _ ha,hn,fun ns' p1 p2 p3 p hp=>?_⟩
 obtain ⟨f1,f2,f3,f4,f5⟩:=e1.newO hp (Reps.ints ns')
 exact q _ p _ B1 _ (z ns' p1 p2 p3) f1 g1 f2 f3 f4 (Reps.ints ns') f5
end L3
namespace Cut
open PySem L2 L3
open PySem.Builtin.Int (intBits)
def sW (W:F2×F2→Int) (es:List (F2×F2)):Int:=(es.map W).sum
def pS (W:F2×F2→Int):List F2→Int
 | a :: b :: l=>W (a,b) + pS W (b :: l)
 | _=>0
theorem ZiI (W:F2×F2→Int) (a b:F2):∀ l:List F2,pS W (l ++ [a,b])=pS W (l ++ [a]) + W (a,b)
 | []=>by simp [pS]
 | [x]=>by simp [pS]
 | x :: y :: l=>by
  have:=ZiI W a b (y :: l)
  simp only [List.cons_append] at this ⊢
  rw [pS,pS,this]
  omega
theorem Zlc (W:F2×F2→Int) (z:F2):∀ (x:F2) (l:List F2),sW W ((x :: l).zip (l ++ [z]))=pS W (x :: l ++ [z])
 | x,[]=>by simp [sW,pS]
 | x,y :: l=>by
  have:=Zlc W z y l
  simp only [List.cons_append] at this ⊢
  rw [pS,← this]
  unfold sW
  simp
theorem ZgP (W:F2×F2→Int) (x:F2) (l:List F2):sW W (sds (x :: l))=pS W (x :: l ++ [x]):=by
 rw [← Zlc]
 unfold sds
 simp
def cS (W:F2×F2→Int) (q:Nat→F2) (b:Nat):Nat→Int
 | 0=>0
 | m + 1=>cS W q b m + W (q (b + m),q (b + m + 1))
theorem ZbU (W:F2×F2→Int) (q:Nat→F2) (b m:Nat):∀ k,cS W q b (m + k)=cS W q b m + cS W q (b + m) k
 | 0=>by simp [cS]
 | k + 1=>by
  rw [← Nat.add_assoc,cS,ZbU W q b m k,cS,show b + (m + k)=b + m + k by omega]
  omega
def prt (q:Nat→F2) (b e:Nat):List F2:=(0,0) :: (List.range (e + 1 - b)).map fun i=>q (b + i)
theorem Zk8 (W:F2×F2→Int) (o:F2) (q:Nat→F2) (b:Nat):∀ m,pS W (o :: ((List.range (m + 1)).map fun i=>q (b + i)))=W (o,q b) + cS W q b m
 | 0=>by simp [pS,cS]
 | m + 1=>by
  rw [List.range_succ,List.map_append,← List.cons_append]
  have:(List.range (m + 1)).map (fun i=>q (b + i))=((List.range m).map fun i=>q (b + i)) ++ [q (b + m)]:=by rw [List.range_succ,List.map_append]; rfl
  rw [this,← List.cons_append,List.append_assoc]
  show pS W ((o :: (List.range m).map fun i=>q (b + i)) ++ [q (b + m),q (b + (m + 1))])=_
  rw [ZiI,List.cons_append,← this,Zk8 W o q b m,cS]
  simp only [Nat.add_assoc]
  omega
theorem Zdq (W:F2×F2→Int) (q:Nat→F2) {b e:Nat} (h:b≤e):sW W (sds (prt q b e))=W ((0,0),q b) + cS W q b (e - b) + W (q e,(0,0)):=by
 unfold prt
 rw [ZgP,show e + 1 - b=(e - b) + 1 by omega]
 have:(List.range (e - b + 1)).map (fun i=>q (b + i))=((List.range (e - b)).map fun i=>q (b + i)) ++ [q e]:=by
  rw [List.range_succ,List.map_append]
  show _ ++ [q (b + (e - b))]=_
  rw [show b + (e - b)=e by omega]
 have p:=Zk8 W (0,0) q b (e - b)
 rw [this] at p ⊢
 rw [List.cons_append,List.append_assoc]
 show pS W (((0,0) :: (List.range (e - b)).map fun i=>q (b + i)) ++ [q e,(0,0)])=_
 rw [ZiI,List.cons_append,p]
def rnd (ps:List F2) (j:Nat):F2:=ps.getD (j % ps.length) (0,0)
theorem ZcM (ps:List F2) (j:Nat):rnd ps (j + ps.length)=rnd ps j:=by unfold rnd; rw [Nat.add_mod_right]
theorem Zmy (W:F2×F2→Int) (ps:List F2):cS W (rnd ps) 0 ps.length=sW W (sds ps):=by
 have key:∀ m,m≤ps.length→cS W (rnd ps) 0 m=sW W ((List.range m).map fun i=>(ps.getD i (0,0),ps.getD ((i + 1) % ps.length) (0,0))):=by
  intro m
  induction m with
  | zero=>intro _; simp [cS,sW]
  | succ m ih =>
   intro h
   rw [cS,ih (by omega),List.range_succ]
   unfold sW rnd
   simp only [List.map_append,List.sum_append,List.map_cons,List.map_nil,List.sum_cons,List.sum_nil,Nat.zero_add]
   rw [Nat.mod_eq_of_lt (show m < ps.length by omega)]
   omega
 rw [key _ (Nat.le_refl _),Zh0]
theorem ZdX (W:F2×F2→Int) (ps:List F2):∀ b,cS W (rnd ps) b ps.length=sW W (sds ps)
 | 0=>Zmy W ps
 | b + 1=>by
  rw [← ZdX W ps b]
  have a:=ZbU W (rnd ps) b 1 ps.length
  have c:=ZbU W (rnd ps) b ps.length 1
  rw [Nat.add_comm 1] at a
  rw [a] at c
  simp only [cS,Nat.add_zero] at c
  rw [ZcM,show b + ps.length + 1=(b + 1) + ps.length by omega,ZcM] at c
  omega
def ZbZ (ps:List F2) (cs:List Nat) (k:Nat):List F2:=prt (rnd ps) (cs.getD ((k + cs.length - 1) % cs.length) 0) (if k=0 then cs.getD 0 0 + ps.length else cs.getD k 0)
def prts (ps:List F2) (cs:List Nat):RR:=(List.range cs.length).map (ZbZ ps cs)
structure CtsOk (n:Nat) (cs:List Nat):Prop where
 pw:cs.Pairwise (· < ·)
 lt:∀ c∈cs,c < n
 l2:2≤cs.length
 l4:cs.length≤4
theorem CtsOk.ind {n:Nat} {P:List Nat→Prop} (h2:∀ a b,a < b→b < n→P [a,b]) (h3:∀ a b c,a < b→b < c→c < n→P [a,b,c]) (h4:∀ a b c d,a < b→b < c→c < d→d < n→P [a,b,c,d]) {cs:List Nat} (h:CtsOk n cs):P cs:=by
 obtain ⟨pw,lt,l2,l4⟩:=h
 match cs,pw,lt,l2,l4 with
 | [],_,_,l2,_=>simp at l2
 | [_],_,_,l2,_=>simp at l2
 | [a,b],pw,lt,_,_=>simp at pw lt; exact h2 a b (by omega) (by omega)
 | [a,b,c],pw,lt,_,_=>simp at pw lt; exact h3 a b c (by omega) (by omega) (by omega)
 | [a,b,c,d],pw,lt,_,_=>simp at pw lt; exact h4 a b c d (by omega) (by omega) (by omega) (by omega)
 | _ :: _ :: _ :: _ :: _ :: _,_,_,_,l4=>exact absurd l4 (by simp)
theorem Znm (ps:List F2) (a b:Nat):prts ps [a,b]=[prt (rnd ps) b (a + ps.length),prt (rnd ps) a b]:=by simp [prts,ZbZ,List.range_succ]
theorem ZlX (ps:List F2) (a b c:Nat):prts ps [a,b,c]=[prt (rnd ps) c (a + ps.length),prt (rnd ps) a b,prt (rnd ps) b c]:=by simp [prts,ZbZ,List.range_succ]
theorem ZmQ (ps:List F2) (a b c d:Nat):prts ps [a,b,c,d]=[prt (rnd ps) d (a + ps.length),prt (rnd ps) a b,prt (rnd ps) b c,prt (rnd ps) c d]:=by simp [prts,ZbZ,List.range_succ]
theorem Zk3 (W:F2×F2→Int) {ps:List F2} {cs:List Nat} (ok:CtsOk ps.length cs) (anti:∀ j,W (rnd ps j,(0,0)) = -W ((0,0),rnd ps j)):((prts ps cs).map fun r=>sW W (sds r)).sum=sW W (sds ps):=by
 refine CtsOk.ind (P:=fun cs=>((prts ps cs).map fun r=>sW W (sds r)).sum=sW W (sds ps)) (fun a b h1 h2=>?_) (fun a b c h1 h2 h3=>?_) (fun a b c d h1 h2 h3 h4=>?_) ok
 ·rw [Znm]
  simp only [List.map_cons,List.map_nil,List.sum_cons,List.sum_nil]
  rw [Zdq W _ (by omega),Zdq W _ (by omega),anti,anti,ZcM]
  have t:=ZdX W ps a
  have e1:=ZbU W (rnd ps) a (b - a) (a + ps.length - b)
  rw [show b - a + (a + ps.length - b)=ps.length by omega,show a + (b - a)=b by omega] at e1
  omega
 ·rw [ZlX]
  simp only [List.map_cons,List.map_nil,List.sum_cons,List.sum_nil]
  rw [Zdq W _ (by omega),Zdq W _ (by omega),Zdq W _ (by omega),anti,anti,anti,ZcM]
  have t:=ZdX W ps a
  have e1:=ZbU W (rnd ps) a (b - a) (a + ps.length - b)
  rw [show b - a + (a + ps.length - b)=ps.length by omega,show a + (b - a)=b by omega] at e1
  have e2:=ZbU W (rnd ps) b (c - b) (a + ps.length - c)
  rw [show c - b + (a + ps.length - c)=a + ps.length - b by omega,show b + (c - b)=c by omega] at e2
  omega
 ·rw [ZmQ]
  simp only [List.map_cons,List.map_nil,List.sum_cons,List.sum_nil]
  rw [Zdq W _ (by omega),Zdq W _ (by omega),Zdq W _ (by omega),Zdq W _ (by omega),anti,anti,anti,anti,ZcM]
  have t:=ZdX W ps a
  have e1:=ZbU W (rnd ps) a (b - a) (a + ps.length - b)
  rw [show b - a + (a + ps.length - b)=ps.length by omega,show a + (b - a)=b by omega] at e1
  have e2:=ZbU W (rnd ps) b (c - b) (a + ps.length - c)
  rw [show c - b + (a + ps.length - c)=a + ps.length - b by omega,show b + (c - b)=c by omega] at e2
  have e3:=ZbU W (rnd ps) c (d - c) (a + ps.length - d)
  rw [show d - c + (a + ps.length - d)=a + ps.length - c by omega,show c + (d - c)=d by omega] at e3
  omega
def wD (d:F2) (e:F2×F2):Int:=if dirE e=d then parE e else 0
def wA (e:F2×F2):Int:=crz e.1 e.2
theorem Zgw (d:F2):∀ es:List (F2×F2),smD d es=sW (wD d) es
 | []=>rfl
 | e :: es=>by rw [smD,Zgw d es]; unfold sW; rw [List.map_cons,List.sum_cons]; rfl
theorem Zlt (rs:RR) (d:F2):smR rs d=(rs.map fun r=>sW (wD d) (sds r)).sum:=by
 unfold smR
 congr 1
 exact List.map_congr_left fun r _=>Zgw d _
theorem ZlY (W:F2×F2→Int) {a b:List (F2×F2)} (h:a.Perm b):sW W a=sW W b:=by
 unfold sW
 induction h with
 | nil=>rfl
 | cons x _ ih=>rw [List.map_cons,List.map_cons,List.sum_cons,List.sum_cons,ih]
 | swap x y l=>simp only [List.map_cons,List.sum_cons]; omega
 | trans _ _ ih1 ih2=>rw [ih1,ih2]
theorem Zfr (ps:List F2):tw ps=sW wA (sds ps):=by
 rw [← ZlY wA (Zl5 ps)]
 unfold tw sW edL
 rw [Ze9,List.map_map,List.map_map,List.length_map]
 congr 1
 refine List.map_congr_left fun i hi=>?_
 have hi:=List.mem_range.mp hi
 have g:∀ j,j < ps.length→nth (ps.map up) j=up (ps.getD j (0,0)):=fun j hj=>by
  unfold nth
  simp [hj]
 show crI (nth (ps.map up) ((i + ps.length - 1) % ps.length),nth (ps.map up) i)=_
 rw [g _ (Nat.mod_lt _ (by omega)),g _ hi]
 unfold crI wA crz up
 simp
 exact Int.mul_comm _ _
theorem Zmt (a b:F2):stE (b,a)=sclL (-1) (stE (a,b)):=Prod.ext (by show a.1 - b.1 = -1 * (b.1 - a.1); omega) (by show a.2 - b.2 = -1 * (b.2 - a.2); omega)
theorem ZmE (d:F2) {a b:F2} (h:Zbe (a,b)):wD d (b,a) = -wD d (a,b):=by
 obtain ⟨h1,h2⟩:=wd_hom (p := -1) h (by decide)
 unfold wD dirE parE
 rw [Zmt a b]
 unfold sclL
 dsimp only
 rw [h1,h2]
 split <;> omega
theorem ZmV (a:F2):wA (a,(0,0)) = -wA ((0,0),a):=by unfold wA crz; simp
theorem ZiW (W:F2×F2→Int) (b:F2) (C:List F2):∀ A:List F2,pS W (A ++ b :: C)=pS W (A ++ [b]) + pS W (b :: C)
 | []=>by simp [pS]
 | [x]=>by
  show pS W (x :: b :: C)=pS W [x,b] + _
  simp [pS]
 | x :: y :: A=>by
  have ih:pS W (y :: (A ++ b :: C))=pS W (y :: (A ++ [b])) + pS W (b :: C):=ZiW W b C (y :: A)
  show pS W (x :: y :: (A ++ b :: C))=pS W (x :: y :: (A ++ [b])) + _
  rw [pS,pS,ih]; omega
theorem rot_S (W:F2×F2→Int) (a b:List F2):sW W (sds (a ++ b))=sW W (sds (b ++ a)):=by
 cases a with
 | nil=>rw [List.nil_append,List.append_nil]
 | cons x a =>
  cases b with
  | nil=>rw [List.nil_append,List.append_nil]
  | cons y b =>
   rw [List.cons_append,List.cons_append,ZgP,ZgP]
   have e1:=ZiW W y (b ++ [x]) (x :: a)
   have e2:=ZiW W x (a ++ [y]) (y :: b)
   simp only [List.cons_append,List.append_assoc] at e1 e2 ⊢
   rw [e1,e2]; omega
theorem Zmp {P:F2×F2→Prop} (a b:List F2) (h:∀ e∈sds (a ++ b),P e):∀ e∈sds (b ++ a),P e:=by
 cases a with
 | nil=>rw [List.nil_append] at h; rw [List.append_nil]; exact h
 | cons x a =>
  cases b with
  | nil=>rw [List.append_nil] at h; rw [List.nil_append]; exact h
  | cons y b =>
   rw [List.cons_append,ZhE] at h ⊢
   have e1:=Zc8 P y (b ++ [x]) (x :: a)
   have e2:=Zc8 P x (a ++ [y]) (y :: b)
   simp only [List.cons_append,List.append_assoc] at e1 e2 h ⊢
   exact e2.mpr ((e1.mp h).symm)
theorem Zli (g:F2→Int):∀ (x:F2) (l:List F2) (z:F2),pS (fun e=>g e.2 - g e.1) (x :: l ++ [z])=g z - g x
 | x,[],z=>by simp [pS]
 | x,y :: l,z=>by
  have:=Zli g y l z
  simp only [List.cons_append] at this ⊢
  rw [pS,this]
  dsimp only
  omega
theorem ZlT (g:F2→Int) (ps:List F2):sW (fun e=>g e.2 - g e.1) (sds ps)=0:=by
 cases ps with
 | nil=>rfl
 | cons x l=>rw [ZgP,Zli]; omega
theorem sW_add (V W:F2×F2→Int) (es:List (F2×F2)):sW (fun e=>V e + W e) es=sW V es + sW W es:=by
 unfold sW
 induction es with
 | nil=>rfl
 | cons e es ih=>simp only [List.map_cons,List.sum_cons,ih]; omega
theorem Zlk (W:F2×F2→Int) (f:F2→F2) (ps:List F2):sW W (sds (ps.map f))=sW (fun e=>W (f e.1,f e.2)) (sds ps):=by
 rw [Zgn]
 unfold sW
 rw [List.map_map]; rfl
theorem ZgB {V W:F2×F2→Int} {es:List (F2×F2)} (h:∀ e∈es,V e=W e):sW V es=sW W es:=by
 unfold sW
 rw [List.map_congr_left h]
theorem tw_mv (o x y:Int) (ho:o * o=1) (ps:List F2):tw (ps.map (mv2 o x y))=tw ps:=by
 rw [Zfr,Zfr,Zlk]
 have key:∀ e:F2×F2,wA (mv2 o x y e.1,mv2 o x y e.2)=wA e + ((o * (x * e.2.2 - y * e.2.1)) - (o * (x * e.1.2 - y * e.1.1))):=fun e=>by
  unfold wA crz mv2
  dsimp only
  have:e.1.1 * e.2.2 - e.1.2 * e.2.1=(o * o) * (e.1.1 * e.2.2 - e.1.2 * e.2.1):=by rw [ho,Int.one_mul]
  rw [this]
  grind
 rw [ZgB fun e _=>key e,sW_add,ZlT (fun p=>o * (x * p.2 - y * p.1)),Int.add_zero]
theorem wD_mv (x y:Int) (d:F2) (ps:List F2):sW (wD d) (sds (ps.map (mv2 1 x y)))=sW (wD d) (sds ps):=by
 rw [Zlk]
 refine ZgB fun e _=>?_
 have:stE (mv2 1 x y e.1,mv2 1 x y e.2)=stE e:=by
  rw [mv_st]
  unfold sclL
  exact Prod.ext (Int.one_mul _) (Int.one_mul _)
 unfold wD dirE parE
 rw [this]
theorem ns_mv {o:Int} (x y:Int) (ho:o≠0) {ps:List F2} (h:∀ e∈sds ps,Zbe e):∀ e∈sds (ps.map (mv2 o x y)),Zbe e:=fun e he=>by
 rw [Zgn] at he
 obtain ⟨e',he',rfl⟩:=List.mem_map.mp he
 unfold Zbe
 rw [mv_st]
 exact (scl_ok ho).nz _ (h e' he')
structure SrR (fa:Int) (ps:List F2):Prop where
 l3:3≤ps.length
 l16:ps.length≤16
 le:∀ p∈ps,-(5 * fa)≤p.1∧p.1≤5 * fa ∧ -(5 * fa)≤p.2∧p.2≤5 * fa
 nz:∀ p∈ps,p.1≠0∨p.2≠0
 crs:∀ j,0 < crz (rnd ps j) (rnd ps (j + 1))
theorem Zj9:((List.range 24).all fun a=>(List.range 8).all fun g=>decide (0 < crz (spk a) (spk ((a + g + 1) % 24))))=true:=by decide +kernel
theorem Zmi {a b:Nat} (ha:a < 24) (h:∃ g,g < 8∧b=(a + g + 1) % 24):0 < crz (spk a) (spk b):=by
 obtain ⟨g,hg,rfl⟩:=h
 have:=List.all_eq_true.mp (List.all_eq_true.mp Zj9 a (List.mem_range.mpr ha)) g (List.mem_range.mpr hg)
 simpa using this
theorem spk_nz:((List.range 24).all fun a=>decide ((spk a).1≠0∨(spk a).2≠0))=true:=by decide +kernel
theorem Zms {a b:Nat×Int} (ha:1≤a.2) (hb:1≤b.2) (h:0 < crz (spk a.1) (spk b.1)):0 < crz (spt a) (spt b):=by
 have e:crz (spt a) (spt b)=(a.2 * b.2) * crz (spk a.1) (spk b.1):=by
  unfold crz spt
  dsimp only
  grind
 rw [e]
 exact Int.mul_pos (Int.mul_pos (by omega) (by omega)) h
theorem Zhx {fa mo:Int} {sel:List (Nat×Int)} (h:StarOk fa mo sel) (m2:mo≤16) (f1:1≤fa):SrR fa (sel.map spt):=by
 have rg:=Znn h (by omega) f1
 have l3:=rg.l3
 have len:(sel.map spt).length=sel.length:=List.length_map ..
 rw [len] at l3
 have hl:=h.len
 refine ⟨rg.l3,by rw [len]; omega,rg.le,fun p hp=>?_,fun j=>?_⟩
 ·obtain ⟨q,hq,rfl⟩:=List.mem_map.mp hp
  obtain ⟨q1,q2,_⟩:=h.mem q hq
  have z:=List.all_eq_true.mp spk_nz q.1 (List.mem_range.mpr q1)
  rw [decide_eq_true_eq] at z
  unfold spt
  dsimp only
  rcases z with z | z
  ·exact .inl (Int.mul_ne_zero (by omega) z)
  ·exact .inr (Int.mul_ne_zero (by omega) z)
 ·have g:∀ j,rnd (sel.map spt) j=spt (sel[j % sel.length]'(Nat.mod_lt _ (by omega))):=fun j=>by
   have:j % sel.length < sel.length:=Nat.mod_lt _ (by omega)
   unfold rnd
   rw [len]
   simp [this]
  rw [g,g]
  have i1:j % sel.length < sel.length:=Nat.mod_lt _ (by omega)
  have i2:(j + 1) % sel.length < sel.length:=Nat.mod_lt _ (by omega)
  obtain ⟨a1,a2,_⟩:=h.mem _ (List.getElem_mem i1)
  obtain ⟨b1,b2,_⟩:=h.mem _ (List.getElem_mem i2)
  refine Zms a2 b2 (Zmi a1 ?_)
  have pw:=List.pairwise_iff_getElem.mp h.pw
  obtain ⟨s,s8,ms⟩:=h.must
  have pl:∀ c,c < 24→c % 8=s→∃ i,∃ hi:i < sel.length,(sel[i]).1=c:=fun c c1 c2=>by
   obtain ⟨l,hm⟩:=ms c c1 c2
   obtain ⟨i,hi,e⟩:=List.mem_iff_getElem.mp hm
   exact ⟨i,hi,by rw [e]⟩
  have mono:∀ i k (hi:i < sel.length) (hk:k < sel.length),i≤k→(sel[i]).1≤(sel[k]).1:=fun i k hi hk hik=>by
   rcases Nat.lt_or_ge i k with z | z
   ·exact Nat.le_of_lt (pw i k hi hk z)
   ·have:i=k:=by omega
    subst this
    exact Nat.le_refl _
  by_cases last:j % sel.length + 1=sel.length
  ·have e2:(j + 1) % sel.length=0:=by
    rw [Nat.add_mod,Nat.mod_eq_of_lt (show 1 < sel.length by omega),last,Nat.mod_self]
   obtain ⟨i0,hi0,z0⟩:=pl s (by omega) (by omega)
   obtain ⟨iL,hiL,zL⟩:=pl (s + 16) (by omega) (by omega)
   have m0:=mono ((j + 1) % sel.length) i0 i2 hi0 (by omega)
   have mL:=mono iL (j % sel.length) hiL i1 (by omega)
   generalize (sel[j % sel.length]).1=a at *
   generalize (sel[(j + 1) % sel.length]).1=b at *
   exact ⟨b + 23 - a,by omega,by omega⟩
  ·have e2:(j + 1) % sel.length=j % sel.length + 1:=by
    rw [Nat.add_mod,Nat.mod_eq_of_lt (show 1 < sel.length by omega)]
    exact Nat.mod_eq_of_lt (by omega)
   have lt:=pw (j % sel.length) ((j + 1) % sel.length) i1 i2 (by omega)
   have gap:(sel[(j + 1) % sel.length]).1≤(sel[j % sel.length]).1 + 8:=by
    generalize ea:(sel[j % sel.length]).1=a at *
    by_cases c24:a + 1 + ((s + 8 - (a + 1) % 8) % 8) < 24
    ·obtain ⟨i,hi,z⟩:=pl (a + 1 + ((s + 8 - (a + 1) % 8) % 8)) c24 (by omega)
     have:j % sel.length < i:=Nat.lt_of_not_le fun w=>by
      have:=mono i (j % sel.length) hi i1 w
      omega
     have:=mono ((j + 1) % sel.length) i i2 hi (by omega)
     omega
    ·omega
   generalize (sel[j % sel.length]).1=a at *
   generalize (sel[(j + 1) % sel.length]).1=b at *
   exact ⟨b - a - 1,by omega,by omega⟩
theorem ZhY {ps:List F2} (h:1≤ps.length) (j:Nat):rnd ps j∈ps:=Zd4 (Nat.mod_lt _ (by omega))
theorem Zni {q:Nat→F2} {b e:Nat} {p:F2} (h:p∈prt q b e):p=(0,0)∨∃ j,p=q j:=by
 rcases List.mem_cons.mp h with z | z
 ·exact .inl z
 ·obtain ⟨i,_,rfl⟩:=List.mem_map.mp z
  exact .inr ⟨_,rfl⟩
theorem Znu {P:F2×F2→Prop} {q:Nat→F2} {b e:Nat} (h:b≤e) (h1:P ((0,0),q b)) (h2:∀ j,P (q j,q (j + 1))) (h3:P (q e,(0,0))):∀ x∈sds (prt q b e),P x:=by
 have path:∀ m,chP P (((0,0):F2) :: ((List.range (m + 1)).map fun i=>q (b + i))):=by
  intro m
  induction m with
  | zero=>simpa [chP] using h1
  | succ m ih =>
   have:(List.range (m + 1 + 1)).map (fun i=>q (b + i))=((List.range m).map fun i=>q (b + i)) ++ q (b + m) :: [q (b + m + 1)]:=by
    rw [List.range_succ,List.range_succ,List.map_append,List.map_append,List.append_assoc]; rfl
   have e2:(List.range (m + 1)).map (fun i=>q (b + i))=((List.range m).map fun i=>q (b + i)) ++ [q (b + m)]:=by rw [List.range_succ,List.map_append]; rfl
   rw [this,← List.cons_append,Zc8,List.cons_append,← e2]
   exact ⟨ih,by simpa [chP] using h2 _⟩
 unfold prt
 rw [ZhE,show e + 1 - b=(e - b) + 1 by omega]
 have e2:(List.range (e - b + 1)).map (fun i=>q (b + i))=((List.range (e - b)).map fun i=>q (b + i)) ++ [q e]:=by
  rw [List.range_succ,List.map_append]
  show _ ++ [q (b + (e - b))]=_
  rw [show b + (e - b)=e by omega]
 have p:=path (e - b)
 rw [e2] at p ⊢
 rw [List.cons_append,List.append_assoc]
 show chP P (((0,0) :: (List.range (e - b)).map fun i=>q (b + i)) ++ q e :: [(0,0)])
 rw [Zc8]
 exact ⟨p,by simpa [chP] using h3⟩
theorem Ze0 {a b:F2} (h:0 < crz a b):Zbe (a,b):=by
 unfold Zbe stE
 dsimp only
 by_cases z:b.1 - a.1=0
 ·refine .inr fun w=>?_
  have e1:b.1=a.1:=by omega
  have e2:b.2=a.2:=by omega
  unfold crz at h
  rw [e1,e2,Int.mul_comm] at h
  omega
 ·exact .inl z
section
variable {fa:Int} {ps:List F2} (sr:SrR fa ps)
include sr
theorem SrR.o1 (j:Nat):Zbe ((0,0),rnd ps j):=by
 have:=sr.nz _ (ZhY (by have:=sr.l3; omega) j)
 unfold Zbe stE
 dsimp only
 omega
theorem SrR.o2 (j:Nat):Zbe (rnd ps j,(0,0)):=by
 have:=sr.nz _ (ZhY (by have:=sr.l3; omega) j)
 unfold Zbe stE
 dsimp only
 omega
theorem SrR.prt (f1:1≤fa) {b e:Nat} (h:b < e) (l:e + 2 - b≤24):Rg3 (5 * fa) (prt (rnd ps) b e):=by
 have len:(Cut.prt (rnd ps) b e).length=e + 2 - b:=by unfold Cut.prt; simp; omega
 refine ⟨Znu (by omega) (sr.o1 b) (fun j=>Ze0 (sr.crs j)) (sr.o2 e),by rw [len]; omega,by rw [len]; omega,fun p hp=>?_⟩
 rcases Zni hp with rfl | ⟨j,rfl⟩
 ·dsimp only; omega
 ·exact sr.le _ (ZhY (by have:=sr.l3; omega) j)
theorem SrR.area {b e:Nat} (h:b < e):0 < tw (Cut.prt (rnd ps) b e):=by
 rw [Zfr,Zdq wA _ (by omega)]
 have z1:wA ((0,0),rnd ps b)=0:=by unfold wA crz; simp
 have z2:wA (rnd ps e,(0,0))=0:=by unfold wA crz; simp
 rw [z1,z2]
 have pos:∀ m,0≤cS wA (rnd ps) b m∧(1≤m→0 < cS wA (rnd ps) b m):=by
  intro m
  induction m with
  | zero=>exact ⟨Int.le_refl _,fun z=>by omega⟩
  | succ m ih =>
   have c:=sr.crs (b + m)
   rw [cS]
   have:wA (rnd ps (b + m),rnd ps (b + m + 1))=crz (rnd ps (b + m)) (rnd ps (b + m + 1)):=rfl
   omega
 have:=(pos (e - b)).2 (by omega)
 omega
end
def MvA (fa:Int) (r m:List F2):Prop:=∃ x y:Int,∃ t:Nat,0≤x∧x≤130 * fa ∧ -(50 * fa)≤y∧y≤50 * fa∧m=(r.drop t ++ r.take t).map (mv2 1 x y)
inductive MvAs (fa:Int):RR→RR→Prop
 | nil:MvAs fa [] []
 | snoc {rs ms:RR} {r m:List F2}:MvAs fa rs ms→MvA fa r m→MvAs fa (rs ++ [r]) (ms ++ [m])
structure Prs (fa:Int) (ps:List F2) (qs:RR):Prop where
 rg:∀ q∈qs,Rg3 (140 * fa) q
 l2:2≤qs.length
 l4:qs.length≤4
 l24:(qs.map List.length).sum≤24
 pos:∀ q∈qs,0 < tw q
 mks:∀ d,smR qs d=smR [ps] d
 ar:(qs.map tw).sum=tw ps
theorem Zjv {fa:Int} {ps:List F2} {cs:List Nat} (sr:SrR fa ps) (f1:1≤fa) (ok:CtsOk ps.length cs) :
  (∀ q∈prts ps cs,Rg3 (5 * fa) q∧0 < tw q)∧(prts ps cs).length=cs.length∧((prts ps cs).map List.length).sum≤24∧(∀ d,smR (prts ps cs) d=smR [ps] d)∧((prts ps cs).map tw).sum=tw ps:=by
 have l16:=sr.l16
 have len:∀ {b e:Nat},b < e→(Cut.prt (rnd ps) b e).length=e + 2 - b:=fun {b e} h=>by unfold Cut.prt; simp; omega
 refine ⟨?_,by unfold prts; simp,?_,fun d=>?_,?_⟩
 ·refine CtsOk.ind (P:=fun cs=>∀ q∈prts ps cs,Rg3 (5 * fa) q∧0 < tw q) (fun a b h1 h2=>?_) (fun a b c h1 h2 h3=>?_) (fun a b c d h1 h2 h3 h4=>?_) ok
  ·rw [Znm]
   simp only [List.mem_cons,List.not_mem_nil,or_false,forall_eq_or_imp,forall_eq]
   exact ⟨⟨sr.prt f1 (by omega) (by omega),sr.area (by omega)⟩,⟨sr.prt f1 (by omega) (by omega),sr.area (by omega)⟩⟩
  ·rw [ZlX]
   simp only [List.mem_cons,List.not_mem_nil,or_false,forall_eq_or_imp,forall_eq]
   exact ⟨⟨sr.prt f1 (by omega) (by omega),sr.area (by omega)⟩,⟨sr.prt f1 (by omega) (by omega),sr.area (by omega)⟩,⟨sr.prt f1 (by omega) (by omega),sr.area (by omega)⟩⟩
  ·rw [ZmQ]
   simp only [List.mem_cons,List.not_mem_nil,or_false,forall_eq_or_imp,forall_eq]
   exact ⟨⟨sr.prt f1 (by omega) (by omega),sr.area (by omega)⟩,⟨sr.prt f1 (by omega) (by omega),sr.area (by omega)⟩,⟨sr.prt f1 (by omega) (by omega),sr.area (by omega)⟩,⟨sr.prt f1 (by omega) (by omega),sr.area (by omega)⟩⟩
 ·refine CtsOk.ind (P:=fun cs=>((prts ps cs).map List.length).sum≤24) (fun a b h1 h2=>?_) (fun a b c h1 h2 h3=>?_) (fun a b c d h1 h2 h3 h4=>?_) ok
  ·rw [Znm]
   simp only [List.map_cons,List.map_nil,List.sum_cons,List.sum_nil]
   rw [len (by omega),len (by omega)]; omega
  ·rw [ZlX]
   simp only [List.map_cons,List.map_nil,List.sum_cons,List.sum_nil]
   rw [len (by omega),len (by omega),len (by omega)]; omega
  ·rw [ZmQ]
   simp only [List.map_cons,List.map_nil,List.sum_cons,List.sum_nil]
   rw [len (by omega),len (by omega),len (by omega),len (by omega)]; omega
 ·rw [Zlt,Zlt,Zk3 (wD d) ok fun j=>ZmE d (sr.o1 j)]
  simp
 ·have e:=Zk3 wA ok fun j=>ZmV (rnd ps j)
  rw [← Zfr] at e
  rw [← e]
  congr 1
  exact List.map_congr_left fun r _=>Zfr r
theorem Zfu {fa:Int} {rs ms:RR} (h:MvAs fa rs ms):ms.length=rs.length:=by
 induction h with
 | nil=>rfl
 | snoc _ _ ih=>simp [ih]
theorem mv_one {fa:Int} (f1:1≤fa) {r m:List F2} (h:MvA fa r m) (rg:Rg3 (5 * fa) r):Rg3 (140 * fa) m∧m.length=r.length∧tw m=tw r∧∀ d,sW (wD d) (sds m)=sW (wD d) (sds r):=by
 obtain ⟨x,y,t,x0,x1,y0,y1,rfl⟩:=h
 have pm:(r.drop t ++ r.take t).Perm r:=by
  refine List.perm_append_comm.trans ?_
  rw [List.take_append_drop]
 have rs:∀ W,sW W (sds (r.drop t ++ r.take t))=sW W (sds r):=fun W=>by rw [rot_S,List.take_append_drop]
 have ns:∀ e∈sds (r.drop t ++ r.take t),Zbe e:=Zmp _ _ (by rw [List.take_append_drop]; exact rg.ns)
 have len:((r.drop t ++ r.take t).map (mv2 1 x y)).length=r.length:=by rw [List.length_map,pm.length_eq]
 refine ⟨⟨ns_mv x y (by decide) ns,by rw [len]; exact rg.l3,by rw [len]; exact rg.l24,fun p hp=>?_⟩,len,?_,fun d=>?_⟩
 ·obtain ⟨p',hp',rfl⟩:=List.mem_map.mp hp
  have:=rg.le p' (pm.mem_iff.mp hp')
  unfold mv2
  dsimp only
  omega
 ·rw [tw_mv 1 x y (by decide),Zfr,rs,← Zfr]
 ·rw [wD_mv,rs]
theorem Zna {fa:Int} (f1:1≤fa) {rs ms:RR} (h:MvAs fa rs ms):(∀ q∈rs,Rg3 (5 * fa) q∧0 < tw q)→(∀ q∈ms,Rg3 (140 * fa) q∧0 < tw q)∧ms.map List.length=rs.map List.length∧ms.map tw=rs.map tw∧∀ d,smR ms d=smR rs d:=by
 induction h with
 | nil=>exact fun _=>⟨fun q hq=>by simp at hq,rfl,rfl,fun _=>rfl⟩
 | @snoc rs ms r m _ hm ih =>
  intro hr
  obtain ⟨i1,i2,i3,i4⟩:=ih fun q hq=>hr q (List.mem_append_left _ hq)
  obtain ⟨g1,g2⟩:=hr r (by simp)
  obtain ⟨m1,m2,m3,m4⟩:=mv_one f1 hm g1
  refine ⟨fun q hq=>?_,by simp [i2,m2],by simp [i3,m3],fun d=>?_⟩
  ·rcases List.mem_append.mp hq with z | z
   ·exact i1 q z
   ·rw [List.mem_singleton.mp z]; exact ⟨m1,by rw [m3]; exact g2⟩
  ·rw [Zc4,Zc4,i4,Zgw,Zgw,m4]
theorem Zi7 {α:Type} (f:α→Int) (l:List α) (i:Nat):((l.drop i ++ l.take i).map f).sum=(l.map f).sum:=by
 rw [List.map_append,List.sum_append,Int.add_comm,← List.sum_append,← List.map_append,List.take_append_drop]
theorem ZjW {α:Type} (f:α→Nat) (l:List α) (i:Nat):((l.drop i ++ l.take i).map f).sum=(l.map f).sum:=by
 rw [List.map_append,List.sum_append,Nat.add_comm,← List.sum_append,← List.map_append,List.take_append_drop]
theorem prs_of {fa:Int} {ps:List F2} {cs:List Nat} {ms:RR} (sr:SrR fa ps) (f1:1≤fa) (ok:CtsOk ps.length cs) (mv:MvAs fa (prts ps cs) ms) (i:Nat):Prs fa ps (ms.drop i ++ ms.take i):=by
 obtain ⟨p1,p2,p3,p4,p5⟩:=Zjv sr f1 ok
 obtain ⟨m1,m2,m3,m4⟩:=Zna f1 mv p1
 have ml:=Zfu mv
 have pm:(ms.drop i ++ ms.take i).Perm ms:=by
  refine List.perm_append_comm.trans ?_
  rw [List.take_append_drop]
 refine ⟨fun q hq=>(m1 q (pm.mem_iff.mp hq)).1,by rw [pm.length_eq,ml,p2]; exact ok.l2,by rw [pm.length_eq,ml,p2]; exact ok.l4,?_,fun q hq=>(m1 q (pm.mem_iff.mp hq)).2,fun d=>?_,?_⟩
 ·rw [ZjW,m2]; exact p3
 ·rw [← p4,← m4]
  exact Zi7 (fun r=>smD d (sds r)) ms i
 ·rw [Zi7,m3]; exact p5
theorem Prs.bent {fa:Int} {ps:List F2} {q:List F2} {qs:RR} (f1:1≤fa) (f2:fa≤1000000) (h:Prs fa ps (q :: qs)):RgsW 20000000000 (qs ++ [q.map (mv2 (-1) 0 (-(400 * fa)))])∧((qs ++ [q.map (mv2 (-1) 0 (-(400 * fa)))]).map tw).sum=tw ps:=by
 have l4:=h.l4
 have l24:=h.l24
 simp at l4 l24
 have rq:=h.rg q List.mem_cons_self
 refine ⟨⟨fun r hr=>?_,by simp; omega,by simp; omega⟩,?_⟩
 ·rcases List.mem_append.mp hr with z | z
  ·have:=h.rg r (List.mem_cons_of_mem _ z)
   exact ⟨this.ns,this.l3,this.l24,fun p hp=>by have:=this.le p hp; omega⟩
  ·rw [List.mem_singleton.mp z]
   refine ⟨ns_mv _ _ (by decide) rq.ns,by rw [List.length_map]; exact rq.l3,by rw [List.length_map]; exact rq.l24,fun p hp=>?_⟩
   obtain ⟨p',hp',rfl⟩:=List.mem_map.mp hp
   have:=rq.le p' hp'
   unfold mv2
   dsimp only
   omega
 ·rw [List.map_append,List.sum_append]
  have a:=h.ar
  simp only [List.map_cons,List.sum_cons,List.map_nil,List.sum_nil] at a ⊢
  rw [tw_mv _ _ _ (by decide)]
  omega
theorem Prs.rgs {fa:Int} {ps:List F2} {qs:RR} (f2:fa≤1000000) (h:Prs fa ps qs):RgsW 20000000000 qs:=⟨fun r hr=>by
 have:=h.rg r hr
 exact ⟨this.ns,this.l3,this.l24,fun p hp=>by have:=this.le p hp; omega⟩,by have:=h.l4; omega,h.l24⟩
theorem Prs.fewer {fa:Int} {ps:List F2} {q:List F2} {qs:RR} (f2:fa≤1000000) (h:Prs fa ps (q :: qs)):RgsW 20000000000 qs∧(qs.map tw).sum≠tw ps:=by
 have r:=h.rgs f2
 have l8:=r.l8
 have l24:=r.l24
 simp at l8 l24
 refine ⟨⟨fun x hx=>r.rg x (List.mem_cons_of_mem _ hx),by omega,by omega⟩,fun z=>?_⟩
 have a:=h.ar
 have p:=h.pos q List.mem_cons_self
 simp only [List.map_cons,List.sum_cons] at a
 omega
theorem SrR.rgs {fa:Int} {ps:List F2} (sr:SrR fa ps) (f1:1≤fa) (f2:fa≤1000000):RgsW 20000000000 [ps]:=by
 have l16:=sr.l16
 refine ⟨fun r hr=>?_,by simp,by simp; omega⟩
 rw [List.mem_singleton.mp hr]
 refine ⟨fun e he=>?_,sr.l3,by omega,fun p hp=>by have:=sr.le p hp; omega⟩
 rw [Zh0] at he
 obtain ⟨i,hi,rfl⟩:=List.mem_map.mp he
 have:=sr.crs i
 unfold rnd at this
 rw [Nat.mod_eq_of_lt (List.mem_range.mp hi)] at this
 exact Ze0 this
theorem ZfW {a b n:Int} (hn:0 < n) (h:nrat a n=nrat b n):a=b:=by
 obtain ⟨⟨p1,_⟩,e1,_⟩:=Zaw (t:=a) (b:=n) (Int.ne_of_gt hn)
 obtain ⟨_,e2,_⟩:=Zaw (t:=b) (b:=n) (Int.ne_of_gt hn)
 rw [h] at e1
 rw [h] at p1
 have:a * (nrat b n).2=b * (nrat b n).2:=by rw [← e1,← e2]
 exact Int.eq_of_mul_eq_mul_right (by omega) this
def dN (c:Nat):D:=.int (c:Int)
theorem back_N {cs:List Nat} {i:Nat} (h:i < cs.length):atI (cs.map dN) ((i:Int) - 1)=some (dN (cs.getD ((i + cs.length - 1) % cs.length) 0))∧atI (cs.map dN) (i:Int)=some (dN (cs.getD i 0)):=by
 have at_:∀ j,j < cs.length→(cs.map dN)[j]?=some (dN (cs.getD j 0)):=fun j hj=>by simp [hj]
 constructor
 ·unfold atI ixN
  rw [List.length_map]
  cases i with
  | zero =>
   rw [if_neg (by omega),if_pos (by omega)]
   show (cs.map dN)[_]?=_
   rw [show ((0:Nat):Int) - 1 + (cs.length:Int)=((cs.length - 1:Nat):Int) by omega,Int.toNat_natCast,at_ _ (by omega),Nat.zero_add,Nat.mod_eq_of_lt (show cs.length - 1 < cs.length by omega)]
  | succ j =>
   rw [if_pos (by omega),if_pos (by omega)]
   show (cs.map dN)[_]?=_
   rw [show ((j + 1:Nat):Int) - 1=(j:Int) by omega,Int.toNat_natCast,at_ _ (by omega),show j + 1 + cs.length - 1=j + cs.length by omega,Nat.add_mod_right,Nat.mod_eq_of_lt (show j < cs.length by omega)]
 ·unfold atI ixN
  rw [List.length_map,if_pos (by omega),if_pos (by omega)]
  show (cs.map dN)[_]?=_
  rw [Int.toNat_natCast,at_ _ h]
theorem at_F {ps:List F2} {i:Nat} (h:i < ps.length):atI (ps.map dR) (i:Int)=some (dR (ps.getD i (0,0))):=(Zk4 h).2
theorem Zlj {n:Nat} {cs:List Int} (pw:cs.Pairwise (· < ·)) (rg:∀ c∈cs,0≤c∧c < n) (l2:2≤cs.length) (l4:cs.length≤4):∃ cn:List Nat,cs.map D.int=cn.map dN∧CtsOk n cn:=by
 refine ⟨cs.map Int.toNat,?_,?_,fun c hc=>?_,by rw [List.length_map]; exact l2,by rw [List.length_map]; exact l4⟩
 ·rw [List.map_map]
  refine List.map_congr_left fun c hc=>?_
  have:=rg c hc
  show D.int c=D.int ((c.toNat:Nat):Int)
  rw [show ((c.toNat:Nat):Int)=c by omega]
 ·refine List.pairwise_map.mpr (pw.imp_of_mem fun {a b} ha hb h=>?_)
  have:=rg a ha
  have:=rg b hb
  omega
 ·obtain ⟨x,hx,rfl⟩:=List.mem_map.mp hc
  have:=rg x hx
  omega
theorem ZgS {a b:Int} (ne:a≠b) {ns:List Int} (pm:ns.Perm [a,b]) (le:ns.Pairwise (· ≤ ·)):ns.Pairwise (· < ·)∧ns.length=2:=by
 have nd:ns.Nodup:=pm.nodup_iff.mpr (by simp [ne])
 refine ⟨(List.Pairwise.and le nd).imp fun {x y} ⟨h1,h2⟩=>?_,pm.length_eq⟩
 have h2:x≠y:=h2
 omega
theorem cts_at {n:Nat} {cs:List Nat} (ok:CtsOk n cs) {k:Nat} (hk:k < cs.length):cs.getD ((k + cs.length - 1) % cs.length) 0 < n∧cs.getD k 0 < n∧(cs.getD k 0≤cs.getD ((k + cs.length - 1) % cs.length) 0↔k=0):=by
 have lt:∀ i,i < cs.length→cs.getD i 0 < n:=fun i hi=>by
  have:=ok.lt cs[i] (List.getElem_mem hi)
  simpa [hi] using this
 have l2:=ok.l2
 have mo:∀ i j,i < j→j < cs.length→cs.getD i 0 < cs.getD j 0:=fun i j hij hj=>by
  have:=List.pairwise_iff_getElem.mp ok.pw i j (by omega) hj hij
  simpa [hj,show i < cs.length by omega] using this
 refine ⟨lt _ (Nat.mod_lt _ (by omega)),lt _ hk,?_⟩
 cases k with
 | zero =>
  rw [Nat.zero_add,Nat.mod_eq_of_lt (show cs.length - 1 < cs.length by omega)]
  have:=mo 0 (cs.length - 1) (by omega) (by omega)
  omega
 | succ j =>
  rw [show j + 1 + cs.length - 1=j + cs.length by omega,Nat.add_mod_right,Nat.mod_eq_of_lt (show j < cs.length by omega)]
  have:=mo j (j + 1) (by omega) hk
  omega
theorem ZjV (ps:List F2) (b e:Nat) (h:b≤e):D.lst ([.tup [.int 0,.int 0]] ++ (List.range (((e:Int) + 1) - (b:Int)).toNat).map (fun t=>dR (rnd ps (b + t))))=dF2 (prt (rnd ps) b e):=by
 unfold dF2 prt
 rw [show (((e:Int) + 1) - (b:Int)).toNat=e + 1 - b by omega,List.map_cons,List.map_map]
 rfl
def MkAs (qs:RR) (n:Int):List (List (F2×F2))→Prop:=fun Ls=>∃ zs:List (List F2×List (F2×F2)),zs.map (·.1)=qs∧zs.map (·.2)=Ls∧∀ z∈zs,MkOk (smR [z.1]) n z.2∧z.2.length≤24
def mkS (L:List (F2×F2)) (S:F2→Int) (d:F2):Int:=if d∈L.map (·.1) then S d else 0
theorem ZlR (S:F2→Int) (d:F2):mkS [] S d=0:=by simp [mkS]
theorem Zmx {S:F2→Int} {n:Int} {L:List (F2×F2)} (mk:MkOk S n L) (d:F2):mkS L S d=S d:=by
 unfold mkS
 by_cases z:d∈L.map (·.1)
 ·rw [if_pos z]
 ·rw [if_neg z]
  exact (Decidable.byContradiction fun q=>z ((Zfk mk d).mpr fun w=>q w.symm))
theorem Zic {S:F2→Int} {pre rest:List (F2×F2)} {x:F2×F2} {L:List (F2×F2)} (e:L=pre ++ x :: rest) (pw:L.Pairwise fun a b=>lexI [a.1.1,a.1.2] [b.1.1,b.1.2]=true) (d:F2):mkS (pre ++ [x]) S d=if d=x.1 then S d else mkS pre S d:=by
 unfold mkS
 by_cases z:d=x.1
 ·rw [if_pos z,if_pos (by simp [z])]
 ·rw [if_neg z]
  have:d∈(pre ++ [x]).map (·.1)↔d∈pre.map (·.1):=by simp [z]
  simp only [this]
theorem Zmk {S:F2→Int} {pre rest:List (F2×F2)} {x:F2×F2} {L:List (F2×F2)} (e:L=pre ++ x :: rest) (pw:L.Pairwise fun a b=>lexI [a.1.1,a.1.2] [b.1.1,b.1.2]=true):mkS pre S x.1=0:=by
 unfold mkS
 rw [if_neg]
 intro m
 obtain ⟨y,hy,ey⟩:=List.mem_map.mp m
 rw [e] at pw
 have:=(List.pairwise_append.mp pw).2.2 y hy x (by simp)
 rw [ey,ZaH] at this
 cases this
theorem Ziw (r:List F2) (d:F2):smR [r] d=smD d (sds r):=by simp [smR]
theorem ZkU {rs:RR} (ok:RgsW 20000000000 rs) (d:F2) : -960000000000≤smR rs d∧smR rs d≤960000000000:=by
 have le:∀ r∈rs,∀ e∈sds r,-40000000000≤parE e∧parE e≤40000000000:=fun r hr e he=>by
  have rg:=ok.rg r hr
  obtain ⟨h1,h2⟩:=List.of_mem_zip he
  have m2:e.2∈r:=by
   rcases List.mem_append.mp h2 with h | h
   ·exact List.mem_of_mem_drop h
   ·exact List.mem_of_mem_take h
  obtain ⟨p1,p2,p3,p4⟩:=rg.le _ h1
  obtain ⟨q1,q2,q3,q4⟩:=rg.le _ m2
  exact ZiD (rg.ns e he) (by show _≤e.2.1 - e.1.1; omega) (by show e.2.1 - e.1.1≤_; omega) (by show _≤e.2.2 - e.1.2; omega) (by show e.2.2 - e.1.2≤_; omega)
 have h:=ZlH (rs:=rs) (M:=40000000000) (d:=d) (by decide) le
 have:=ok.l24
 have:(((rs.map List.length).sum:Nat):Int)≤24:=by omega
 omega
theorem ZhZ {rs qs:RR} {n:Int} {t:Bool} {r:Option F2} (ea:arN rs n=arN qs n) (es:∀ d,smR rs d=smR qs d) (h:FbR rs qs n n t r):fbD rs qs n n t r=.non:=by
 unfold fbD
 rw [if_pos ea]
 cases t with
 | true=>rfl
 | false =>
  have:=h ea rfl
  cases r with
  | none=>rfl
  | some d=>exact absurd (by rw [es d]) this.1
theorem ar_of {rs qs:RR} {n:Int} (e:(rs.map tw).sum=(qs.map tw).sum):arN rs n=arN qs n:=by unfold arN; rw [e]
theorem ar_ne {rs qs:RR} {n:Int} (hn:0 < n) (e:(rs.map tw).sum≠(qs.map tw).sum):arN rs n≠arN qs n:=fun z=>e (ZfW (Int.mul_pos (by omega) hn) z)
theorem Zi5 {S S':F2→Int} {n:Int} {L L':List (F2×F2)} {r:Option F2} (hn:0 < n) (mk:MkOk S n L) (mk':MkOk S' n L') (h:ZdA S n S' n r):L=L'↔r=none:=by
 constructor
 ·intro e
  subst e
  cases r with
  | none=>rfl
  | some d =>
   refine absurd ?_ h.1
   have a:=Zek hn mk d
   have b:=Zek hn mk' d
   rw [a] at b
   exact ZdC b
 ·rintro rfl
  have e:∀ d,S' d=S d:=fun d=>ZfW hn (h d).symm
  exact mk.uniq (mk'.same fun d=>(e d).symm)
theorem RgsW.sub {m:Int} {qs pre rest:RR} {r:List F2} (h:RgsW m qs) (e:qs=pre ++ r :: rest):RgsW m pre∧RgsW m [r]:=by
 have l8:=h.l8
 have l24:=h.l24
 rw [e] at l8 l24
 simp at l8 l24
 exact ⟨⟨fun x hx=>h.rg x (by rw [e]; simp [hx]),by omega,by omega⟩,⟨fun x hx=>h.rg x (by rw [e,List.mem_singleton.mp hx]; simp),by simp,by simp; omega⟩⟩
theorem Zju {α:Type} [DecidableEq α]:∀ {l m:List α},l.Nodup→(∀ x∈l,x∈m)→l.length≤m.length
 | [],_,_,_=>Nat.zero_le _
 | a :: l,m,nd,h=>by
  obtain ⟨n1,n2⟩:=List.nodup_cons.mp nd
  have ha:=h a List.mem_cons_self
  have:=Zju (l:=l) (m:=m.erase a) n2 fun x hx=>(List.mem_erase_of_ne (show x≠a from fun z=>n1 (by rw [← z]; exact hx))).mpr (h x (List.mem_cons_of_mem _ hx))
  rw [List.length_erase_of_mem ha] at this
  have:=List.length_pos_of_mem ha
  simp
  omega
theorem ZhF {d:F2}:∀ {es:List (F2×F2)},smD d es≠0→d∈es.map dirE
 | [],h=>absurd rfl h
 | e :: es,h=>by
  rw [smD] at h
  by_cases z:dirE e=d
  ·simp [z]
  ·rw [if_neg z,Int.zero_add] at h
   exact List.mem_cons_of_mem _ (ZhF h)
theorem mk_len {r:List F2} {n:Int} {L:List (F2×F2)} (mk:MkOk (smR [r]) n L):L.length≤r.length:=by
 have nd:(L.map (·.1)).Nodup:=List.pairwise_map.mpr (mk.pw.imp fun {a b} h z=>by
  rw [z,ZaH] at h
  cases h)
 have:=Zju nd (m:=(sds r).map dirE) fun d hd=>ZhF (by rw [← Ziw]; exact (Zfk mk d).mp hd)
 rw [List.length_map,List.length_map] at this
 refine Nat.le_trans this ?_
 unfold sds
 rw [List.length_zip]
 omega
theorem ZfA {α:Type} (F:F2→α) (d:F2):∀ ds:List F2,lkA (ds.map kD) (ds.map F) (kD d)=if d∈ds then some (F d) else none
 | []=>by simp [lkA]
 | x :: ds=>by
  have ih:=ZfA F d ds
  rw [List.map_cons,List.map_cons,lkA]
  by_cases z:x=d
  ·rw [if_pos (by rw [z]),if_pos (by rw [z]; exact List.mem_cons_self),z]
  ·rw [if_neg (fun q=>z (Zcq q)),ih]
   by_cases y:d∈ds
   ·rw [if_pos y,if_pos (List.mem_cons_of_mem _ y)]
   ·rw [if_neg y,if_neg]
    intro q
    rcases List.mem_cons.mp q with q | q
    ·exact z q.symm
    ·exact y q
theorem dc_int {ks:List (List (List Int))} {vs:List F2} {S:F2→Int} {n:Int} (hn:0 < n) (h:DcOk ks vs (0,1) fun d=>nrat (S d) n):∃ vi:List Int,DcOk ks vi 0 S:=by
 obtain ⟨ds,e1,e2⟩:=Zfv (V:=fun d=>nrat (S d) n) h.nd h.len h.ky fun d hd=>Zen h hd
 refine ⟨ds.map S,h.nd,by rw [e1,List.length_map,List.length_map],h.ky,fun d=>?_⟩
 have z:=h.at_ d
 rw [e1,e2,ZfA (fun d=>nrat (S d) n)] at z
 rw [e1,ZfA S]
 by_cases m:d∈ds
 ·rw [if_pos m]; rfl
 ·rw [if_neg m] at z ⊢
  exact ((Zbj hn).mp z.symm).symm
theorem ZkB {s n:Int} (hn:0 < n):(nrat s n).1=0↔s=0:=by
 obtain ⟨⟨p1,_⟩,e1,_⟩:=Zaw (t:=s) (b:=n) (Int.ne_of_gt hn)
 constructor
 ·intro z
  rw [z,Int.zero_mul] at e1
  exact (Int.mul_eq_zero.mp e1.symm).resolve_right (by omega)
 ·intro z
  subst z
  rw [Int.zero_mul] at e1
  exact (Int.mul_eq_zero.mp e1).resolve_right (by omega)
theorem ZeN {α β:Type} {f:α→D} {g:β→D} {R:α→β→Prop} {u:UE} {fs:List Sl}:∀ {rs:List α} {v0:Sl} {k:List D→Prop},(∀ r∈rs,∀ k:D→Prop,(∀ b,R r b→k (g b))→u (.val (f r) :: fs) k)→(∀ zs:List (α×β),zs.map (·.1)=rs→(∀ z∈zs,R z.1 z.2)→k ((zs.map (·.2)).map g))→Za8 (Zay 0) Zbd u (rs.map f) (v0 :: fs) k
 | [],_,_,_,hk=>hk [] rfl (fun _ h=>by simp at h)
 | r :: rs,v0,k,h,hk=>by
  show (if true=true then u (.val (f r) :: fs) fun y=>Za8 (Zay 0) Zbd u (rs.map f) (.val (f r) :: fs) fun ys=>k (y :: ys) else Za8 (Zay 0) Zbd u (rs.map f) (.val (f r) :: fs) k)
  rw [if_pos rfl]
  refine h r List.mem_cons_self _ fun b hb=>ZeN (fun r' hr=>h r' (List.mem_cons_of_mem _ hr)) fun zs e hz=>?_
  exact hk ((r,b) :: zs) (by simp [e]) fun q hq=>by
   rcases List.mem_cons.mp hq with rfl | hq
   ·exact hb
   ·exact hz q hq
structure Blts (mg:Str→Option Value):Prop where
 len_:mg "len" = none
 abs_:mg "abs" = none
 int_:mg "int" = none
 bool_:mg "bool" = none
 tuple_:mg "tuple" = none
 isinstance_:mg "isinstance" = none
 range_:mg "range" = none
 all_:mg "all" = none
 sum_:mg "sum" = none
 list_:mg "list" = none
 ValueError_:mg "ValueError" = none
 zip_:mg "zip" = none
 str_:mg "str" = none
 enumerate_:mg "enumerate" = none
 set_:mg "set" = none
 max_:mg "max" = none
 min_:mg "min" = none
 sorted_:mg "sorted" = none
 dict_:mg "dict" = none
local macro_rules | `(tactic| walk_at "bu") => `(tactic| first | assumption | exact intBits_sub_le (by walk_at "bu") (by walk_at "bu") | exact intBits_add_le (by walk_at "bu") (by walk_at "bu") | exact intBits_mul_le (by walk_at "bu") (by walk_at "bu") | exact intBits_neg_le (by walk_at "bu") | exact intBits_fdiv_le (by walk_at "bu") | exact ZaC (by omega) (by omega) | fail)
local macro_rules | `(tactic| walk_at "bits") => `(tactic| ((with_reducible show intBits _ ≤ _); first | assumption | exact Nat.le_trans (ZaC (by omega) (by omega)) (by decide) | decide +kernel | exact Nat.le_trans (by walk_at "bu") (by first | omega | decide) | fail))
local macro_rules | `(tactic| walk_at "sd") => `(tactic| first | ((with_reducible show intBits _ ≤ _); walk_at "bits") | ((with_reducible show Zie _ _); exact ⟨by walk_at "bits", by walk_at "bits"⟩) | ((with_reducible show Zm5 _ _); exact ⟨by omega, by walk_at "bits"⟩) | ((with_reducible show (_ : Int) < _); first | omega | decide +kernel) | ((with_reducible show (_ : Int) ≤ _); first | omega | decide +kernel) | ((with_reducible show CPow _ _); exact ⟨by decide, by decide, by decide⟩) | ((with_reducible show List.length _ ≤ sizeLine); first | (show 2 ≤ sizeLine; decide) | (show 3 ≤ sizeLine; decide) | (show 1 ≤ sizeLine; decide) | (show 0 ≤ sizeLine; decide) | (show 4 ≤ sizeLine; decide)) | fail)
local macro_rules | `(tactic| walk_at "w1") => `(tactic| first | refine ⟨_, rfl, ?_⟩ | refine ⟨_, _, rfl, rfl, ?_⟩ | refine ⟨_, _, rfl, rfl, by walk_at "sd", ?_⟩ | refine ⟨_, _, _, .inl rfl, rfl, rfl, ?_⟩ | refine ⟨_, _, _, .inr rfl, rfl, rfl, ?_⟩ | refine ⟨_, _, rfl, fun _ => rfl, ?_⟩ | refine ⟨by walk_at "sd", ?_⟩ | refine ⟨rfl, ?_⟩)
local macro_rules | `(tactic| walk_at "w") => `(tactic| repeat walk_at "w1")
local macro_rules | `(tactic| walk_at "wd") => `(tactic| (walk_at "w"; try dsimp only [fzR]))
local macro_rules | `(tactic| walk_at "it") => `(tactic| first | exact .inl (by assumption) | exact .inr (by assumption))
local macro_rules | `(tactic| walk_at "r0") => `(tactic| repeat (first | refine ⟨_, rfl, ?_⟩ | refine ⟨_, _, rfl, rfl, ?_⟩ | refine ⟨_, _, _, _, rfl, rfl, by walk_at "it", rfl, ?_⟩ | refine ⟨by walk_at "sd", ?_⟩))
local macro_rules | `(tactic| walk_at "rd") => `(tactic| (walk_at "r0"; try dsimp only))
local macro_rules | `(tactic| walk_at "fall") => `(tactic| first | exact List.forall_mem_cons.mpr ⟨rfl, by walk_at "fall"⟩ | exact List.forall_mem_nil _)
local macro_rules | `(tactic| walk_at "fal2") => `(tactic| first | exact List.forall_mem_nil _ | exact List.forall_mem_cons.mpr ⟨fun h => absurd h (by decide), by walk_at "fal2"⟩ | exact List.forall_mem_cons.mpr ⟨fun _ => ⟨_, rfl⟩, by walk_at "fal2"⟩)
local macro_rules | `(tactic| walk_at "fsub") => `(tactic| exact Za2 (by walk_at "fall"))
local macro_rules | `(tactic| walk_at "fhas") => `(tactic| exact fhas_of (by walk_at "fal2"))
local macro_rules | `(tactic| walk_at "ffr") => `(tactic| (intro i y e; rcases i with _ | _ | _ | _ | _ | i <;> first | (cases e; done) | (cases e; exact ⟨_, rfl, rfl, rfl, Or.inl rfl, _, rfl⟩)))
variable {P:Program} {w:World} {K:PySem.W.Frag} {mg:Str→Option Value} {base:Heap}
theorem Zfj:FnScope ["_law_script", "_law_k"] ["_law_script", "_law_k"] (Zad Zb7):=⟨rfl,rfl,rfl,by decide +kernel,rfl,by decide +kernel,by decide +kernel⟩
theorem ZfH (B:Blts mg) (F:Fnd K mg "_law_cell" Zb7 ["_law_script", "_law_k"]) :
  Cal P w K mg base "_law_cell" ["_law_script", "_law_k"] 1 (Con K 2 Zid):=by
 refine Cal.imp (sp:=ZlA K) ?_ (fun vs H Q E h=>ZjO h)
 refine F.ok (k:=0) Zfj (fun vs H Q E h=>?_) (fun f cdv A outer s H vs Q E hr h=>?_)
 ·obtain ⟨a,k,ns,rfl,hS,h0,q⟩:=h
  rfl
 obtain ⟨a,k,ns,rfl,hS,h0,q⟩:=h
 refine ⟨_,(Za7 (Zj2 (ZbC Zej (pv 1) (Zbv Zct (by rfl) B.len_ (by decide +kernel) (Zau (pv 0) ZaR)) (Zaq _)) (ZbJ (Zcs (Zee ZhQ (pv 0) (pv 1) (fun _ _=>rfl)))) Zes) (ZbJ (Zcs Zar))),?_⟩
 refine ⟨_,rfl,_,rfl,a,_,rfl,.inl hS,_,_,rfl,rfl,_,rfl,?_⟩
 refine iteD (fun c=>?_) (fun c=>?_)
 ·rw [List.length_map] at c
  have hk:k.toNat < ns.length:=by omega
  have ek:k=((k.toNat:Nat):Int):=by omega
  have z:atI (ns.map V.int) ((k.toNat:Nat):Int)=some (.int ns[k.toNat]):=ZmA (by rw [List.getElem?_map,List.getElem?_eq_getElem hk] <;> rfl)
  rw [← ek] at z
  exact ⟨_,rfl,_,rfl,a,_,_,_,rfl,rfl,hS,z,q _⟩
 ·exact q _
theorem Zhb:FnScope ["_law_cell_here"] ["_law_cell_here"] (Zad ZcV):=⟨rfl,rfl,rfl,by decide +kernel,rfl,by decide +kernel,by decide +kernel⟩
theorem Zm8 (B:Blts mg) (F:Fnd K mg "_law_bag" ZcV ["_law_cell_here"]) :
  Cal P w K mg base "_law_bag" ["_law_cell_here"] 1 (Con K 1 ZmT):=by
 refine Cal.imp (sp:=spBag) ?_ (fun vs H Q E h=>ZmB h)
 refine F.ok (k:=0) Zhb (fun vs H Q E h=>?_) (fun f cdv A outer s H vs Q E hr h=>?_)
 ·obtain ⟨c,rfl,q⟩:=h
  rfl
 obtain ⟨c,rfl,q⟩:=h
 refine ⟨_,(Za7 (Zj2 (ZbC op_ge (pv 0) (ZaO Zgb Zar Zar) (Zaq _)) (ZbJ (Zcs (ZhS (Zau (ZaO ZbY (pv 0) (ZaO Zdd (ZaO Zgb Zar Zar) (ZaO Zgb Zar Zar))) (Zau (ZaO ZbY (pv 0) Zar) ZaR))))) Zes) (ZbJ (Zcs (ZhS (Zau Zar (Zau (ZaO ZbY (ZaO Zf1 (ZaO Zdd (ZaO ZbY (pv 0) Zar) Zar) Zar) Zar) ZaR)))))),?_⟩
 walk_at "rd"
 refine iteD (fun g=>?_) (fun g=>?_)
 ·walk_at "rd"
  refine (fun p hp=>q p _ _ hp (Int.emod_nonneg _ (by decide +kernel)) (Int.emod_nonneg _ (by decide)) (Int.emod_lt_of_pos _ (by decide)))
 ·have m0:=Int.emod_nonneg c (show (2147483647:Int)≠0 by decide)
  have m1:=Int.emod_lt_of_pos c (show (0:Int) < 2147483647 by decide)
  walk_at "rd"
  refine (fun p hp=>q p _ _ hp (by decide) (Int.emod_nonneg _ (by decide)) (Int.emod_lt_of_pos _ (by decide)))
theorem sc_law_draw:FnScope ["_law_bag_here", "_law_many", "_law_found"] ["_law_bag_here", "_law_many"] (Zad Zcb):=⟨rfl,rfl,rfl,by decide +kernel,rfl,by decide +kernel,by decide +kernel⟩
theorem Zkc (B:Blts mg) (F:Fnd K mg "_law_draw" Zcb ["_law_bag_here", "_law_many"]) :
  Cal P w K mg base "_law_draw" ["_law_bag_here", "_law_many"] 1 (Con K 2 (ZcJ 400)):=by
 refine Cal.imp (sp:=Zlz 400) ?_ (fun vs H Q E h=>Zkb h)
 refine F.ok (k:=0) sc_law_draw (fun vs H Q E h=>?_) (fun f cdv A outer s H vs Q E hr h=>?_)
 ·obtain ⟨b,m,rfl,⟨x,y,hb,x0,y0,y1⟩,m0,m1,q⟩:=h
  rfl
 obtain ⟨b,m,rfl,⟨x,y,hb,x0,y0,y1⟩,m0,m1,q⟩:=h
 refine ⟨_,(Za7 (Zj2 (ZbC op_ge (Zee Zc6 (pv 0) Zar (fun _ _=>rfl)) (pv 1) (Zaq _)) (Za7 (ZdD (i:=2) sc_law_draw.nd rfl (Or.inl rfl) (ZaO ZbY (Zee Zc6 (pv 0) Zar (fun _ _=>rfl)) (pv 1))) (Za7 (ZfX (ZaO ZcD (Zee Zc6 (pv 0) Zar (fun _ _=>rfl)) (pv 1)) (Zh1 (pv 0) Zar Zea)) (ZbJ (Zcs (pv 2))))) Zes) (Za7 (ZfX Zar (Zh1 (pv 0) Zar Zea)) (Za7 (ZfX (ZaO ZbY (ZaO Zf1 (ZaO Zdd (Zee Zc6 (pv 0) Zar (fun _ _=>rfl)) Zar) Zar) Zar) (Zh1 (pv 0) Zar Zea)) (ZbJ (Zcs (ZaO ZbY (ZaO ZcD (ZaO ZbY (ZaO Zdd (Zee Zc6 (pv 0) Zar (fun _ _=>rfl)) (ZaO Zf1 (ZaO ZcD (Zee Zc6 (pv 0) Zar (fun _ _=>rfl)) Zar) Zar)) Zar) Zar) (pv 1))))))),?_⟩
 walk_at "rd"
 refine iteD (fun g=>?_) (fun g=>?_)
 ·walk_at "rd"
  refine ⟨b,_,_,_,rfl,rfl,hb,rfl,?_⟩
  refine ⟨_,rfl,?_⟩
  refine q _ _ (Ext.upd b H _) ⟨_,_,Zal,?_,y0,y1⟩ (Int.emod_nonneg _ (by omega)) (Int.emod_lt_of_pos _ m0)
  exact Int.fdiv_nonneg x0 (Int.le_of_lt m0)
 ·walk_at "rd"
  refine ⟨b,_,_,_,rfl,rfl,hb,rfl,?_⟩
  have hb1:(upd H b (.lst ([V.int x,V.int y].set (Int.toNat 0) (V.int 0)))) b=some (.lst [.int 0,.int y]):=Zal
  have e1:=Ext.upd b H (.lst ([V.int x,V.int y].set (Int.toNat 0) (V.int 0)))
  generalize upd H b (.lst ([V.int x,V.int y].set (Int.toNat 0) (V.int 0)))=H1 at hb1 e1 ⊢
  have m2:=Int.emod_nonneg (y * 48271 + 4099) (show (2147483647:Int)≠0 by decide)
  have m3:=Int.emod_lt_of_pos (y * 48271 + 4099) (show (0:Int) < 2147483647 by decide)
  walk_at "rd"
  refine ⟨b,_,_,_,rfl,rfl,hb1,rfl,?_⟩
  generalize (y * 48271 + 4099) % 2147483647=z at m2 m3 ⊢
  have hb2:(upd H1 b (.lst ([V.int 0,V.int y].set (Int.toNat 1) (V.int z)))) b=some (.lst [.int 0,.int z]):=Zal
  have k0:=Int.ediv_nonneg m2 (show (0:Int)≤65536 by decide)
  have k1:z / 65536≤z:=Int.ediv_le_self _ m2
  have ek:Int.fdiv z 65536=z / 65536:=Int.fdiv_eq_ediv_of_nonneg z (by decide)
  have kb:intBits (Int.fdiv z 65536 + 7)≤64:=by rw [ek]; exact ZaC (by omega) (by omega)
  walk_at "rd"
  refine q _ _ (e1.trans (Ext.upd b H1 _)) ⟨_,_,hb2,by decide,m2,m3⟩ (Int.emod_nonneg _ (by omega)) (Int.emod_lt_of_pos _ m0)
theorem sc_law_measure:FnScope ["_law_one", "_law_other", "_law_rest"] ["_law_one", "_law_other"] (Zad Zbk):=⟨rfl,rfl,rfl,by decide +kernel,rfl,by decide +kernel,by decide +kernel⟩
def ZaW:FS:=fun as k=>∃ (a b:Int),as=[.val (.int a),.val (.int b)]∧k (.val (.int (Int.gcd a b:Nat)))
theorem Zdo (B:Blts mg)   (F:Fnd K mg "_law_measure" Zbk ["_law_one", "_law_other"])  :
  Cal P w K mg base "_law_measure" ["_law_one", "_law_other"] 2 (Con K 2 ZaW):=by
 refine def3 (lv:=1) F sc_law_measure rfl (fun f cdv A outer s H E hr=>⟨_,(Zab (Zan (i:=0) sc_law_measure.nd rfl (Or.inl rfl) (Zkx (v3 0) (by rfl) B.abs_)) (Zab (Zan (i:=1) sc_law_measure.nd rfl (Or.inl rfl) (Zkx (v3 1) (by rfl) B.abs_)) (Zab (ZiR PassesOwn.never (Zbp (f:=fun i j=>decide (j < i)) op_gt (v3 1) Zac (Zaq _)) (Zab (Zan (i:=2) sc_law_measure.nd rfl (Or.inl rfl) (Zhe (v3 0) (v3 1))) (Zab (Zan (i:=0) sc_law_measure.nd rfl (Or.inl rfl) (v3 1)) (Zam (Zan (i:=1) sc_law_measure.nd rfl (Or.inl rfl) (v3 2)))))) (Zam (ZaF (v3 0)))))),?_⟩)
 rintro as k hl ⟨a,b,rfl,hk⟩
 refine at3 (r:=[.val (.int a),.val (.int b),.no]) rfl ?_
 walk_at "wd"
 refine ⟨fun m ρ=>∃ (x y:Int) (v:Sl),ρ=[.val (.int x),.val (.int y),v]∧0≤x∧0≤y∧Int.gcd x y=Int.gcd a b∧m=y.toNat,⟨_,_,_,_,rfl,?_,?_,ZiZ a b,rfl⟩,?_⟩
 ·split <;> omega
 ·split <;> omega
 rintro m ρ ⟨x,y,v,rfl,x0,y0,hg,rfl⟩
 walk_at "wd"
 refine iteD (fun g=>?_) (fun g=>?_)
 ·walk_at "wd"
  have m0:=Int.emod_nonneg x (show y≠0 by omega)
  have m1:=Int.emod_lt_of_pos x g
  exact ⟨_,by omega,_,_,_,rfl,y0,m0,by rw [Zf4 x0 g]; exact hg,rfl⟩
 ·have e:y=0:=by omega
  subst e
  refine ⟨_,rfl,?_⟩
  rw [← ZbW x0,hg]
  exact hk
theorem sc_law_low:FnScope ["_law_top", "_law_bottom", "_law_often"] ["_law_top", "_law_bottom"] (Zad ZcH):=⟨rfl,rfl,rfl,by decide +kernel,rfl,by decide +kernel,by decide +kernel⟩
def ZgC:FS:=fun as k=>∃ (t b:Int),as=[.val (.int t),.val (.int b)]∧(0 < b)∧(intBits b≤9000)∧k (.val (dR (nrat t b)))
theorem Zmm (B:Blts mg)   (F:Fnd K mg "_law_low" ZcH ["_law_top", "_law_bottom"]) (c_law_measure:Cal P w K mg base "_law_measure" ["_law_one", "_law_other"] 2 (Con K 2 ZaW)) :
  Cal P w K mg base "_law_low" ["_law_top", "_law_bottom"] 3 (Con K 2 ZgC):=by
 refine def3 (lv:=2) F sc_law_low rfl (fun f cdv A outer s H E hr=>⟨_,(Zab (Zan (i:=2) sc_law_low.nd rfl (Or.inl rfl) (Zaf c_law_measure hr (by rfl) (Zae (v3 0) (Zae (v3 1) Zaj)))) (Zab (s_if (Zbp (f:=fun i j=>decide (i < j)) Zej (v3 1) Zac (Zaq _)) (Zam (Zan (i:=2) sc_law_low.nd rfl (Or.inl rfl) (ZdP (v3 2)))) Zbt) (Zam (ZaF (Zax (Zaa (Zav (v3 0) (v3 2)) (Zaa (Zav (v3 1) (v3 2)) Zao))))))),?_⟩)
 rintro as k hl ⟨t,b,rfl,hb,bb,hk⟩
 refine at3 (r:=[.val (.int t),.val (.int b),.no]) rfl ?_
 have gp:=ZbF (t:=t) (b:=b) (by omega)
 have gb:=ZaQ (a:=t) (b:=b) (by omega) bb
 have e:gsg t b=((Int.gcd t b:Nat):Int):=by unfold gsg; rw [if_neg (by omega)]
 have hk:k (.val (.tup [.int (t.fdiv ((Int.gcd t b:Nat):Int)),.int (b.fdiv ((Int.gcd t b:Nat):Int))])):=by
  have h:=hk
  unfold dR nrat at h
  rw [e] at h
  exact h
 walk_at "w"
 refine ⟨_,_,rfl,?_⟩
 dsimp only [fzR]
 walk_at "wd"
 refine iteD (fun g=>absurd g (by omega)) (fun _=>?_)
 walk_at "w"
 exact hk
theorem sc_law_spot:FnScope ["_law_x", "_law_y", "_law_bottom", "_law_often"] ["_law_x", "_law_y", "_law_bottom"] (Zad Zci):=⟨rfl,rfl,rfl,by decide +kernel,rfl,by decide +kernel,by decide +kernel⟩
def ZiY:FS:=fun as k=>∃ (x y n:Int),as=[.val (.int x),.val (.int y),.val (.int n)]∧(0 < n)∧(intBits n≤9000)∧k (.val (dP (npt x y n)))
theorem Zj8 (B:Blts mg)   (F:Fnd K mg "_law_spot" Zci ["_law_x", "_law_y", "_law_bottom"]) (c_law_measure:Cal P w K mg base "_law_measure" ["_law_one", "_law_other"] 2 (Con K 2 ZaW)) :
  Cal P w K mg base "_law_spot" ["_law_x", "_law_y", "_law_bottom"] 3 (Con K 3 ZiY):=by
 refine def3 (lv:=2) F sc_law_spot rfl (fun f cdv A outer s H E hr=>⟨_,(Zab (Zan (i:=3) sc_law_spot.nd rfl (Or.inl rfl) (Zaf c_law_measure hr (by rfl) (Zae (Zaf c_law_measure hr (by rfl) (Zae (v3 0) (Zae (v3 1) Zaj))) (Zae (v3 2) Zaj)))) (Zam (ZaF (Zax (Zaa (Zav (v3 0) (v3 3)) (Zaa (Zav (v3 1) (v3 3)) (Zaa (Zav (v3 2) (v3 3)) Zao))))))),?_⟩)
 rintro as k hl ⟨x,y,n,rfl,hn,bn,hk⟩
 refine at3 (r:=[.val (.int x),.val (.int y),.val (.int n),.no]) rfl ?_
 walk_at "w"
 refine ⟨_,_,rfl,?_⟩
 walk_at "w"
 refine ⟨_,_,rfl,?_⟩
 have n0:n≠0:=by omega
 have gp:=g3_pos (a:=x) (b:=y) n0
 have gb:=ZlW (a:=x) (b:=y) n0 bn
 have e:gsp x y n=g3 x y n:=by unfold gsp; rw [if_neg (by omega)]
 have eg:((Int.gcd ((Int.gcd x y:Nat):Int) n:Nat):Int)=g3 x y n:=g3_xy x y n
 have hk:k (.val (.tup [.int (x.fdiv (g3 x y n)),.int (y.fdiv (g3 x y n)),.int (n.fdiv (g3 x y n))])):=by
  have h:=hk
  unfold dP npt at h
  rw [e] at h
  exact h
 dsimp only [fzR]
 rw [eg]
 generalize g3 x y n=g at gp gb hk ⊢
 walk_at "w"
 exact hk
theorem sc_law_star:FnScope ["_law_bag_here", "_law_most", "_law_far", "_law_spokes", "_law_shift", "_law_left", "_law_ring", "_law_k", "_law_x", "_law_y", "_law_turn", "_law_long", "_law_more"] ["_law_bag_here", "_law_most", "_law_far"] (Zad Zcl):=⟨rfl,rfl,rfl,by decide +kernel,rfl,by decide +kernel,by decide +kernel⟩
def ZiE:FS:=fun as k=>∃ (mo fa:Int),as=[.bag,.val (.int mo),.val (.int fa)]∧(3≤mo)∧(mo≤24)∧(1≤fa)∧(fa≤1000000)∧∀ sel,StarOk fa mo sel→k (.val (.lst ((sel.map spt).map dR)))
theorem Zkz (B:Blts mg)   (F:Fnd K mg "_law_star" Zcl ["_law_bag_here", "_law_most", "_law_far"]) (c_law_draw:Cal P w K mg base "_law_draw" ["_law_bag_here", "_law_many"] 1 (Con K 2 (ZcJ 400))) :
  Cal P w K mg base "_law_star" ["_law_bag_here", "_law_most", "_law_far"] 2 (Con K 3 ZiE):=by
 refine def3 (lv:=1) F sc_law_star rfl (fun f cdv A outer s H E hr=>⟨_,(Zab (Zan (i:=3) sc_law_star.nd rfl (Or.inl rfl) (Zax (Zaa (Zax (Zaa Zac (Zaa Zac Zao))) (Zaa (Zax (Zaa Zac (Zaa Zac Zao))) (Zaa (Zax (Zaa Zac (Zaa Zac Zao))) (Zaa (Zax (Zaa Zac (Zaa Zac Zao))) (Zaa (Zax (Zaa Zac (Zaa Zac Zao))) (Zaa (Zax (Zaa Zac (Zaa Zac Zao))) Zao)))))))) (Zab (Zan (i:=4) sc_law_star.nd rfl (Or.inl rfl) (Zaf c_law_draw hr (by rfl) (Zbr 0 (Zae Zac Zaj)))) (Zab (Zan (i:=5) sc_law_star.nd rfl (Or.inl rfl) (Zb8 (v3 1) Zac)) (Zab (ZhC (i:=6) sc_law_star.nd rfl (Or.inl rfl) (Zd2 Zao)) (Zab (Zbx PassesOwn.never rfl (ZgY Zac (by rfl) B.range_) (Zag (i:=7) sc_law_star.nd rfl (Or.inl rfl)) (Zab (Zdm (e_ix (v3 3) (Zhe (v3 7) Zac) (fun _ _=>rfl)) (Zbf (n:=2) rfl (Zah (Zag (i:=8) sc_law_star.nd rfl (Or.inl rfl)) (Zah (Zag (i:=9) sc_law_star.nd rfl (Or.inl rfl)) ZaK)))) (Zab (Zbx PassesOwn.never rfl (ZgY (Zav (v3 7) Zac) (by rfl) B.range_) (Zag (i:=10) sc_law_star.nd rfl (Or.inl rfl)) (Zam (Zm0 (i:=8) (j:=9) rfl sc_law_star.nd rfl rfl (by decide) rfl rfl (Zaa (ZdP (v3 9)) (Zaa (v3 8) Zao)) rfl))) (Zab (Zan (i:=11) sc_law_star.nd rfl (Or.inl rfl) (Zbw Zac (Zaf c_law_draw hr (by rfl) (Zbr 0 (Zae (v3 2) Zaj))))) (Zab (Zan (i:=12) sc_law_star.nd rfl (Or.inl rfl) (e_and (e_cmp (f:=fun i j=>decide (j < i)) op_gt (v3 5) Zac (Zaq _)) (e_one (e_cmp (f:=fun i j=>decide (i < j)) Zej (Zaf c_law_draw hr (by rfl) (Zbr 0 (Zae Zac Zaj))) (v3 1) (Zaq _))))) (Zam (s_if (Zbp (f:=fun i j=>decide (i=j)) Zez (Zhe (v3 7) Zac) (v3 4) (Zaq _)) (Zam (ZkO 6 (Zax (Zaa (ZaG (v3 11) (v3 8)) (Zaa (ZaG (v3 11) (v3 9)) Zao))))) (Zam (s_if (Zmz (v3 12)) (Zab (ZkO 6 (Zax (Zaa (ZaG (v3 11) (v3 8)) (Zaa (ZaG (v3 11) (v3 9)) Zao)))) (Zam (s_augS (i:=5) sc_law_star.nd rfl (Or.inl rfl) Zac))) Zbt))))))))) (s_fz 6 (Zam (ZaF (v3 6))))))))),?_⟩)
 rintro as k hl ⟨mo,fa,rfl,m1,m2,f1,f2,hk⟩
 refine at3 (r:=[.bag,.val (.int mo),.val (.int fa),.no,.no,.no,.no,.no,.no,.no,.no,.no,.no]) rfl ?_
 have big:10000≤sizeLine:=by decide
 have t2:2≤sizeLine:=by decide
 have t6:6≤sizeLine:=by decide
 refine mid4 (fun ρ=>ρ=[.bag,.val (.int mo),.val (.int fa),.val (.tup (sp6.map dR)),.no,.no,.no,.no,.no,.no,.no,.no,.no]) ?_ (fun N kk=>⟨t2,t2,t2,t2,t2,t2,t6,kk _ rfl⟩)
 rintro ρ rfl
 refine mid4 (fun ρ=>∃ sh:Int,0≤sh∧sh < 8∧ρ=[.bag,.val (.int mo),.val (.int fa),.val (.tup (sp6.map dR)),.val (.int sh),.no,.no,.no,.no,.no,.no,.no,.no]) ?_ (fun N kk=>?_)
 rotate_left
 ·walk_at "w"
  intro sh s0 s1
  exact kk _ ⟨sh,s0,s1,rfl⟩
 rintro ρ ⟨sh,s0,s1,rfl⟩
 refine mid4 (fun ρ=>ρ=[.bag,.val (.int mo),.val (.int fa),.val (.tup (sp6.map dR)),.val (.int sh),.val (.int (mo - 3)),.no,.no,.no,.no,.no,.no,.no]) ?_ (fun N kk=>⟨_,rfl,_,_,rfl,rfl,kk _ rfl⟩)
 rintro ρ rfl
 refine mid4 (fun ρ=>ρ=[.bag,.val (.int mo),.val (.int fa),.val (.tup (sp6.map dR)),.val (.int sh),.val (.int (mo - 3)),.own (.l ((([]:List (Nat×Int)).map spt).map dR)),.no,.no,.no,.no,.no,.no]) ?_ (fun N kk=>⟨Nat.zero_le _,kk _ rfl⟩)
 rintro ρ rfl
 refine ⟨_,rfl,by decide,by decide,?_⟩
 refine ZbP (fun i ρ=>∃ (sel:List (Nat×Int)) (lf:Int) (v7 v8 v9 v10 v11 v12:Sl),ρ=[.bag,.val (.int mo),.val (.int fa),.val (.tup (sp6.map dR)),.val (.int sh),.val (.int lf),.own (.l ((sel.map spt).map dR)),v7,v8,v9,v10,v11,v12]∧SelOk sh fa mo lf i sel) ⟨[],mo - 3,_,_,_,_,_,_,rfl,SelOk.start m1⟩ ?_ (fun ρ h=>?_)
 rotate_left
 ·obtain ⟨sel,lf,v7,v8,v9,v10,v11,v12,rfl,ok⟩:=h
  exact ⟨_,rfl,_,rfl,hk sel (ok.star s0 s1)⟩
 rintro i ρ hi ⟨sel,lf,v7,v8,v9,v10,v11,v12,rfl,ok⟩ N kk
 have h6:i % 6 < 6:=Nat.mod_lt _ (by decide)
 refine mid4 (fun ρ=>ρ=[.bag,.val (.int mo),.val (.int fa),.val (.tup (sp6.map dR)),.val (.int sh),.val (.int lf),.own (.l ((sel.map spt).map dR)),.val (.int i),.val (.int (rotN 0 (sp6.getD (i % 6) (0,0))).1),.val (.int (rotN 0 (sp6.getD (i % 6) (0,0))).2),v10,v11,v12]) ?_ (fun N kk=>?_)
 rotate_left
 ·exact ⟨_,rfl,_,rfl,_,_,rfl,rfl,(show (0:Int) < 6 by decide),sp6.map dR,_,_,.inl rfl,rfl,sp6_at,_,rfl,rfl,_,_,rfl,_,_,rfl,rfl,kk _ rfl⟩
 rintro ρ rfl
 refine mid4 (fun ρ=>∃ v10:Sl,ρ=[.bag,.val (.int mo),.val (.int fa),.val (.tup (sp6.map dR)),.val (.int sh),.val (.int lf),.own (.l ((sel.map spt).map dR)),.val (.int i),.val (.int (spk i).1),.val (.int (spk i).2),v10,v11,v12]) ?_ (fun N kk=>?_)
 rotate_left
 ·refine ⟨_,rfl,_,_,rfl,rfl,by walk_at "sd", ?_⟩
  have e6:((i:Int).fdiv 6)=((i / 6:Nat):Int):=by
   rw [Int.fdiv_eq_ediv_of_nonneg _ (by decide)]; omega
  refine ⟨_,rfl,by rw [e6]; omega,by rw [e6]; omega,?_⟩
  rw [e6,Int.toNat_natCast]
  refine ZbP (fun t ρ=>∃ v10:Sl,ρ=[.bag,.val (.int mo),.val (.int fa),.val (.tup (sp6.map dR)),.val (.int sh),.val (.int lf),.own (.l ((sel.map spt).map dR)),.val (.int i),.val (.int (rotN t (sp6.getD (i % 6) (0,0))).1),.val (.int (rotN t (sp6.getD (i % 6) (0,0))).2),v10,v11,v12]) ⟨_,rfl⟩ ?_ (fun ρ h=>?_)
  ·rintro t ρ ht ⟨v10,rfl⟩ N2 kk2
   exact ⟨_,rfl,_,rfl,_,rfl,_,_,rfl,kk2 _ ⟨_,rfl⟩⟩
  ·obtain ⟨v10,rfl⟩:=h
   exact kk _ ⟨_,rfl⟩
 rintro ρ ⟨v10,rfl⟩
 have bnd : -5≤(spk i).1∧(spk i).1≤5 ∧ -5≤(spk i).2∧(spk i).2≤5:=Ziz _ _ h6
 refine mid4 (fun ρ=>∃ lg:Int,1≤lg∧lg≤fa∧ρ=[.bag,.val (.int mo),.val (.int fa),.val (.tup (sp6.map dR)),.val (.int sh),.val (.int lf),.own (.l ((sel.map spt).map dR)),.val (.int i),.val (.int (spk i).1),.val (.int (spk i).2),v10,.val (.int lg),v12]) ?_ (fun N kk=>?_)
 rotate_left
 ·walk_at "w"
  intro lg g0 g1
  exact ⟨_,_,rfl,rfl,kk _ ⟨1 + lg,by omega,by omega,rfl⟩⟩
 rintro ρ ⟨lg,g1,g2,rfl⟩
 refine mid4 (fun ρ=>∃ b:Bool,(b=true→0 < lf)∧ρ=[.bag,.val (.int mo),.val (.int fa),.val (.tup (sp6.map dR)),.val (.int sh),.val (.int lf),.own (.l ((sel.map spt).map dR)),.val (.int i),.val (.int (spk i).1),.val (.int (spk i).2),v10,.val (.int lg),.val (.bl b)]) ?_ (fun N kk=>?_)
 rotate_left
 ·refine ⟨_,rfl,_,_,rfl,rfl,_,rfl,iteD (fun g=>?_) (fun g=>?_)⟩
  ·walk_at "w"
   intro r r0 r1
   exact ⟨_,rfl,_,_,rfl,rfl,kk _ ⟨_,fun _=>g,rfl⟩⟩
  ·exact kk _ ⟨false,(fun z=>absurd z (by decide)),rfl⟩
 rintro ρ ⟨b,hb,rfl⟩
 have c1:Zie lg (spk i).1:=⟨by walk_at "bits", by walk_at "bits"⟩
 have c2:Zie lg (spk i).2:=⟨by walk_at "bits", by walk_at "bits"⟩
 have sl:sel.length≤48:=by
  have h1:=ok.cnt
  have h2:=ok.l0
  have h3:mst sh i≤i:=by unfold mst; exact Nat.le_trans (List.length_filter_le _ _) (by simp)
  omega
 have len:((sel.map spt).map dR).length=sel.length:=by rw [List.length_map,List.length_map]
 have ap:((sel.map spt).map dR) ++ [.tup [.int (lg * (spk i).1),.int (lg * (spk i).2)]]=((sel ++ [(i,lg)]).map spt).map dR:=by rw [List.map_append,List.map_append]; rfl
 refine ⟨_,rfl,_,_,rfl,rfl,(show (0:Int) < 8 by decide),_,rfl,_,_,rfl,rfl,_,rfl,iteD (fun e=>?_) (fun e=>?_)⟩
 ·refine ⟨_,rfl,_,rfl,_,rfl,_,_,rfl,rfl,c1,_,rfl,_,rfl,_,_,rfl,rfl,c2,t2,by omega,kk _ ⟨sel ++ [(i,lg)],lf,_,_,_,_,_,_,by rw [← ap]; rfl,ok.put g1 g2 (.inl ⟨e,rfl⟩) ok.l0⟩⟩
 ·refine ⟨_,rfl,b,rfl,?_⟩
  cases b with
  | true =>
   refine Zhl rfl ?_
   have l0:=hb rfl
   refine ⟨_,rfl,_,rfl,_,rfl,_,_,rfl,rfl,c1,_,rfl,_,rfl,_,_,rfl,rfl,c2,t2,by omega,?_⟩
   refine ⟨lf,rfl,1,rfl,kk _ ⟨sel ++ [(i,lg)],lf - 1,_,_,_,_,_,_,by rw [← ap]; rfl,ok.put g1 g2 (.inr ⟨e,rfl⟩) (by omega)⟩⟩
  | false =>
   refine Zdr rfl ?_
   exact kk _ ⟨sel,lf,_,_,_,_,_,_,rfl,ok.skip e⟩
theorem sc_law_told:FnScope ["_law_cloth", "_law_rings", "_law_bottom"] ["_law_cloth"] (Zad Zcj):=⟨rfl,rfl,rfl,by decide +kernel,rfl,by decide +kernel,by decide +kernel⟩
def Zh3:FS:=fun as k=>∃ (rs:RR) (n:Int),as=[.val (.tup [.lst (rs.map dF2),.int n])]∧(RgsW 20000000000 rs)∧(1≤n)∧(n≤12000000)∧k (.val (.lst (rs.map fun r=>.lst (r.map fun p=>dP (npt p.1 p.2 n)))))
theorem ZjY (B:Blts mg)   (F:Fnd K mg "_law_told" Zcj ["_law_cloth"]) (c_law_spot:Cal P w K mg base "_law_spot" ["_law_x", "_law_y", "_law_bottom"] 3 (Con K 3 ZiY)) :
  Cal P w K mg base "_law_told" ["_law_cloth"] 4 (Con K 1 Zh3):=by
 refine def3 (lv:=3) F sc_law_told rfl (fun f cdv A outer s H E hr=>⟨_,(Zab (Zdm (v3 0) (Zbf (n:=2) rfl (Zah (Zag (i:=1) sc_law_told.nd rfl (Or.inl rfl)) (Zah (Zag (i:=2) sc_law_told.nd rfl (Or.inr rfl)) ZaK)))) (Zam (ZaF (o_e (Zbi (ts:=["_law_ring"]) (fr:=["_law_bottom"]) (js:=[2]) (ZaT (v3 1)) (fun _ _ _ _=>(Zag (i:=0) (show List.Nodup (["_law_ring", "_law_bottom"]:List Str) by decide +kernel) rfl (Or.inl rfl))) (fun _ _ _ _=>ZbL) (fun _ _ _ _=>(o_e (Zbi (ts:=["_law_x", "_law_y"]) (fr:=["_law_bottom"]) (js:=[1]) (ZaT (v3 0)) (fun _ _ _ _=>(Zbf (n:=2) rfl (Zah (Zag (i:=0) (show List.Nodup (["_law_x", "_law_y", "_law_bottom"]:List Str) by decide +kernel) rfl (Or.inl rfl)) (Zah (Zag (i:=1) (show List.Nodup (["_law_x", "_law_y", "_law_bottom"]:List Str) by decide +kernel) rfl (Or.inl rfl)) ZaK)))) (fun _ _ _ _=>ZbL) (fun _ _ _ _=>(Zaf c_law_spot hr (by rfl) (Zae (v3 0) (Zae (v3 1) (Zae (v3 2) Zaj))))) ⟨rfl,by decide +kernel,rfl,by decide +kernel,Za2 (List.forall_mem_cons.mpr ⟨rfl,(List.forall_mem_nil _)⟩),ZbA rfl,by walk_at "ffr", rfl⟩))) ⟨rfl,by decide +kernel,rfl,by decide +kernel,Za2 (List.forall_mem_cons.mpr ⟨rfl,(List.forall_mem_nil _)⟩),ZbA rfl,by walk_at "ffr", rfl⟩))))),?_⟩)
 rintro as k hl ⟨rs,n,rfl,ok,n1,n2,hk⟩
 refine at3 (r:=[.val (.tup [.lst (rs.map dF2),.int n]),.no,.no]) rfl ?_
 have big:10000≤sizeLine:=by decide
 refine ⟨_,rfl,_,rfl,rfl,_,_,rfl,_,_,rfl,rfl,?_⟩
 have l8:=ok.l8
 refine ⟨_,rfl,_,rfl,by rw [List.length_map]; omega,?_⟩
 refine Zc5 (f:=dF2) (rs:=rs) (h:=fun r=>.lst (r.map fun p=>dP (npt p.1 p.2 n))) (fun r hr k hk=>?_) ?_
 ·have rg:=ok.rg r hr
  have l24:=rg.l24
  refine ⟨_,rfl,_,rfl,by rw [List.length_map]; omega,?_⟩
  refine ZcB (h:=fun p=>dP (npt p.1 p.2 n)) (fun p hp k hk=>?_) hk
  exact ⟨_,rfl,_,rfl,_,rfl,rfl,p.1,p.2,n,rfl,by omega,by walk_at "bits", hk⟩
 ·exact hk
theorem sc_law_way:FnScope ["_law_x", "_law_y", "_law_often"] ["_law_x", "_law_y"] (Zad ZcI):=⟨rfl,rfl,rfl,by decide +kernel,rfl,by decide +kernel,by decide +kernel⟩
def Zla:FS:=fun as k=>∃ (x y:Int),as=[.val (.int x),.val (.int y)]∧(x≠0∨y≠0)∧(intBits x≤4000)∧(intBits y≤4000)∧k (.val (.tup [dR (wdir x y),.int (wpar x y)]))
theorem ZmL (B:Blts mg)   (F:Fnd K mg "_law_way" ZcI ["_law_x", "_law_y"]) (c_law_measure:Cal P w K mg base "_law_measure" ["_law_one", "_law_other"] 2 (Con K 2 ZaW)) :
  Cal P w K mg base "_law_way" ["_law_x", "_law_y"] 3 (Con K 2 Zla):=by
 refine def3 (lv:=2) F sc_law_way rfl (fun f cdv A outer s H E hr=>⟨_,(Zab (Zan (i:=2) sc_law_way.nd rfl (Or.inl rfl) (Zaf c_law_measure hr (by rfl) (Zae (v3 0) (Zae (v3 1) Zaj)))) (Zab (s_if (w_t (w_or (Zbp (f:=fun i j=>decide (i < j)) Zej (v3 1) Zac (Zaq _)) (ZkR (w_t (w_and (Zbp (f:=fun i j=>decide (i=j)) Zez (v3 1) Zac (Zaq _)) (ZlG (Zbp (f:=fun i j=>decide (i < j)) Zej (v3 0) Zac (Zaq _)))))))) (Zam (Zan (i:=2) sc_law_way.nd rfl (Or.inl rfl) (ZdP (v3 2)))) Zbt) (Zam (ZaF (Zax (Zaa (Zax (Zaa (Zav (v3 0) (v3 2)) (Zaa (Zav (v3 1) (v3 2)) Zao))) (Zaa (v3 2) Zao))))))),?_⟩)
 rintro as k hl ⟨x,y,rfl,hab,ba,bb,hk⟩
 refine at3 (r:=[.val (.int x),.val (.int y),.no]) rfl ?_
 walk_at "w"
 refine ⟨_,_,rfl,?_⟩
 dsimp only [fzR]
 have gb:=ZcT hab ba bb
 refine mid4 (fun ρ=>ρ=[.val (.int x),.val (.int y),.val (.int (wpar x y))]) ?_ (fun N kk=>?_)
 ·rintro ρ rfl
  have d0:=Zcd hab
  have db:intBits (wpar x y)≤4000:=Zhz hab ba bb
  walk_at "w"
  exact hk
 ·have pos:y < 0∨y=0∧x < 0→wpar x y = -((Int.gcd x y:Nat):Int):=fun h=>by unfold wpar; rw [if_pos h]
  have ngt:¬ (y < 0∨y=0∧x < 0)→wpar x y=((Int.gcd x y:Nat):Int):=fun h=>by unfold wpar; rw [if_neg h]
  walk_at "wd"
  refine iteD (fun g=>?_) (fun g=>?_)
  ·refine Zhl rfl ?_
   walk_at "w"
   exact kk _ (by rw [pos (.inl g)]; rfl)
  ·walk_at "wd"
   refine iteD (fun g2=>?_) (fun g2=>?_)
   ·walk_at "wd"
    refine iteD (fun g3=>?_) (fun g3=>?_)
    ·walk_at "w"
     exact kk _ (by rw [pos (.inr ⟨g2,g3⟩)]; rfl)
    ·exact kk _ (by rw [ngt (fun z=>z.elim g fun z=>g3 z.2)]; rfl)
   ·refine Zdr rfl ?_
    exact kk _ (by rw [ngt (fun z=>z.elim g fun z=>g2 z.1)]; rfl)
theorem sc_law_sums:FnScope ["_law_cloth", "_law_sums_here", "_law_ring", "_law_k", "_law_way_here", "_law_often"] ["_law_cloth"] (Zad Zcf):=⟨rfl,rfl,rfl,by decide +kernel,rfl,by decide +kernel,by decide +kernel⟩
def Zh6:FS:=fun as k=>∃ (rs:RR) (n:Int),as=[.val (.tup [.lst (rs.map dF2),.int n])]∧(RgsW 20000000000 rs)∧∀ ks vs,DcOk ks vs 0 (smR rs)→ks.length≤24→k (.val (.dct false ks (vs.map D.int)))
theorem Zj6 (B:Blts mg)   (F:Fnd K mg "_law_sums" Zcf ["_law_cloth"]) (c_law_way:Cal P w K mg base "_law_way" ["_law_x", "_law_y"] 3 (Con K 2 Zla)) :
  Cal P w K mg base "_law_sums" ["_law_cloth"] 4 (Con K 1 Zh6):=by
 refine def3 (lv:=3) F sc_law_sums rfl (fun f cdv A outer s H E hr=>⟨_,(Zab (ZhX (b:=false) (i:=1) sc_law_sums.nd rfl (Or.inl rfl)) (Zab (Zbx PassesOwn.never rfl (ZaT (e_ix (v3 0) Zac (fun _ _=>rfl))) (Zag (i:=2) sc_law_sums.nd rfl (Or.inl rfl)) (Zam (Zbx PassesOwn.never rfl (ZgY (Zds (v3 2) (by rfl) B.len_) (by rfl) B.range_) (Zag (i:=3) sc_law_sums.nd rfl (Or.inl rfl)) (Zab (Zdm (Zaf c_law_way hr (by rfl) (Zae (Zb8 (e_ix (e_ix (v3 2) (v3 3) (fun _ _=>rfl)) Zac (fun _ _=>rfl)) (e_ix (e_ix (v3 2) (Zb8 (v3 3) Zac) (fun _ _=>rfl)) Zac (fun _ _=>rfl))) (Zae (Zb8 (e_ix (e_ix (v3 2) (v3 3) (fun _ _=>rfl)) Zac (fun _ _=>rfl)) (e_ix (e_ix (v3 2) (Zb8 (v3 3) Zac) (fun _ _=>rfl)) Zac (fun _ _=>rfl))) Zaj))) (Zbf (n:=2) rfl (Zah (Zag (i:=4) sc_law_sums.nd rfl (Or.inl rfl)) (Zah (Zag (i:=5) sc_law_sums.nd rfl (Or.inl rfl)) ZaK)))) (Zam (ZjA (b:=false) 1 (hu4 hr) (v3 4) (Zbw (Zc1 (b:=false) 1 (hu4 hr) (v3 4) Zac) (v3 5)))))))) (Znf 1 (Zam (ZaF (v3 1)))))),?_⟩)
 rintro as k hl ⟨rs,n,rfl,ok,hk⟩
 refine at3 (r:=[.val (.tup [.lst (rs.map dF2),.int n]),.no,.no,.no,.no,.no]) rfl ?_
 have big:10000≤sizeLine:=by decide
 refine mid4 (fun ρ=>ρ=[.val (.tup [.lst (rs.map dF2),.int n]),.own (.d false none [] (([]:List Int).map D.int)),.no,.no,.no,.no]) ?_ (fun N kk=>kk _ rfl)
 rintro ρ rfl
 refine mid4 (fun ρ=>∃ (ks:List (List (List Int))) (vs:List Int) (v2 v3 v4 v5:Sl),ρ=[.val (.tup [.lst (rs.map dF2),.int n]),.own (.d false none ks (vs.map D.int)),v2,v3,v4,v5]∧DcOk ks vs 0 (smR rs)∧ks.length≤24) ?_ (fun N kk=>?_)
 ·rintro ρ ⟨ks,vs,v2,v3,v4,v5,rfl,dc,l⟩
  exact ⟨false,none,ks,_,rfl,_,rfl,hk ks vs dc l⟩
 refine ⟨_,rfl,_,_,_,.inl rfl,rfl,rfl,_,rfl,?_⟩
 refine Za5 (f:=dF2) (rs:=rs) (done:=[]) (fun pre ρ=>∃ (ks:List (List (List Int))) (vs:List Int) (v2 v3 v4 v5:Sl),ρ=[.val (.tup [.lst (rs.map dF2),.int n]),.own (.d false none ks (vs.map D.int)),v2,v3,v4,v5]∧DcOk ks vs 0 (smR pre)∧ks.length≤(pre.map List.length).sum) ⟨[],[],_,_,_,_,rfl,dc_start,by simp⟩ ?_ (fun ρ h=>?_)
 rotate_left
 ·obtain ⟨ks,vs,v2,v3,v4,v5,rfl,dc,l⟩:=h
  rw [List.nil_append] at dc l
  exact kk _ ⟨ks,vs,_,_,_,_,rfl,dc,Nat.le_trans l ok.l24⟩
 rintro pre r rest ρ he ⟨ks,vs,v2,v3,v4,v5,rfl,dc,l⟩ N2 kk2
 rw [List.nil_append] at he
 have rg:=ok.rg r (by rw [he]; simp)
 have l24:=ok.l24
 have tot:(rs.map List.length).sum=(pre.map List.length).sum + (r.length + (rest.map List.length).sum):=by rw [he,List.map_append,List.sum_append,List.map_cons,List.sum_cons]
 have len:(r.map dR).length=r.length:=List.length_map ..
 refine ⟨_,rfl,_,rfl,_,rfl,by omega,by rw [len]; omega,?_⟩
 rw [len,Int.toNat_natCast]
 refine ZbP (fun i ρ=>∃ (ks:List (List (List Int))) (vs:List Int) (v3 v4 v5:Sl),ρ=[.val (.tup [.lst (rs.map dF2),.int n]),.own (.d false none ks (vs.map D.int)),.val (dF2 r),v3,v4,v5]∧DcOk ks vs 0 (fun d=>smR pre d + smD d ((edL r).take i))∧ks.length≤(pre.map List.length).sum + i) ⟨ks,vs,_,_,_,rfl,dc.ext fun d=>by simp [smD],by omega⟩ ?_ (fun ρ h=>?_)
 rotate_left
 ·obtain ⟨ks,vs,v3,v4,v5,rfl,dc,l⟩:=h
  refine kk2 _ ⟨ks,vs,_,_,_,_,rfl,dc.ext fun d=>?_,?_⟩
  ·rw [Znl,smD_ed,Zc4]
  ·rw [List.map_append,List.sum_append]; simp; omega
 rintro i ρ hi ⟨ks,vs,v3,v4,v5,rfl,dc,l⟩ N3 kk3
 obtain ⟨gp,gq⟩:=Zk4 hi
 have tk:=Zkj hi
 have me:=ed_mem hi
 have mp:r.getD ((i + r.length - 1) % r.length) (0,0)∈r:=Zd4 (Nat.mod_lt _ (by omega))
 have mq:r.getD i (0,0)∈r:=Zd4 hi
 generalize r.getD ((i + r.length - 1) % r.length) (0,0)=p at gp tk me mp
 generalize r.getD i (0,0)=q at gq tk me mq
 have ne:=rg.ns _ ((Zl5 r).mem_iff.mp me)
 obtain ⟨p1,p2,p3,p4⟩:=rg.le p mp
 obtain ⟨q1,q2,q3,q4⟩:=rg.le q mq
 have b1:intBits (q.1 - p.1)≤4000:=Nat.le_trans (ZaC (by omega) (by omega)) (by decide)
 have b2:intBits (q.2 - p.2)≤4000:=Nat.le_trans (ZaC (by omega) (by omega)) (by decide)
 refine mid4 (fun ρ=>ρ=[.val (.tup [.lst (rs.map dF2),.int n]),.own (.d false none ks (vs.map D.int)),.val (dF2 r),.val (.int i),.val (dR (dirE (p,q))),.val (.int (parE (p,q)))]) ?_ (fun N kk=>?_)
 rotate_left
 ·refine ⟨_,rfl,_,rfl,_,_,_,.inr rfl,rfl,gq,_,_,_,.inl rfl,rfl,rfl,_,rfl,_,rfl,_,_,rfl,rfl,_,_,_,.inr rfl,rfl,gp,_,_,_,.inl rfl,rfl,rfl,_,_,rfl,rfl,?_⟩
  refine ⟨_,rfl,_,rfl,_,_,_,.inr rfl,rfl,gq,_,_,_,.inl rfl,rfl,rfl,_,rfl,_,rfl,_,_,rfl,rfl,_,_,_,.inr rfl,rfl,gp,_,_,_,.inl rfl,rfl,rfl,_,_,rfl,rfl,?_⟩
  exact ⟨rfl,q.1 - p.1,q.2 - p.2,rfl,ne,b1,b2,_,rfl,rfl,_,_,rfl,_,_,rfl,rfl,kk _ rfl⟩
 rintro ρ rfl
 obtain ⟨l1,l2⟩:=Zgp (k:=kD (dirE (p,q))) (x:=(lkA ks vs (kD (dirE (p,q)))).getD 0 + parE (p,q)) dc.len
 refine ⟨none,ks,_,rfl,_,rfl,kD (dirE (p,q)),rfl,(fun _=>⟨_,rfl⟩),_,rfl,(lkA ks vs (kD (dirE (p,q)))).getD 0,parE (p,q),lk_int _ _ _,rfl,?_⟩
 refine ⟨none,ks,_,rfl,_,rfl,kD (dirE (p,q)),rfl,(fun _=>⟨_,rfl⟩),by omega,?_⟩
 refine kk3 _ ⟨ptK ks (kD (dirE (p,q))),ptA ks vs (kD (dirE (p,q))) ((lkA ks vs (kD (dirE (p,q)))).getD 0 + parE (p,q)),.val (.int i),.val (dR (dirE (p,q))),.val (.int (parE (p,q))),by rw [ZhG]; rfl,dc.put _ _ ?_ (fun d hd=>?_),by omega⟩
 ·rw [tk,Zdj,dc.at_]
  simp [smD]
  omega
 ·rw [tk,Zdj]
  simp [smD,Ne.symm hd]
theorem sc_law_marks:FnScope ["_law_cloth", "_law_sums_here"] ["_law_cloth"] (Zad ZbD):=⟨rfl,rfl,rfl,by decide +kernel,rfl,by decide +kernel,by decide +kernel⟩
def Zgq:FS:=fun as k=>∃ (rs:RR) (n:Int),as=[.val (.tup [.lst (rs.map dF2),.int n])]∧(RgsW 20000000000 rs)∧(1≤n)∧(n≤12000000)∧∀ L,MkOk (smR rs) n L→L.length≤24→k (.val (.lst (L.map dMk)))
theorem ZhJ (B:Blts mg)   (F:Fnd K mg "_law_marks" ZbD ["_law_cloth"]) (c_law_sums:Cal P w K mg base "_law_sums" ["_law_cloth"] 4 (Con K 1 Zh6)) (c_law_low:Cal P w K mg base "_law_low" ["_law_top", "_law_bottom"] 3 (Con K 2 ZgC)) :
  Cal P w K mg base "_law_marks" ["_law_cloth"] 5 (Con K 1 Zgq):=by
 refine def3 (lv:=4) F sc_law_marks rfl (fun f cdv A outer s H E hr=>⟨_,(Zab (Zan (i:=1) sc_law_marks.nd rfl (Or.inr rfl) (Zaf c_law_sums hr (by rfl) (Zae (v3 0) Zaj))) (Zam (ZaF (o_e (Zbi (ts:=["_law_way_here"]) (fr:=["_law_cloth", "_law_sums_here"]) (js:=[0,1]) (ZaT (o_e (Zi1 (b:=false) rfl (hr.units) (v3 1) (by rfl) B.sorted_))) (fun _ _ _ _=>(Zag (i:=0) (show List.Nodup (["_law_way_here", "_law_cloth", "_law_sums_here"]:List Str) by decide +kernel) rfl (Or.inl rfl))) (fun _ _ _ _=>(Zfq (Zbp (f:=fun i j => !decide (i=j)) Zjy (ZkF false (hu4 hr) (v3 2) (v3 0) (fun _ _=>rfl)) Zac (Zaq _)))) (fun _ _ _ _=>(Zax (Zaa (v3 0) (Zaa (Zaf c_law_low hr (by rfl) (Zae (ZkF false (hu4 hr) (v3 2) (v3 0) (fun _ _=>rfl)) (Zae (e_ix (v3 1) Zac (fun _ _=>rfl)) Zaj))) Zao)))) ⟨rfl,by decide +kernel,rfl,by decide +kernel,Za2 (List.forall_mem_cons.mpr ⟨rfl,(List.forall_mem_cons.mpr ⟨rfl,(List.forall_mem_nil _)⟩)⟩),ZbA rfl,by walk_at "ffr", rfl⟩))))),?_⟩)
 rintro as k hl ⟨rs,n,rfl,ok,n1,n2,hk⟩
 refine at3 (r:=[.val (.tup [.lst (rs.map dF2),.int n]),.no]) rfl ?_
 have big:10000≤sizeLine:=by decide
 have t2:2≤sizeLine:=by decide
 walk_at "w"
 refine ⟨rs,n,rfl,ok,fun ks vs dc l24=>?_⟩
 dsimp only [fzR]
 refine ⟨_,rfl,ks,_,rfl,⟨by omega,?_⟩,fun ks' pm pw=>?_⟩
 ·rw [if_neg (by decide)]
  refine ⟨2,by omega,fun k hk=>?_⟩
  obtain ⟨d,rfl⟩:=dc.ky k hk
  exact ⟨_,rfl,rfl⟩
 obtain ⟨ds,e,at_,mk⟩:=Zk1 dc pm pw n
 have lk:∀ d∈ds,lkA ks (vs.map D.int) (kD d)=some (.int (smR rs d)):=fun d hd=>by rw [ZeF,at_ d hd]; rfl
 have el:ks'.map (keyD false)=ds.map dR:=by rw [e,List.map_map]; rfl
 have len:(ds.map dR).length≤sizeLine:=by
  rw [← el,List.length_map,pm.length_eq]; omega
 have hk:=hk _ mk (by
  rw [List.length_map]
  have:=List.length_filter_le (fun d=>decide (smR rs d≠0)) ds
  have q:=congrArg List.length e
  rw [List.length_map,pm.length_eq] at q
  omega)
 rw [List.map_map] at hk
 rw [el]
 refine ⟨_,rfl,len,ZbV (f:=dR) (P:=fun d=>decide (smR rs d≠0)) (h:=fun d=>dMk (d,nrat (smR rs d) n)) (fun d hd k hk=>?_) (fun d hd k hk=>?_) hk⟩
 ·refine ⟨_,rfl,_,rfl,ks,_,kD d,_,rfl,rfl,(fun _=>⟨_,rfl⟩),lk d hd,_,_,rfl,rfl,_,rfl,?_⟩
  rw [show (!decide (smR rs d=0))=decide (smR rs d≠0) by by_cases z:smR rs d=0 <;> simp [z]]
  exact hk
 ·refine ⟨_,rfl,_,rfl,_,rfl,ks,_,kD d,_,rfl,rfl,(fun _=>⟨_,rfl⟩),lk d hd,_,rfl,_,_,_,.inl rfl,rfl,rfl,rfl,smR rs d,n,rfl,by omega,Nat.le_trans (ZaC (by omega) (by omega)) (by decide),?_⟩
  exact ⟨t2,hk⟩
theorem sc_greatest_divisor:FnScope ["one", "other"] ["one", "other"] (Zad ZaN):=⟨rfl,rfl,rfl,by decide +kernel,rfl,by decide +kernel,by decide +kernel⟩
def Zap:FS:=fun as k=>∃ (a b:Int),as=[.val (.int a),.val (.int b)]∧k (.val (.int (Int.gcd a b:Nat)))
theorem ZbN (B:Blts mg)   (F:Fnd K mg "greatest_divisor" ZaN ["one", "other"])  :
  Cal P w K mg base "greatest_divisor" ["one", "other"] 2 (Con K 2 Zap):=by
 refine def3 (lv:=1) F sc_greatest_divisor rfl (fun f cdv A outer s H E hr=>⟨_,(Zab (Zan (i:=0) sc_greatest_divisor.nd rfl (Or.inl rfl) (Zkx (v3 0) (by rfl) B.abs_)) (Zab (Zan (i:=1) sc_greatest_divisor.nd rfl (Or.inl rfl) (Zkx (v3 1) (by rfl) B.abs_)) (Zab (ZiR PassesOwn.never (Zbp (f:=fun i j => !decide (i=j)) Zjy (v3 1) Zac (Zaq _)) (Zam (Zm0 (i:=0) (j:=1) rfl sc_greatest_divisor.nd rfl rfl (by decide) rfl rfl (Zaa (v3 1) (Zaa (Zhe (v3 0) (v3 1)) Zao)) rfl))) (Zam (ZaF (v3 0)))))),?_⟩)
 rintro as k hl ⟨a,b,rfl,hk⟩
 refine at3 (r:=[.val (.int a),.val (.int b)]) rfl ?_
 walk_at "wd"
 refine ⟨fun m ρ=>∃ (x y:Int),ρ=[.val (.int x),.val (.int y)]∧0≤x∧0≤y∧Int.gcd x y=Int.gcd a b∧m=y.toNat,⟨_,_,_,rfl,?_,?_,ZiZ a b,rfl⟩,?_⟩
 ·split <;> omega
 ·split <;> omega
 rintro m ρ ⟨x,y,rfl,x0,y0,hg,rfl⟩
 walk_at "wd"
 refine iteDn (fun g=>?_) (fun g=>?_)
 ·have g:0 < y:=by omega
  walk_at "wd"
  have m0:=Int.emod_nonneg x (show y≠0 by omega)
  have m1:=Int.emod_lt_of_pos x g
  exact ⟨_,_,rfl,_,by omega,_,_,rfl,y0,m0,by rw [Zf4 x0 g]; exact hg,rfl⟩
 ·subst g
  refine ⟨_,rfl,?_⟩
  rw [← ZbW x0,hg]
  exact hk
theorem sc_ratio:FnScope ["top", "bottom", "divisor"] ["top", "bottom"] (Zad Zfi):=⟨rfl,rfl,rfl,by decide +kernel,rfl,by decide +kernel,by decide +kernel⟩
def Zft:FS:=fun as k=>∃ (t b:Int),as=[.val (.int t),.val (.int b)]∧(b≠0)∧(intBits b≤9000)∧k (.val (dR (nrat t b)))
theorem Zj7 (B:Blts mg)   (F:Fnd K mg "ratio" Zfi ["top", "bottom"]) (c_greatest_divisor:Cal P w K mg base "greatest_divisor" ["one", "other"] 2 (Con K 2 Zap)) :
  Cal P w K mg base "ratio" ["top", "bottom"] 3 (Con K 2 Zft):=by
 refine def3 (lv:=2) F sc_ratio rfl (fun f cdv A outer s H E hr=>⟨_,(Zab (s_if (Zbp (f:=fun i j=>decide (i=j)) Zez (v3 1) Zac (Zaq _)) (Zam Zmo) Zbt) (Zab (Zan (i:=2) sc_ratio.nd rfl (Or.inl rfl) (Zaf c_greatest_divisor hr (by rfl) (Zae (v3 0) (Zae (v3 1) Zaj)))) (Zab (s_if (Zbp (f:=fun i j=>decide (i < j)) Zej (v3 1) Zac (Zaq _)) (Zam (Zan (i:=2) sc_ratio.nd rfl (Or.inl rfl) (ZdP (v3 2)))) Zbt) (Zam (ZaF (Zax (Zaa (Zav (v3 0) (v3 2)) (Zaa (Zav (v3 1) (v3 2)) Zao)))))))),?_⟩)
 rintro as k hl ⟨t,b,rfl,hb,bb,hk⟩
 refine at3 (r:=[.val (.int t),.val (.int b),.no]) rfl ?_
 walk_at "wd"
 refine iteD (fun g=>absurd g hb) (fun _=>?_)
 walk_at "w"
 refine ⟨_,_,rfl,?_⟩
 dsimp only [fzR]
 have gp:=ZbF (t:=t) hb
 have gb:=ZaQ (a:=t) hb bb
 refine mid4 (fun ρ=>ρ=[.val (.int t),.val (.int b),.val (.int (gsg t b))]) ?_ (fun N kk=>?_)
 ·rintro ρ rfl
  have d0:gsg t b≠0:=by unfold gsg; split <;> omega
  have db:intBits (gsg t b)≤9000:=by
   unfold gsg
   split
   ·exact intBits_neg_le gb
   ·exact gb
  walk_at "w"
  exact hk
 ·walk_at "wd"
  refine iteD (fun g=>?_) (fun g=>?_)
  ·walk_at "w"
   refine kk _ ?_
   unfold gsg
   rw [if_pos g]
   rfl
  ·refine kk _ ?_
   unfold gsg
   rw [if_neg g]
   rfl
theorem sc_plus:FnScope ["one", "other", "shared", "top", "divisor"] ["one", "other"] (Zad ZhB):=⟨rfl,rfl,rfl,by decide +kernel,rfl,by decide +kernel,by decide +kernel⟩
def Zgm:FS:=fun as k=>∃ (x y u v:Int),as=[.val (dR (x,y)),.val (dR (u,v))]∧(Low x y)∧(Low u v)∧(intBits x≤4000)∧(intBits y≤4000)∧(intBits u≤4000)∧(intBits v≤4000)∧k (.val (dR (nrat (x * v + u * y) (y * v))))
theorem ZlK (B:Blts mg)   (F:Fnd K mg "plus" ZhB ["one", "other"]) (c_greatest_divisor:Cal P w K mg base "greatest_divisor" ["one", "other"] 2 (Con K 2 Zap)) :
  Cal P w K mg base "plus" ["one", "other"] 3 (Con K 2 Zgm):=by
 refine def3 (lv:=2) F sc_plus rfl (fun f cdv A outer s H E hr=>⟨_,(Zab (Zan (i:=2) sc_plus.nd rfl (Or.inl rfl) (Zaf c_greatest_divisor hr (by rfl) (Zae (e_ix (v3 0) Zac (fun _ _=>rfl)) (Zae (e_ix (v3 1) Zac (fun _ _=>rfl)) Zaj)))) (Zab (Zan (i:=3) sc_plus.nd rfl (Or.inl rfl) (Zbw (ZaG (e_ix (v3 0) Zac (fun _ _=>rfl)) (Zav (e_ix (v3 1) Zac (fun _ _=>rfl)) (v3 2))) (ZaG (e_ix (v3 1) Zac (fun _ _=>rfl)) (Zav (e_ix (v3 0) Zac (fun _ _=>rfl)) (v3 2))))) (Zab (Zan (i:=4) sc_plus.nd rfl (Or.inl rfl) (Zaf c_greatest_divisor hr (by rfl) (Zae (v3 2) (Zae (v3 3) Zaj)))) (Zam (ZaF (Zax (Zaa (Zav (v3 3) (v3 4)) (Zaa (ZaG (Zav (e_ix (v3 0) Zac (fun _ _=>rfl)) (v3 2)) (Zav (e_ix (v3 1) Zac (fun _ _=>rfl)) (v3 4))) Zao)))))))),?_⟩)
 rintro as k hl ⟨x,y,u,v,rfl,l1,l2,bx,bY,bu,bv,hk⟩
 refine at3 (r:=[.val (dR (x,y)),.val (dR (u,v)),.no,.no,.no]) rfl ?_
 have v0:v≠0:=Int.ne_of_gt l2.1
 have sp:=ZbF (t:=y) (b:=v) v0
 have sb:=ZaQ (a:=y) (b:=v) v0 bv
 have pl:=fun top d=>Zku l1 l2 (s:=((Int.gcd y v:Nat):Int)) (top:=top) (d:=d) rfl
 walk_at "w"
 refine ⟨_,_,rfl,?_⟩
 dsimp only [fzR]
 generalize ((Int.gcd y v:Nat):Int)=s at *
 have b1:intBits (v.fdiv s)≤4000:=Zai (natAbs_fdiv_le _ _) bv
 have b2:intBits (y.fdiv s)≤4000:=Zai (natAbs_fdiv_le _ _) bY
 have tb:intBits (x * v.fdiv s + u * y.fdiv s)≤8001:=intBits_add_le (intBits_mul_le bx b1) (intBits_mul_le bu b2)
 have pl:=fun d=>pl _ d rfl
 walk_at "w"
 refine ⟨_,_,rfl,?_⟩
 dsimp only [fzR]
 generalize x * v.fdiv s + u * y.fdiv s=top at *
 have pl:=pl _ rfl
 have dp:=ZaV (a:=s) (b:=top) (.inl (Int.ne_of_gt sp))
 have db:intBits ((Int.gcd s top:Nat):Int)≤4000:=by
  rw [Int.gcd_comm]
  exact ZaQ (Int.ne_of_gt sp) sb
 generalize ((Int.gcd s top:Nat):Int)=d at *
 have b3:intBits (v.fdiv d)≤4000:=Zai (natAbs_fdiv_le _ _) bv
 rw [← pl] at hk
 walk_at "w"
 exact hk
theorem sc_times:FnScope ["one", "other", "first", "second"] ["one", "other"] (Zad ZfL):=⟨rfl,rfl,rfl,by decide +kernel,rfl,by decide +kernel,by decide +kernel⟩
def ZiG:FS:=fun as k=>∃ (x y u v:Int),as=[.val (dR (x,y)),.val (dR (u,v))]∧(Low x y)∧(Low u v)∧(intBits x≤4000)∧(intBits y≤4000)∧(intBits u≤4000)∧(intBits v≤4000)∧k (.val (dR (nrat (x * u) (y * v))))
theorem Zj1 (B:Blts mg)   (F:Fnd K mg "times" ZfL ["one", "other"]) (c_greatest_divisor:Cal P w K mg base "greatest_divisor" ["one", "other"] 2 (Con K 2 Zap)) :
  Cal P w K mg base "times" ["one", "other"] 3 (Con K 2 ZiG):=by
 refine def3 (lv:=2) F sc_times rfl (fun f cdv A outer s H E hr=>⟨_,(Zab (Zan (i:=2) sc_times.nd rfl (Or.inl rfl) (Zaf c_greatest_divisor hr (by rfl) (Zae (e_ix (v3 0) Zac (fun _ _=>rfl)) (Zae (e_ix (v3 1) Zac (fun _ _=>rfl)) Zaj)))) (Zab (Zan (i:=3) sc_times.nd rfl (Or.inl rfl) (Zaf c_greatest_divisor hr (by rfl) (Zae (e_ix (v3 1) Zac (fun _ _=>rfl)) (Zae (e_ix (v3 0) Zac (fun _ _=>rfl)) Zaj)))) (Zam (ZaF (Zax (Zaa (ZaG (Zav (e_ix (v3 0) Zac (fun _ _=>rfl)) (v3 2)) (Zav (e_ix (v3 1) Zac (fun _ _=>rfl)) (v3 3))) (Zaa (ZaG (Zav (e_ix (v3 0) Zac (fun _ _=>rfl)) (v3 3)) (Zav (e_ix (v3 1) Zac (fun _ _=>rfl)) (v3 2))) Zao))))))),?_⟩)
 rintro as k hl ⟨x,y,u,v,rfl,l1,l2,bx,bY,bu,bv,hk⟩
 refine at3 (r:=[.val (dR (x,y)),.val (dR (u,v)),.no,.no]) rfl ?_
 have v0:v≠0:=Int.ne_of_gt l2.1
 have y0:y≠0:=Int.ne_of_gt l1.1
 have fp:=ZbF (t:=x) (b:=v) v0
 have fb:=ZaQ (a:=x) (b:=v) v0 bv
 have hp:=ZbF (t:=u) (b:=y) y0
 have hb:=ZaQ (a:=u) (b:=y) y0 bY
 rw [← Zik l1 l2] at hk
 walk_at "w"
 refine ⟨_,_,rfl,?_⟩
 walk_at "w"
 refine ⟨_,_,rfl,?_⟩
 dsimp only [fzR]
 generalize ((Int.gcd x v:Nat):Int)=f at *
 generalize ((Int.gcd u y:Nat):Int)=g at *
 have b1:intBits (x.fdiv f)≤4000:=Zai (natAbs_fdiv_le _ _) bx
 have b2:intBits (u.fdiv g)≤4000:=Zai (natAbs_fdiv_le _ _) bu
 have b3:intBits (y.fdiv g)≤4000:=Zai (natAbs_fdiv_le _ _) bY
 have b4:intBits (v.fdiv f)≤4000:=Zai (natAbs_fdiv_le _ _) bv
 walk_at "w"
 exact hk
theorem sc_turned:FnScope ["p", "a", "b", "n"] ["p"] (Zad Zd5):=⟨rfl,rfl,rfl,by decide +kernel,rfl,by decide +kernel,by decide +kernel⟩
def ZfY:FS:=fun as k=>∃ (p:P3),as=[.val (dP p)]∧k (.val (dP (trn p)))
theorem Zje (B:Blts mg)   (F:Fnd K mg "turned" Zd5 ["p"])  :
  Cal P w K mg base "turned" ["p"] 2 (Con K 1 ZfY):=by
 refine def3 (lv:=1) F sc_turned rfl (fun f cdv A outer s H E hr=>⟨_,(Zab (Zdm (v3 0) (Zbf (n:=3) rfl (Zah (Zag (i:=1) sc_turned.nd rfl (Or.inl rfl)) (Zah (Zag (i:=2) sc_turned.nd rfl (Or.inl rfl)) (Zah (Zag (i:=3) sc_turned.nd rfl (Or.inl rfl)) ZaK))))) (Zam (ZaF (Zax (Zaa (ZdP (v3 1)) (Zaa (ZdP (v3 2)) (Zaa (v3 3) Zao))))))),?_⟩)
 rintro as k hl ⟨p,rfl,hk⟩
 refine at3 (r:=[.val (dP p),.no,.no,.no]) rfl ?_
 walk_at "w"
 refine ⟨_,_,rfl,_,_,rfl,_,_,rfl,rfl,?_⟩
 walk_at "w"
 exact hk
theorem sc_slid:FnScope ["p", "step", "a", "b", "n", "right", "up", "parts", "shared", "x", "y", "divisor"] ["p", "step"] (Zad Zi4):=⟨rfl,rfl,rfl,by decide +kernel,rfl,by decide +kernel,by decide +kernel⟩
def Zlx:FS:=fun as k=>∃ (p g:P3),as=[.val (dP p),.val (dP g)]∧(PtP p)∧(BP 1000 p)∧(PtP g)∧(BP 1000 g)∧k (.val (dP (nP (sld g p))))
theorem ZmU (B:Blts mg)   (F:Fnd K mg "slid" Zi4 ["p", "step"]) (c_greatest_divisor:Cal P w K mg base "greatest_divisor" ["one", "other"] 2 (Con K 2 Zap)) :
  Cal P w K mg base "slid" ["p", "step"] 3 (Con K 2 Zlx):=by
 refine def3 (lv:=2) F sc_slid rfl (fun f cdv A outer s H E hr=>⟨_,(Zab (Zdm (v3 0) (Zbf (n:=3) rfl (Zah (Zag (i:=2) sc_slid.nd rfl (Or.inl rfl)) (Zah (Zag (i:=3) sc_slid.nd rfl (Or.inl rfl)) (Zah (Zag (i:=4) sc_slid.nd rfl (Or.inl rfl)) ZaK))))) (Zab (Zdm (v3 1) (Zbf (n:=3) rfl (Zah (Zag (i:=5) sc_slid.nd rfl (Or.inl rfl)) (Zah (Zag (i:=6) sc_slid.nd rfl (Or.inl rfl)) (Zah (Zag (i:=7) sc_slid.nd rfl (Or.inl rfl)) ZaK))))) (Zab (Zan (i:=8) sc_slid.nd rfl (Or.inl rfl) (Zaf c_greatest_divisor hr (by rfl) (Zae (v3 4) (Zae (v3 7) Zaj)))) (Zab (Zan (i:=9) sc_slid.nd rfl (Or.inl rfl) (Zbw (ZaG (v3 2) (Zav (v3 7) (v3 8))) (ZaG (v3 5) (Zav (v3 4) (v3 8))))) (Zab (Zan (i:=10) sc_slid.nd rfl (Or.inl rfl) (Zbw (ZaG (v3 3) (Zav (v3 7) (v3 8))) (ZaG (v3 6) (Zav (v3 4) (v3 8))))) (Zab (Zan (i:=11) sc_slid.nd rfl (Or.inl rfl) (Zaf c_greatest_divisor hr (by rfl) (Zae (Zaf c_greatest_divisor hr (by rfl) (Zae (v3 8) (Zae (v3 9) Zaj))) (Zae (v3 10) Zaj)))) (Zam (ZaF (Zax (Zaa (Zav (v3 9) (v3 11)) (Zaa (Zav (v3 10) (v3 11)) (Zaa (ZaG (Zav (v3 4) (v3 8)) (Zav (v3 7) (v3 11))) Zao)))))))))))),?_⟩)
 rintro as k hl ⟨p,g,rfl,h0p,bp,h0g,bg,hk⟩
 refine at3 (r:=[.val (dP p),.val (dP g),.no,.no,.no,.no,.no,.no,.no,.no,.no,.no]) rfl ?_
 obtain ⟨a,b,n⟩:=p
 obtain ⟨r,w,m⟩:=g
 have h1:intBits a≤1000:=bp.a
 have h2:intBits b≤1000:=bp.b
 have h3:intBits n≤1000:=bp.c
 have h4:intBits r≤1000:=bg.a
 have h5:intBits w≤1000:=bg.b
 have h6:intBits m≤1000:=bg.c
 have n0:n≠0:=Int.ne_of_gt h0p.1
 have m0:m≠0:=Int.ne_of_gt h0g.1
 have sp:=ZbF (t:=n) (b:=m) m0
 have sb:=ZaQ (a:=n) (b:=m) m0 h6
 have pl:=fun X Y d=>Zkk (a:=a) (b:=b) (n:=n) (r:=r) (w:=w) (m:=m) h0p h0g (s:=((Int.gcd n m:Nat):Int)) (X:=X) (Y:=Y) (d:=d) rfl
 have hk:k (.val (dP (npt (a * m + r * n) (b * m + w * n) (n * m)))):=hk
 refine ⟨_,rfl,_,rfl,rfl,_,_,rfl,_,_,rfl,_,_,rfl,rfl,?_⟩
 refine ⟨_,rfl,_,rfl,rfl,_,_,rfl,_,_,rfl,_,_,rfl,rfl,?_⟩
 walk_at "w"
 refine ⟨_,_,rfl,?_⟩
 dsimp only [fzR]
 generalize ((Int.gcd n m:Nat):Int)=s at *
 have b1:intBits (m.fdiv s)≤1000:=Zai (natAbs_fdiv_le _ _) h6
 have b2:intBits (n.fdiv s)≤1000:=Zai (natAbs_fdiv_le _ _) h3
 have tb:intBits (a * m.fdiv s + r * n.fdiv s)≤2001:=intBits_add_le (intBits_mul_le h1 b1) (intBits_mul_le h4 b2)
 have ub:intBits (b * m.fdiv s + w * n.fdiv s)≤2001:=intBits_add_le (intBits_mul_le h2 b1) (intBits_mul_le h5 b2)
 have pl:=fun d=>pl _ _ d rfl rfl
 walk_at "w"
 refine ⟨_,_,rfl,?_⟩
 dsimp only [fzR]
 walk_at "w"
 refine ⟨_,_,rfl,?_⟩
 dsimp only [fzR]
 generalize a * m.fdiv s + r * n.fdiv s=X at *
 generalize b * m.fdiv s + w * n.fdiv s=Y at *
 have pl:=pl _ rfl
 have ep:=ZaV (a:=s) (b:=X) (.inl (Int.ne_of_gt sp))
 have eb:intBits ((Int.gcd s X:Nat):Int)≤1000:=by
  rw [Int.gcd_comm]
  exact ZaQ (Int.ne_of_gt sp) sb
 generalize ((Int.gcd s X:Nat):Int)=e at *
 have dp:=ZaV (a:=e) (b:=Y) (.inl (Int.ne_of_gt ep))
 have db:intBits ((Int.gcd e Y:Nat):Int)≤1000:=by
  rw [Int.gcd_comm]
  exact ZaQ (Int.ne_of_gt ep) eb
 generalize ((Int.gcd e Y:Nat):Int)=d at *
 have b3:intBits (m.fdiv d)≤1000:=Zai (natAbs_fdiv_le _ _) h6
 rw [← pl] at hk
 walk_at "w"
 exact hk
theorem sc_crossed:FnScope ["one", "other", "a", "b", "n", "c", "d", "m"] ["one", "other"] (Zad ZcL):=⟨rfl,rfl,rfl,by decide +kernel,rfl,by decide +kernel,by decide +kernel⟩
def ZeZ:FS:=fun as k=>∃ (p q:P3),as=[.val (dP p),.val (dP q)]∧(BP 2000 p)∧(BP 2000 q)∧k (.val (dP (crs p q)))
theorem Zha (B:Blts mg)   (F:Fnd K mg "crossed" ZcL ["one", "other"])  :
  Cal P w K mg base "crossed" ["one", "other"] 2 (Con K 2 ZeZ):=by
 refine def3 (lv:=1) F sc_crossed rfl (fun f cdv A outer s H E hr=>⟨_,(Zab (Zdm (v3 0) (Zbf (n:=3) rfl (Zah (Zag (i:=2) sc_crossed.nd rfl (Or.inl rfl)) (Zah (Zag (i:=3) sc_crossed.nd rfl (Or.inl rfl)) (Zah (Zag (i:=4) sc_crossed.nd rfl (Or.inl rfl)) ZaK))))) (Zab (Zdm (v3 1) (Zbf (n:=3) rfl (Zah (Zag (i:=5) sc_crossed.nd rfl (Or.inl rfl)) (Zah (Zag (i:=6) sc_crossed.nd rfl (Or.inl rfl)) (Zah (Zag (i:=7) sc_crossed.nd rfl (Or.inl rfl)) ZaK))))) (Zam (ZaF (Zax (Zaa (Zb8 (ZaG (v3 3) (v3 7)) (ZaG (v3 4) (v3 6))) (Zaa (Zb8 (ZaG (v3 4) (v3 5)) (ZaG (v3 2) (v3 7))) (Zaa (Zb8 (ZaG (v3 2) (v3 6)) (ZaG (v3 3) (v3 5))) Zao)))))))),?_⟩)
 rintro as k hl ⟨p,q,rfl,bp,bq,hk⟩
 refine at3 (r:=[.val (dP p),.val (dP q),.no,.no,.no,.no,.no,.no]) rfl ?_
 have h1:=bp.a
 have h2:=bp.b
 have h3:=bp.c
 have h4:=bq.a
 have h5:=bq.b
 have h6:=bq.c
 walk_at "w"
 refine ⟨_,_,rfl,_,_,rfl,_,_,rfl,rfl,?_⟩
 walk_at "w"
 refine ⟨_,_,rfl,_,_,rfl,_,_,rfl,rfl,?_⟩
 walk_at "w"
 exact hk
theorem Zhg:FnScope ["p", "q"] ["p", "q"] (Zad Zdh):=⟨rfl,rfl,rfl,by decide +kernel,rfl,by decide +kernel,by decide +kernel⟩
def Ze6:FS:=fun as k=>∃ (p q:P3),as=[.val (dP p),.val (dP q)]∧(PtP p)∧(BP 1000 p)∧(PtP q)∧(BP 1000 q)∧k (.val (dP (nP (sld (trn p) q))))
theorem Zhj (B:Blts mg)   (F:Fnd K mg "step_to" Zdh ["p", "q"]) (c_slid:Cal P w K mg base "slid" ["p", "step"] 3 (Con K 2 Zlx)) (c_turned:Cal P w K mg base "turned" ["p"] 2 (Con K 1 ZfY)) :
  Cal P w K mg base "step_to" ["p", "q"] 4 (Con K 2 Ze6):=by
 refine def3 (lv:=3) F Zhg rfl (fun f cdv A outer s H E hr=>⟨_,(Zam (ZaF (Zaf c_slid hr (by rfl) (Zae (v3 1) (Zae (Zaf c_turned hr (by rfl) (Zae (v3 0) Zaj)) Zaj))))),?_⟩)
 rintro as k hl ⟨p,q,rfl,h0p,bp,h0q,bq,hk⟩
 refine at3 (r:=[.val (dP p),.val (dP q)]) rfl ?_
 refine ⟨_,rfl,_,rfl,rfl,p,rfl,?_⟩
 exact ⟨rfl,q,trn p,rfl,h0q,bq,pt_neg h0p,⟨intBits_neg_le bp.a,intBits_neg_le bp.b,bp.c⟩,hk⟩
theorem ZfM:FnScope ["ring"] ["ring"] (Zad Zck):=⟨rfl,rfl,rfl,by decide +kernel,rfl,by decide +kernel,by decide +kernel⟩
def ZdS:FS:=fun as k=>∃ (ps:List P3),as=[.val (.lst (ps.map dP))]∧(1≤ps.length)∧(ps.length≤1000)∧k (.own ((ps.zip (ps.drop 1 ++ ps.take 1)).map dPr))
theorem ZiC (B:Blts mg)   (F:Fnd K mg "sides_of" Zck ["ring"])  :
  Cal P w K mg base "sides_of" ["ring"] 2 (Con K 1 ZdS):=by
 refine def3 (lv:=1) F ZfM rfl (fun f cdv A outer s H E hr=>⟨_,(Zam (ZlE (o_zip (v3 0) (o_e (Zg2 (o_e (Zbl (v3 0) (ZbB Zac) Zcp)) (o_e (Zbl (v3 0) Zcp (ZbB Zac))))) rfl (by rfl) B.list_ (by rfl) B.zip_))),?_⟩)
 rintro as k hl ⟨ps,rfl,n1,n2,hk⟩
 refine at3 (r:=[.val (.lst (ps.map dP))]) rfl ?_
 have big:1000≤sizeLine:=by decide
 have e1:cutL (ps.map dP) (some 1) none=(ps.drop 1).map dP:=by
  rw [ZbS (by decide) (by rw [List.length_map]; omega),← List.map_drop]; rfl
 have e2:cutL (ps.map dP) none (some 1)=(ps.take 1).map dP:=by
  rw [Zde (by decide) (by rw [List.length_map]; omega),← List.map_take]; rfl
 refine ⟨_,rfl,_,rfl,_,rfl,_,rfl,_,rfl,_,rfl,_,rfl,_,_,rfl,rfl,?_,_,_,rfl,rfl,?_⟩
 ·rw [e1,e2]
  simp only [List.length_map,List.length_drop,List.length_take]
  omega
 rw [e1,e2,← List.map_append,List.zip_map,List.map_map]
 exact hk
theorem sc_way_of:FnScope ["step", "a", "b", "n", "parts"] ["step"] (Zad Zet):=⟨rfl,rfl,rfl,by decide +kernel,rfl,by decide +kernel,by decide +kernel⟩
def Zf2:FS:=fun as k=>∃ (a b n:Int),as=[.val (dP (a,b,n))]∧(a≠0∨b≠0)∧(n≠0)∧(intBits a≤4000)∧(intBits b≤4000)∧(intBits n≤4000)∧k (.val (.tup [dR (wdir a b),dR (nrat (wpar a b) n)]))
theorem Zi3 (B:Blts mg)   (F:Fnd K mg "way_of" Zet ["step"]) (c_greatest_divisor:Cal P w K mg base "greatest_divisor" ["one", "other"] 2 (Con K 2 Zap)) (c_ratio:Cal P w K mg base "ratio" ["top", "bottom"] 3 (Con K 2 Zft)) :
  Cal P w K mg base "way_of" ["step"] 4 (Con K 1 Zf2):=by
 refine def3 (lv:=3) F sc_way_of rfl (fun f cdv A outer s H E hr=>⟨_,(Zab (Zdm (v3 0) (Zbf (n:=3) rfl (Zah (Zag (i:=1) sc_way_of.nd rfl (Or.inl rfl)) (Zah (Zag (i:=2) sc_way_of.nd rfl (Or.inl rfl)) (Zah (Zag (i:=3) sc_way_of.nd rfl (Or.inl rfl)) ZaK))))) (Zab (Zan (i:=4) sc_way_of.nd rfl (Or.inl rfl) (Zaf c_greatest_divisor hr (by rfl) (Zae (v3 1) (Zae (v3 2) Zaj)))) (Zab (s_if (w_t (w_or (Zbp (f:=fun i j=>decide (i < j)) Zej (v3 2) Zac (Zaq _)) (ZkR (w_t (w_and (Zbp (f:=fun i j=>decide (i=j)) Zez (v3 2) Zac (Zaq _)) (ZlG (Zbp (f:=fun i j=>decide (i < j)) Zej (v3 1) Zac (Zaq _)))))))) (Zam (Zan (i:=4) sc_way_of.nd rfl (Or.inl rfl) (ZdP (v3 4)))) Zbt) (Zam (ZaF (Zax (Zaa (Zax (Zaa (Zav (v3 1) (v3 4)) (Zaa (Zav (v3 2) (v3 4)) Zao))) (Zaa (Zaf c_ratio hr (by rfl) (Zae (v3 4) (Zae (v3 3) Zaj))) Zao)))))))),?_⟩)
 rintro as k hl ⟨a,b,n,rfl,hab,hn,ba,bb,bn,hk⟩
 refine at3 (r:=[.val (dP (a,b,n)),.no,.no,.no,.no]) rfl ?_
 refine ⟨_,rfl,_,rfl,rfl,_,_,rfl,_,_,rfl,_,_,rfl,rfl,?_⟩
 walk_at "w"
 refine ⟨_,_,rfl,?_⟩
 dsimp only [fzR]
 have gb:=ZcT hab ba bb
 refine mid4 (fun ρ=>ρ=[.val (dP (a,b,n)),.val (.int a),.val (.int b),.val (.int n),.val (.int (wpar a b))]) ?_ (fun N kk=>?_)
 ·rintro ρ rfl
  have d0:=Zcd hab
  have db:intBits (wpar a b)≤4000:=by
   unfold wpar
   split
   ·exact intBits_neg_le gb
   ·exact gb
  walk_at "w"
  refine ⟨_,_,rfl,hn,by walk_at "bits", ?_⟩
  walk_at "w"
  exact hk
 ·have pos:b < 0∨b=0∧a < 0→wpar a b = -((Int.gcd a b:Nat):Int):=fun h=>by unfold wpar; rw [if_pos h]
  have ngt:¬ (b < 0∨b=0∧a < 0)→wpar a b=((Int.gcd a b:Nat):Int):=fun h=>by unfold wpar; rw [if_neg h]
  walk_at "wd"
  refine iteD (fun g=>?_) (fun g=>?_)
  ·refine Zhl rfl ?_
   walk_at "w"
   exact kk _ (by rw [pos (.inl g)]; rfl)
  ·walk_at "wd"
   refine iteD (fun g2=>?_) (fun g2=>?_)
   ·walk_at "wd"
    refine iteD (fun g3=>?_) (fun g3=>?_)
    ·walk_at "w"
     exact kk _ (by rw [pos (.inr ⟨g2,g3⟩)]; rfl)
    ·exact kk _ (by rw [ngt (by omega)]; rfl)
   ·refine Zdr rfl ?_
    exact kk _ (by rw [ngt (by omega)]; rfl)
theorem sc_ring_area:FnScope ["ring", "twice", "p", "q"] ["ring"] (Zad ZbK):=⟨rfl,rfl,rfl,by decide +kernel,rfl,by decide +kernel,by decide +kernel⟩
def Zcm:FS:=fun as k=>∃ (ps:List P3) (m:Nat),as=[.val (.lst (ps.map dP))]∧(1≤ps.length)∧(ps.length≤1000)∧(∀ p∈ps,0 < p.2.2∧BP m p)∧(ps.length * (2 * m + 2) + 1≤3000)∧∀ T:F2,IsF T (fsum (cyc ps))→k (.val (dR (nrat (T.1 * 1) (T.2 * 2))))
theorem Zed (B:Blts mg)   (F:Fnd K mg "ring_area" ZbK ["ring"]) (c_sides_of:Cal P w K mg base "sides_of" ["ring"] 2 (Con K 1 ZdS)) (c_plus:Cal P w K mg base "plus" ["one", "other"] 3 (Con K 2 Zgm)) (c_ratio:Cal P w K mg base "ratio" ["top", "bottom"] 3 (Con K 2 Zft)) (c_crossed:Cal P w K mg base "crossed" ["one", "other"] 2 (Con K 2 ZeZ)) (c_times:Cal P w K mg base "times" ["one", "other"] 3 (Con K 2 ZiG)) :
  Cal P w K mg base "ring_area" ["ring"] 4 (Con K 1 Zcm):=by
 refine def3 (lv:=3) F sc_ring_area rfl (fun f cdv A outer s H E hr=>⟨_,(Zab (Zan (i:=1) sc_ring_area.nd rfl (Or.inl rfl) (Zax (Zaa Zac (Zaa Zac Zao)))) (Zab (Zbx PassesOwn.never rfl (ZaT (Zaf c_sides_of hr (by rfl) (Zae (v3 0) Zaj))) (Zbf (n:=2) rfl (Zah (Zag (i:=2) sc_ring_area.nd rfl (Or.inl rfl)) (Zah (Zag (i:=3) sc_ring_area.nd rfl (Or.inl rfl)) ZaK))) (Zam (Zan (i:=1) sc_ring_area.nd rfl (Or.inl rfl) (Zaf c_plus hr (by rfl) (Zae (v3 1) (Zae (Zaf c_ratio hr (by rfl) (Zae (e_ix (Zaf c_crossed hr (by rfl) (Zae (v3 2) (Zae (v3 3) Zaj))) Zac (fun _ _=>rfl)) (Zae (ZaG (e_ix (v3 2) Zac (fun _ _=>rfl)) (e_ix (v3 3) Zac (fun _ _=>rfl))) Zaj))) Zaj)))))) (Zam (ZaF (Zaf c_times hr (by rfl) (Zae (v3 1) (Zae (Zax (Zaa Zac (Zaa Zac Zao))) Zaj))))))),?_⟩)
 rintro as k hl ⟨ps,m,rfl,n1,n2,hps,hm,hk⟩
 refine at3 (r:=[.val (.lst (ps.map dP)),.no,.no,.no]) rfl ?_
 have mm:m≤1499:=by
  have:=Nat.mul_le_mul_right (2 * m + 2) n1
  omega
 have sl:((ps.zip (ps.drop 1 ++ ps.take 1)).map fun s=>sdf s.1 s.2)=cyc ps:=Zja ps
 have cl:=Zdy ps
 have cb:∀ x∈cyc ps,intBits x.1≤2 * m + 1∧intBits x.2≤2 * m + 1:=ZiJ (G:=fun p=>p∈ps) (fun p q hp hq=>ZdV (hps p hp).2 (hps q hq).2) (fun p hp=>hp)
 have inz:∀ s∈ps.zip (ps.drop 1 ++ ps.take 1),s.1∈ps∧s.2∈ps:=fun s hs=>by
  obtain ⟨h1,h2⟩:=List.of_mem_zip hs
  refine ⟨h1,?_⟩
  rcases List.mem_append.mp h2 with h | h
  ·exact List.mem_of_mem_drop h
  ·exact List.mem_of_mem_take h
 have zl:(ps.zip (ps.drop 1 ++ ps.take 1)).length=ps.length:=by rw [← cl,← sl,List.length_map]
 refine ⟨by show 2≤sizeLine; decide,?_⟩
 dsimp only
 refine at3 (r:=[.val (.lst (ps.map dP)),.val (dR (0,1)),.no,.no]) rfl ?_
 refine mid4 (fun ρ=>∃ (T:F2) (v2 v3:Sl),ρ=[.val (.lst (ps.map dP)),.val (dR T),v2,v3]∧IsF T (fsum (cyc ps))) ?_ (fun N kk=>?_)
 rotate_left
 ·refine ⟨_,rfl,rfl,ps,rfl,n1,n2,?_⟩
  refine ⟨_,rfl,?_⟩
  refine ZfP (n:=0) (fun i ρ=>∃ (T:F2) (v2 v3:Sl),ρ=[.val (.lst (ps.map dP)),.val (dR T),v2,v3]∧IsF T (fsum ((cyc ps).take i))) ⟨_,_,_,rfl,IsF.zero⟩ ?_ ?_ (fun d ρ k k' h ⟨ds,e1,e2,a,b,e3,c,d',e4,e5,e6⟩=>⟨ds,e1,e2,a,b,e3,c,d',e4,e5,h _ e6⟩)
  ·rintro i d ρ hi ⟨T,v2,v3,rfl,hT⟩
   rw [List.getElem?_map] at hi
   cases hs:(ps.zip (ps.drop 1 ++ ps.take 1))[i]? with
   | none=>rw [hs] at hi; cases hi
   | some s =>
    rw [hs] at hi
    cases hi
    obtain ⟨p,q⟩:=s
    obtain ⟨ip,iq⟩:=inz _ (List.mem_of_getElem? hs)
    obtain ⟨p0,bp⟩:=hps p ip
    obtain ⟨q0,bq⟩:=hps q iq
    have hc:(cyc ps)[i]?=some (sdf p q):=by rw [← sl,List.getElem?_map,hs]; rfl
    rw [Nat.zero_add] at hT
    obtain ⟨t1,t2⟩:=ZdJ cb (Nat.le_of_eq cl) hm i hT
    have d0:0 < p.2.2 * q.2.2:=Int.mul_pos p0 q0
    have hn:=hT.add (IsF.low (c:=(crs p q).2.2) d0)
    obtain ⟨lr,_,r1,r2⟩:=Zaw (t:=(crs p q).2.2) (b:=p.2.2 * q.2.2) (Int.ne_of_gt d0)
    obtain ⟨s1,s2⟩:=ZdV bp bq
    have u1:intBits (nrat (crs p q).2.2 (p.2.2 * q.2.2)).1≤3000:=Nat.le_trans (Zai r1 s1) (by omega)
    have u2:intBits (nrat (crs p q).2.2 (p.2.2 * q.2.2)).2≤3000:=Nat.le_trans (Zai r2 s2) (by omega)
    have c1:=bp.c
    have c2:=bq.c
    refine ⟨_,rfl,rfl,_,_,rfl,_,_,rfl,rfl,fun N kk=>?_⟩
    refine ⟨_,rfl,_,rfl,_,rfl,rfl,p,q,rfl,bp.mono (by omega),bq.mono (by omega),?_⟩
    refine ⟨_,_,_,.inl rfl,rfl,rfl,_,rfl,_,_,_,.inl rfl,rfl,rfl,_,rfl,_,_,_,.inl rfl,rfl,rfl,?_⟩
    refine ⟨_,_,rfl,rfl,⟨Nat.le_trans c1 (by omega),Nat.le_trans c2 (by omega)⟩,rfl,_,_,rfl,Int.ne_of_gt d0,Nat.le_trans (intBits_mul_le c1 c2) (by omega),?_⟩
    refine ⟨rfl,T.1,T.2,_,_,rfl,hT.1,lr,by walk_at "bits", by walk_at "bits", by walk_at "bits", by walk_at "bits", ?_⟩
    refine kk _ ⟨_,_,_,rfl,?_⟩
    have e:(cyc ps).take (0 + i + 1)=(cyc ps).take i ++ [sdf p q]:=by rw [Nat.zero_add,List.take_add_one,hc]; rfl
    rw [e,ZhU]
    exact hn
  ·rintro ρ ⟨T,v2,v3,rfl,hT⟩
   refine kk _ ⟨T,v2,v3,rfl,?_⟩
   rw [List.length_map,zl,Nat.zero_add,← cl,List.take_length] at hT
   exact hT
 rintro ρ ⟨T,v2,v3,rfl,hT⟩
 obtain ⟨t1,t2⟩:=ZdJ cb (Nat.le_of_eq cl) hm (cyc ps).length (by rw [List.take_length]; exact hT)
 refine ⟨_,rfl,by show 2≤sizeLine; decide,rfl,T.1,T.2,1,2,rfl,hT.1,⟨by decide,by decide⟩,by walk_at "bits", by walk_at "bits", by walk_at "bits", by walk_at "bits", hk T hT⟩
theorem sc_area:FnScope ["cloth", "total", "ring"] ["cloth"] (Zad ZhV):=⟨rfl,rfl,rfl,by decide +kernel,rfl,by decide +kernel,by decide +kernel⟩
def Zhw:FS:=fun as k=>∃ (cs:RP) (m:Nat),as=[.val (.lst (cs.map dH))]∧(cs.length≤8)∧((cs.map List.length).sum≤1000)∧(∀ ps∈cs,1≤ps.length∧∀ p∈ps,0 < p.2.2∧BP m p)∧((cs.map List.length).sum * (2 * m + 2) + 3≤3000)∧∀ T:F2,IsF T (hf (fsum (cs.flatMap cyc)))→k (.val (dR T))
theorem ZkJ (B:Blts mg)   (F:Fnd K mg "area" ZhV ["cloth"]) (c_plus:Cal P w K mg base "plus" ["one", "other"] 3 (Con K 2 Zgm)) (c_ring_area:Cal P w K mg base "ring_area" ["ring"] 4 (Con K 1 Zcm)) :
  Cal P w K mg base "area" ["cloth"] 5 (Con K 1 Zhw):=by
 refine def3 (lv:=4) F sc_area rfl (fun f cdv A outer s H E hr=>⟨_,(Zab (Zan (i:=1) sc_area.nd rfl (Or.inl rfl) (Zax (Zaa Zac (Zaa Zac Zao)))) (Zab (Zbx PassesOwn.never rfl (ZaT (v3 0)) (Zag (i:=2) sc_area.nd rfl (Or.inl rfl)) (Zam (Zan (i:=1) sc_area.nd rfl (Or.inl rfl) (Zaf c_plus hr (by rfl) (Zae (v3 1) (Zae (Zaf c_ring_area hr (by rfl) (Zae (v3 2) Zaj)) Zaj)))))) (Zam (ZaF (v3 1))))),?_⟩)
 rintro as k hl ⟨cs,m,rfl,hl,hl2,hps,hm,hk⟩
 refine at3 (r:=[.val (.lst (cs.map dH)),.no,.no]) rfl ?_
 refine ⟨by show 2≤sizeLine; decide,?_⟩
 dsimp only
 refine at3 (r:=[.val (.lst (cs.map dH)),.val (dR (0,1)),.no]) rfl ?_
 refine mid4 (fun ρ=>∃ (T:F2) (v2:Sl),ρ=[.val (.lst (cs.map dH)),.val (dR T),v2]∧IsF T (hf (fsum (cs.flatMap cyc)))) (fun ρ ⟨T,v2,e,h⟩=>by subst e; exact ⟨_,rfl,hk T h⟩) (fun N kk=>?_)
 refine ⟨_,rfl,_,rfl,?_⟩
 refine Za5 (f:=dH) (done:=[]) (fun pre ρ=>∃ (T:F2) (v2:Sl),ρ=[.val (.lst (cs.map dH)),.val (dR T),v2]∧IsF T (hf (fsum (pre.flatMap cyc)))) ⟨(0,1),_,rfl,⟨⟨by decide,by decide⟩,by decide,rfl⟩⟩ ?_ (fun ρ ⟨T,v2,e,h⟩=>kk _ ⟨T,v2,e,by rw [List.nil_append] at h; exact h⟩)
 clear kk
 rintro pre ps rest ρ he ⟨T,v2,rfl,hT⟩ N kk
 rw [List.nil_append] at he
 have mem:ps∈cs:=by rw [he]; simp
 have pmem:∀ qs∈pre,qs∈cs:=fun qs h=>by rw [he]; simp [h]
 obtain ⟨n1,pp⟩:=hps ps mem
 have tot:(cs.map List.length).sum=(pre.map List.length).sum + (ps.length + (rest.map List.length).sum):=by rw [he,List.map_append,List.sum_append,List.map_cons,List.sum_cons]
 have le1:ps.length * (2 * m + 2)≤(cs.map List.length).sum * (2 * m + 2):=Nat.mul_le_mul_right _ (by omega)
 have le2:(pre.map List.length).sum * (2 * m + 2)≤(cs.map List.length).sum * (2 * m + 2):=Nat.mul_le_mul_right _ (by omega)
 have le3:ps.length * 2≤ps.length * (2 * m + 2):=Nat.mul_le_mul_left _ (by omega)
 obtain ⟨x1,x2⟩:=ZdG (m:=m) (cs:=pre) fun qs h p hp=>((hps qs (pmem qs h)).2 p hp).2
 obtain ⟨t1,t2⟩:=Zjf hT x1 x2
 refine ⟨_,rfl,_,rfl,rfl,ps,m,rfl,n1,by omega,pp,by omega,fun R hR=>?_⟩
 have hR2:=ZlL hR
 obtain ⟨y1,y2⟩:=ZdG (m:=m) (cs:=[ps]) fun qs h p hp=>by
  rw [List.mem_singleton.mp h] at hp
  exact (pp p hp).2
 have e1:fsum ([ps].flatMap cyc)=fsum (cyc ps):=by rw [List.flatMap_cons,List.flatMap_nil,List.append_nil]
 have e2:([ps].map List.length).sum=ps.length:=by simp
 rw [e1,e2] at y1 y2
 obtain ⟨r1,r2⟩:=Zjf hR2 y1 y2
 have py:=(ZkS fun p hp=>(pp p hp).1).1
 have px:0 < (fsum (pre.flatMap cyc)).2:=by have:0 < 2 * (fsum (pre.flatMap cyc)).2:=hT.2.1; omega
 refine ⟨rfl,T.1,T.2,(nrat (R.1 * 1) (R.2 * 2)).1,(nrat (R.1 * 1) (R.2 * 2)).2,rfl,hT.1,hR2.1,by omega,by omega,by omega,by omega,?_⟩
 refine kk _ ⟨_,.val (dH ps),rfl,?_⟩
 have en:fsum ((pre ++ [ps]).flatMap cyc)=fadd (fsum (pre.flatMap cyc)) (fsum (cyc ps)):=by rw [List.flatMap_append,ZaP,e1]
 rw [en]
 exact hf_add px py (hT.add hR2)
theorem sc_marks:FnScope ["cloth", "sums", "ring", "p", "q", "direction", "share"] ["cloth"] (Zad Zfd):=⟨rfl,rfl,rfl,by decide +kernel,rfl,by decide +kernel,by decide +kernel⟩
def Zd1:FS:=fun as k=>∃ (rs:RR) (n:Int),as=[.val (.lst (rs.map fun r=>.lst (r.map fun p=>dP (npt p.1 p.2 n))))]∧(RgsW 20000000000 rs)∧(1≤n)∧(n≤12000000)∧∀ L,MkOk (smR rs) n L→L.length≤24→k (.own (L.map dMk))
theorem Zjc (B:Blts mg)   (F:Fnd K mg "marks" Zfd ["cloth"]) (c_sides_of:Cal P w K mg base "sides_of" ["ring"] 2 (Con K 1 ZdS)) (c_way_of:Cal P w K mg base "way_of" ["step"] 4 (Con K 1 Zf2)) (c_step_to:Cal P w K mg base "step_to" ["p", "q"] 4 (Con K 2 Ze6)) (c_plus:Cal P w K mg base "plus" ["one", "other"] 3 (Con K 2 Zgm)) :
  Cal P w K mg base "marks" ["cloth"] 5 (Con K 1 Zd1):=by
 refine def3 (lv:=4) F sc_marks rfl (fun f cdv A outer s H E hr=>⟨_,(Zab (ZhX (b:=false) (i:=1) sc_marks.nd rfl (Or.inl rfl)) (Zab (Zbx PassesOwn.never rfl (ZaT (v3 0)) (Zag (i:=2) sc_marks.nd rfl (Or.inl rfl)) (Zam (Zbx PassesOwn.never rfl (ZaT (Zaf c_sides_of hr (by rfl) (Zae (v3 2) Zaj))) (Zbf (n:=2) rfl (Zah (Zag (i:=3) sc_marks.nd rfl (Or.inl rfl)) (Zah (Zag (i:=4) sc_marks.nd rfl (Or.inl rfl)) ZaK))) (Zab (Zdm (Zaf c_way_of hr (by rfl) (Zae (Zaf c_step_to hr (by rfl) (Zae (v3 3) (Zae (v3 4) Zaj))) Zaj)) (Zbf (n:=2) rfl (Zah (Zag (i:=5) sc_marks.nd rfl (Or.inl rfl)) (Zah (Zag (i:=6) sc_marks.nd rfl (Or.inl rfl)) ZaK)))) (Zam (ZjA (b:=false) 1 (hu4 hr) (v3 5) (Zaf c_plus hr (by rfl) (Zae (Zc1 (b:=false) 1 (hu4 hr) (v3 5) (Zax (Zaa Zac (Zaa Zac Zao)))) (Zae (v3 6) Zaj))))))))) (Znf 1 (Zam (ZlE (ZmM (b:=true) (hr.units) (o_e (Zl6 (ts:=["direction", "total"]) (fr:=[]) (js:=[]) (ZmX (v3 1)) (fun _ _ _ _=>(Zbf (n:=2) rfl (Zah (Zag (i:=0) (show List.Nodup (["direction", "total"]:List Str) by decide +kernel) rfl (Or.inl rfl)) (Zah (Zag (i:=1) (show List.Nodup (["direction", "total"]:List Str) by decide +kernel) rfl (Or.inl rfl)) ZaK)))) (fun _ _ _ _=>(Zfq (t_ne (hr.units) (v3 1) (Zax (Zaa Zac (Zaa Zac Zao))) (Zaq _)))) (fun _ _ _ _=>(Zax (Zaa (v3 0) (Zaa (v3 1) Zao)))) ⟨rfl,by decide +kernel,rfl,by decide +kernel,Za2 (List.forall_mem_nil _),ZbA rfl,by walk_at "ffr", rfl⟩)) (by rfl) B.sorted_)))))),?_⟩)
 rintro as k hl ⟨rs,n,rfl,ok,n1,n2,hk⟩
 refine at3 (r:=[.val (.lst (rs.map fun r=>.lst (r.map fun p=>dP (npt p.1 p.2 n)))),.no,.no,.no,.no,.no,.no]) rfl ?_
 have big:10000≤sizeLine:=by decide
 have t2:2≤sizeLine:=by decide
 have n0:0 < n:=by omega
 have cl:(fun r:List F2=>D.lst (r.map fun p=>dP (npt p.1 p.2 n)))=fun r=>.lst ((r.map (pN n)).map dP):=funext fun r=>by rw [List.map_map]; rfl
 rw [cl]
 generalize hf:(fun r:List F2=>D.lst ((r.map (pN n)).map dP))=f
 refine mid4 (fun ρ=>ρ=[.val (.lst (rs.map f)),.own (.d false none [] (([]:List F2).map dR)),.no,.no,.no,.no,.no]) ?_ (fun N kk=>kk _ rfl)
 rintro ρ rfl
 refine mid4 (fun ρ=>∃ (ks:List (List (List Int))) (vs:List F2) (v2 v3 v4 v5 v6:Sl),ρ=[.val (.lst (rs.map f)),.own (.d false none ks (vs.map dR)),v2,v3,v4,v5,v6]∧DcOk ks vs (0,1) (fun d=>nrat (smR rs d) n)∧ks.length≤24) ?_ (fun N kk=>?_)
 ·rintro ρ ⟨ks,vs,v2,v3,v4,v5,v6,rfl,dc,l⟩
  refine ⟨false,none,ks,_,rfl,?_⟩
  obtain ⟨ds,e1,e2⟩:=Zfv (V:=fun d=>nrat (smR rs d) n) dc.nd dc.len dc.ky fun d hd=>Zen dc hd
  have nd:ds.Nodup:=(List.pairwise_map.mp (show (ds.map kD).Nodup from e1 ▸ dc.nd)).imp fun {a b} h z=>h (by rw [z])
  have all:∀ d,smR rs d≠0→d∈ds:=fun d hd=>by
   by_cases m:kD d∈ks
   ·rw [e1] at m
    obtain ⟨b,hb,q⟩:=List.mem_map.mp m
    rw [← Zcq q]; exact hb
   ·exact absurd ((Zbj n0).mp (Zhp dc m)) hd
  have ll:ds.length≤24:=by rw [e1,List.length_map] at l; exact l
  rw [e1,e2]
  have ps:∀ d∈ds,(!eqD (dR (nrat (smR rs d) n)) (.tup [.int 0,.int 1]))=decide (smR rs d≠0):=fun d _=>by
   rw [show eqD (dR (nrat (smR rs d) n)) (.tup [.int 0,.int 1])=decide (smR rs d=0) from Zcv (by
    rw [decide_eq_true_eq,← Zbj n0]
    exact ⟨fun z=>by rw [z]; rfl,fun z=>ZdC (q:=(0,1)) z⟩)]
   by_cases z:smR rs d=0 <;> simp [z]
  refine ⟨_,rfl,false,_,_,rfl,by simp,?_⟩
  rw [Zh2]
  refine ⟨by rw [List.length_map]; omega,?_⟩
  refine Zce (f:=dR) (g:=fun d=>dR (nrat (smR rs d) n)) (P:=fun d=>decide (smR rs d≠0)) (h:=fun d=>dMk (d,nrat (smR rs d) n)) (fun d hd k hk=>?_) (fun d hd k hk=>?_) ?_
  ·refine ⟨_,rfl,t2,.T [.I,.I],rfl,rfl,by decide,_,rfl,?_⟩
   show k (!eqD (dR (nrat (smR rs d) n)) (.tup [.int 0,.int 1]))
   rw [ps d hd]
   exact hk
  ·exact ⟨_,rfl,_,rfl,t2,hk⟩
  refine ⟨((ds.filter fun d=>decide (smR rs d≠0)).map fun d=>(d,nrat (smR rs d) n)).map kM,by rw [List.map_map,List.map_map]; rfl,⟨?_,?_⟩,fun ks' pm pw=>?_⟩
  ·rw [List.length_map,List.length_map]
   exact Nat.lt_of_le_of_lt (List.length_filter_le _ _) (by omega)
  ·rw [if_pos rfl]
   refine ⟨fun x hx=>?_,?_⟩
   ·obtain ⟨y,_,rfl⟩:=List.mem_map.mp hx
    exact ⟨_,_,rfl⟩
   ·rw [List.map_map,List.map_map]
    exact List.pairwise_map.mpr ((nd.filter _).imp fun {a b} h z=>h (by
     have z:[a.1,a.2]=[b.1,b.2]:=z
     simp at z
     exact Prod.ext z.1 z.2))
  ·obtain ⟨L,eL,mk⟩:=Znh nd all pm pw
   have lL:L.length≤24:=by
    have a:=congrArg List.length eL
    rw [List.length_map,List.length_map,pm.length_eq,List.length_map,List.length_map] at a
    rw [← a]
    exact Nat.le_trans (List.length_filter_le _ _) ll
   show k (.own (.l (ks'.map (keyD true))))
   rw [eL]
   exact hk L mk lL
 refine ⟨_,rfl,_,rfl,?_⟩
 have le:∀ r∈rs,∀ e∈sds r,e.1∈r∧e.2∈r:=fun r _ e he=>by
  obtain ⟨h1,h2⟩:=List.of_mem_zip he
  refine ⟨h1,?_⟩
  rcases List.mem_append.mp h2 with h | h
  ·exact List.mem_of_mem_drop h
  ·exact List.mem_of_mem_take h
 have pe:∀ r∈rs,∀ e∈sds r,Zbe e ∧ -40000000000≤parE e∧parE e≤40000000000:=fun r hr e he=>by
  have rg:=ok.rg r hr
  have ns:=rg.ns e he
  obtain ⟨m1,m2⟩:=le r hr e he
  obtain ⟨p1,p2,p3,p4⟩:=rg.le _ m1
  obtain ⟨q1,q2,q3,q4⟩:=rg.le _ m2
  exact ⟨ns,ZiD ns (by show _≤e.2.1 - e.1.1; omega) (by show e.2.1 - e.1.1≤_; omega) (by show _≤e.2.2 - e.1.2; omega) (by show e.2.2 - e.1.2≤_; omega)⟩
 refine Za5 (f:=f) (rs:=rs) (done:=[]) (fun pre ρ=>∃ (ks:List (List (List Int))) (vs:List F2) (v2 v3 v4 v5 v6:Sl),ρ=[.val (.lst (rs.map f)),.own (.d false none ks (vs.map dR)),v2,v3,v4,v5,v6]∧DcOk ks vs (0,1) (fun d=>nrat (smR pre d) n)∧ks.length≤(pre.map List.length).sum) ⟨[],[],_,_,_,_,_,rfl,dc_start.ext fun d=>(Za4 n0).symm,by simp⟩ ?_ (fun ρ h=>?_)
 rotate_left
 ·obtain ⟨ks,vs,v2,v3,v4,v5,v6,rfl,dc,l⟩:=h
  rw [List.nil_append] at dc l
  exact kk _ ⟨ks,vs,_,_,_,_,_,rfl,dc,Nat.le_trans l ok.l24⟩
 rintro pre r rest ρ he ⟨ks,vs,v2,v3,v4,v5,v6,rfl,dc,l⟩ N2 kk2
 rw [List.nil_append] at he
 have mr:r∈rs:=by rw [he]; simp
 have mpre:∀ x∈pre,x∈rs:=fun x hx=>by rw [he]; simp [hx]
 have rg:=ok.rg r mr
 have l24:=ok.l24
 have r3:=rg.l3
 have tot:(rs.map List.length).sum=(pre.map List.length).sum + (r.length + (rest.map List.length).sum):=by rw [he,List.map_append,List.sum_append,List.map_cons,List.sum_cons]
 have sl:(sds r).length=r.length:=by
  unfold sds
  rw [List.length_zip,List.length_append,List.length_drop,List.length_take]; omega
 refine ⟨_,rfl,rfl,r.map (pN n),by rw [← hf]; rfl,by rw [List.length_map]; omega,by rw [List.length_map]; omega,_,rfl,?_⟩
 rw [Zl7]
 refine Zd8 (done:=[]) (rs:=sds r) (fun es ρ=>∃ (ks:List (List (List Int))) (vs:List F2) (v3 v4 v5 v6:Sl),ρ=[.val (.lst (rs.map f)),.own (.d false none ks (vs.map dR)),.val (f r),v3,v4,v5,v6]∧DcOk ks vs (0,1) (fun d=>nrat (smR pre d + smD d es) n)∧ks.length≤(pre.map List.length).sum + es.length) ⟨ks,vs,_,_,_,_,rfl,dc.ext fun d=>by simp [smD],by simpa using l⟩ ?_ (fun ρ h=>?_)
 rotate_left
 ·obtain ⟨ks,vs,v3,v4,v5,v6,rfl,dc,l⟩:=h
  rw [List.nil_append] at dc l
  refine kk2 _ ⟨ks,vs,_,_,_,_,_,rfl,dc.ext fun d=>?_,?_⟩
  ·rw [Zc4]
  ·rw [List.map_append,List.sum_append]; simp; omega
 rintro es e rest2 ρ he2 ⟨ks,vs,v3,v4,v5,v6,rfl,dc,l⟩ N3 kk3
 rw [List.nil_append] at he2
 have me:e∈sds r:=by rw [he2]; simp
 have mes:∀ x∈es,x∈sds r:=fun x hx=>by rw [he2]; simp [hx]
 have esl:es.length < r.length:=by rw [← sl,he2]; simp
 obtain ⟨m1,m2⟩:=le r mr e me
 obtain ⟨ns,w1,w2⟩:=pe r mr e me
 obtain ⟨p0,pb⟩:=Zly n1 n2 (by decide) (rg.le _ m1)
 obtain ⟨q0,qb⟩:=Zly n1 n2 (by decide) (rg.le _ m2)
 obtain ⟨y1,y2,y3⟩:=Zme (a:=e.2.1 - e.1.1) (b:=e.2.2 - e.1.2) n0 ns
 obtain ⟨⟨z0,_⟩,_,_,z1,z2,z3⟩:=ZaL (a:=e.2.1 - e.1.1) (b:=e.2.2 - e.1.2) (n:=n) (by omega)
 obtain ⟨g1,g2,g3,g4⟩:=rg.le _ m1
 obtain ⟨h1,h2,h3,h4⟩:=rg.le _ m2
 refine mid4 (fun ρ=>ρ=[.val (.lst (rs.map f)),.own (.d false none ks (vs.map dR)),.val (f r),.val (dP (pN n e.1)),.val (dP (pN n e.2)),.val (dR (dirE e)),.val (dR (nrat (parE e) n))]) ?_ (fun N kk=>?_)
 rotate_left
 ·refine ⟨_,rfl,_,rfl,rfl,pN n e.1,pN n e.2,rfl,p0,⟨Nat.le_trans pb.a (by decide),Nat.le_trans pb.b (by decide),Nat.le_trans pb.c (by decide)⟩,q0,⟨Nat.le_trans qb.a (by decide),Nat.le_trans qb.b (by decide),Nat.le_trans qb.c (by decide)⟩,?_⟩
  rw [Zns n0]
  generalize npt (e.2.1 - e.1.1) (e.2.2 - e.1.2) n=R at y1 y2 y3 z0 z1 z2 z3 ⊢
  obtain ⟨rx,ry,rz⟩:=R
  dsimp only at y1 y2 y3 z0 z1 z2 z3
  refine ⟨rfl,rx,ry,rz,rfl,y3,by omega,Nat.le_trans (ZaC (by omega) (by omega)) (by decide),Nat.le_trans (ZaC (by omega) (by omega)) (by decide),Nat.le_trans (ZaC (by omega) (by omega)) (by decide),?_⟩
  rw [y1,y2]
  exact ⟨_,rfl,rfl,_,_,rfl,_,_,rfl,rfl,kk _ rfl⟩
 rintro ρ rfl
 obtain ⟨s1,s2⟩:=ZlH (rs:=pre) (M:=40000000000) (d:=dirE e) (by decide) fun x hx y hy=>(pe x (mpre x hx) y hy).2
 obtain ⟨u1,u2⟩:=Zhn (es:=es) (M:=40000000000) (d:=dirE e) (by decide) fun y hy=>(pe r mr y (mes y hy)).2
 have bound : -10000000000000≤smR pre (dirE e) + smD (dirE e) es∧smR pre (dirE e) + smD (dirE e) es≤10000000000000:=by
  have a1:(((pre.map List.length).sum:Nat):Int)≤24:=by omega
  have a2:((es.length:Nat):Int)≤24:=by omega
  omega
 obtain ⟨f1,f2,f3⟩:=Zei n1 n2 bound.1 bound.2
 obtain ⟨k1,k2,k3⟩:=Zei (s:=parE e) n1 n2 (by omega) (by omega)
 have eat:(lkA ks (vs.map dR) (kD (dirE e))).getD (.tup [.int 0,.int 1])=dR (nrat (smR pre (dirE e) + smD (dirE e) es) n):=by rw [lk_dR,dc.at_]
 obtain ⟨l1,l2⟩:=Zgp (k:=kD (dirE e)) (x:=nrat (smR pre (dirE e) + smD (dirE e) es + parE e) n) dc.len
 refine ⟨none,ks,_,rfl,_,rfl,t2,kD (dirE e),rfl,(fun _=>⟨_,rfl⟩),?_⟩
 rw [eat]
 refine ⟨_,rfl,rfl,(nrat (smR pre (dirE e) + smD (dirE e) es) n).1,(nrat (smR pre (dirE e) + smD (dirE e) es) n).2,(nrat (parE e) n).1,(nrat (parE e) n).2,rfl,f1,k1,f2,f3,k2,k3,?_⟩
 rw [Zga n0]
 refine ⟨none,ks,_,rfl,_,rfl,kD (dirE e),rfl,(fun _=>⟨_,rfl⟩),by omega,?_⟩
 refine kk3 _ ⟨ptK ks (kD (dirE e)),ptA ks vs (kD (dirE e)) (nrat (smR pre (dirE e) + smD (dirE e) es + parE e) n),_,_,_,_,by rw [ZhG]; rfl,dc.put _ _ ?_ (fun d hd=>?_),by rw [List.length_append,List.length_singleton]; omega⟩
 ·rw [Zdj]
  simp [smD]
  congr 1
  omega
 ·rw [Zdj]
  simp [smD,Ne.symm hd]
theorem sc_forbids:FnScope ["one", "other", "turning", "one_area", "other_area", "one_marks", "other_marks", "direction", "one_mark", "other_mark"] ["one", "other", "turning"] (Zad Zc0):=⟨rfl,rfl,rfl,by decide +kernel,rfl,by decide +kernel,by decide +kernel⟩
def ZhA:FS:=fun as k=>∃ (rs qs:RR) (n m:Int) (t:Bool),as=[.val (.lst (rs.map fun r=>.lst (r.map fun p=>dP (npt p.1 p.2 n)))),.val (.lst (qs.map fun r=>.lst (r.map fun p=>dP (npt p.1 p.2 m)))),.val (.bl t)]∧(RgsW 20000000000 rs)∧(1≤n)∧(n≤12000000)∧(RgsW 20000000000 qs)∧(1≤m)∧(m≤12000000)∧∀ r:Option F2,FbR rs qs n m t r→k (.val (fbD rs qs n m t r))
theorem ZkG (B:Blts mg)   (F:Fnd K mg "forbids" Zc0 ["one", "other", "turning"]) (c_area:Cal P w K mg base "area" ["cloth"] 5 (Con K 1 Zhw)) (c_marks:Cal P w K mg base "marks" ["cloth"] 5 (Con K 1 Zd1)) :
  Cal P w K mg base "forbids" ["one", "other", "turning"] 6 (Con K 3 ZhA):=by
 refine def3 (lv:=5) F sc_forbids rfl (fun f cdv A outer s H E hr=>⟨_,(Zab (Zan (i:=3) sc_forbids.nd rfl (Or.inl rfl) (Zaf c_area hr (by rfl) (Zae (v3 0) Zaj))) (Zab (Zan (i:=4) sc_forbids.nd rfl (Or.inl rfl) (Zaf c_area hr (by rfl) (Zae (v3 1) Zaj))) (Zab (s_if (t_ne (hr.units) (v3 3) (v3 4) (Zaq _)) (Zam (ZaF (Zax (Zaa Zkh (Zaa (v3 3) (Zaa (v3 4) Zao)))))) Zbt) (Zab (s_if (Zmz (v3 2)) (Zam (ZaF Zhm)) Zbt) (Zab (Zlf (i:=5) rfl (hr.units) (Zaf c_marks hr (by rfl) (Zae (v3 0) Zaj)) (by rfl) B.dict_ sc_forbids.nd rfl (Or.inl rfl)) (Zab (Zlf (i:=6) rfl (hr.units) (Zaf c_marks hr (by rfl) (Zae (v3 1) Zaj)) (by rfl) B.dict_ sc_forbids.nd rfl (Or.inl rfl)) (Zab (Zbx PassesOwn.never rfl (ZaT (o_e (Zkd 5 6 rfl (hr.units) (by rfl) B.sorted_ (by rfl) B.set_))) (Zag (i:=7) sc_forbids.nd rfl (Or.inl rfl)) (Zab (Zan (i:=8) sc_forbids.nd rfl (Or.inl rfl) (Zc1 (b:=false) 5 (hu4 hr) (v3 7) (Zax (Zaa Zac (Zaa Zac Zao))))) (Zab (Zan (i:=9) sc_forbids.nd rfl (Or.inl rfl) (Zc1 (b:=false) 6 (hu4 hr) (v3 7) (Zax (Zaa Zac (Zaa Zac Zao))))) (Zam (s_if (t_ne (hr.units) (v3 8) (v3 9) (Zaq _)) (Zam (ZaF (Zax (Zaa Zkh (Zaa (v3 7) (Zaa (v3 8) (Zaa (v3 9) Zao))))))) Zbt))))) (Zam (ZaF Zhm))))))))),?_⟩)
 rintro as k hl ⟨rs,qs,n,m,t,rfl,ok,n1,n2,okq,m1,m2,hk⟩
 refine at3 (r:=[.val (.lst (rs.map fun r=>.lst (r.map fun p=>dP (npt p.1 p.2 n)))),.val (.lst (qs.map fun r=>.lst (r.map fun p=>dP (npt p.1 p.2 m)))),.val (.bl t),.no,.no,.no,.no,.no,.no,.no]) rfl ?_
 have big:10000≤sizeLine:=by decide
 have t2:2≤sizeLine:=by decide
 have t3:3≤sizeLine:=by decide
 have t4:4≤sizeLine:=by decide
 have ca:∀ (rs:RR) (n:Int),(rs.map fun r=>D.lst (r.map fun p=>dP (npt p.1 p.2 n)))=(rs.map fun r=>r.map fun p=>npt p.1 p.2 n).map dH:=fun rs n=>by
  rw [List.map_map]
  refine List.map_congr_left fun r _=>?_
  show D.lst _=D.lst _
  rw [List.map_map]; rfl
 refine ⟨_,rfl,rfl,rs.map fun r=>r.map fun p=>npt p.1 p.2 n,36,by rw [ca]; rfl,by rw [List.length_map]; exact ok.l8,by rw [ZfS]; have:=ok.l24; omega,Zk7 ok n1 n2,by rw [ZfS]; have:=ok.l24; omega,fun T hT=>?_⟩
 have hT:=Zh7 (by omega) hT
 subst hT
 dsimp only [fzR]
 refine ⟨_,rfl,rfl,qs.map fun r=>r.map fun p=>npt p.1 p.2 m,36,by rw [ca]; rfl,by rw [List.length_map]; exact okq.l8,by rw [ZfS]; have:=okq.l24; omega,Zk7 okq m1 m2,by rw [ZfS]; have:=okq.l24; omega,fun T hT=>?_⟩
 have hT:=Zh7 (by omega) hT
 subst hT
 dsimp only [fzR]
 refine ⟨_,rfl,_,rfl,.T [.I,.I],rfl,rfl,by decide,_,rfl,?_⟩
 rw [if_pos rfl]
 refine neIf (fun ne=>?_) (fun ea=>?_)
 ·have hk:=hk none fun z _=>absurd (by rw [z]) ne
  unfold fbD at hk
  rw [if_neg (fun z=>ne (by rw [z]))] at hk
  exact ⟨_,rfl,_,rfl,t3,hk⟩
 have ea:arN rs n=arN qs m:=ZdC ea
 refine ⟨_,rfl,_,rfl,?_⟩
 cases t with
 | true =>
  have hk:=hk none fun _ z=>nomatch z
  unfold fbD at hk
  rw [if_pos ea,if_pos rfl] at hk
  exact Zhl rfl hk
 | false =>
 refine Zdr rfl ?_
 have hk:∀ r:Option F2,ZdA (smR rs) n (smR qs) m r→k (.val (match r with
   | none=>D.non
   | some d=>.tup [.str (Str.ofString "mark"),dR d,dR (nrat (smR rs d) n),dR (nrat (smR qs d) m)])):=fun r hr=>by
  have hk:=hk r fun _ _=>hr
  unfold fbD at hk
  rw [if_pos ea,if_neg (by simp)] at hk
  exact hk
 have dL:∀ L:MKs,D.lst (L.map dMk)=D.lst ((L.map fun x=>(kD x.1,dR x.2)).map fun p=>.tup [keyD false p.1,p.2]):=fun L=>by rw [List.map_map]; rfl
 have mp1:∀ L:MKs,(L.map fun x=>(kD x.1,dR x.2)).map (·.1)=L.map fun x=>kD x.1:=fun L=>by rw [List.map_map]; rfl
 have mp2:∀ L:MKs,(L.map fun x=>(kD x.1,dR x.2)).map (·.2)=L.map fun x=>dR x.2:=fun L=>by rw [List.map_map]; rfl
 refine ⟨_,rfl,rfl,rs,n,rfl,ok,n1,n2,fun L mk lL=>?_⟩
 dsimp only [fzR]
 refine ⟨L.map fun x=>(kD x.1,dR x.2),dL L,fun p hp=>?_,by rw [mp1]; exact ZfU mk,by rw [List.length_map]; omega,?_⟩
 ·obtain ⟨x,_,rfl⟩:=List.mem_map.mp hp
  exact ⟨_,rfl⟩
 rw [mp1,mp2]
 refine ⟨_,rfl,rfl,qs,m,rfl,okq,m1,m2,fun L' mk' lL'=>?_⟩
 dsimp only [fzR]
 refine ⟨L'.map fun x=>(kD x.1,dR x.2),dL L',fun p hp=>?_,by rw [mp1]; exact ZfU mk',by rw [List.length_map]; omega,?_⟩
 ·obtain ⟨x,_,rfl⟩:=List.mem_map.mp hp
  exact ⟨_,rfl⟩
 rw [mp1,mp2]
 refine ⟨none,_,_,none,_,_,rfl,rfl,by rw [List.length_map,List.length_map]; omega,⟨2,by omega,fun k hk=>?_⟩,fun ks' km pw l64=>?_⟩
 ·rcases hk with z | z <;> (obtain ⟨x,_,rfl⟩:=List.mem_map.mp z; exact ⟨_,rfl,rfl⟩)
 obtain ⟨ds,rfl,md⟩:=Ziv km
 refine ⟨_,rfl,?_⟩
 have el:(ds.map kD).map (keyD false)=ds.map dR:=by rw [List.map_map]; rfl
 rw [el]
 dsimp only
 have lk1:=Zek (by omega) mk
 have lk2:=Zek (by omega) mk'
 refine Za5 (f:=dR) (rs:=ds) (done:=[]) (fun pre ρ=>(∀ d∈pre,nrat (smR rs d) n=nrat (smR qs d) m)∧∃ v7 v8 v9:Sl,ρ=[.val (.lst (rs.map fun r=>.lst (r.map fun p=>dP (npt p.1 p.2 n)))),.val (.lst (qs.map fun r=>.lst (r.map fun p=>dP (npt p.1 p.2 m)))),.val (.bl false),.val (dR (arN rs n)),.val (dR (arN qs m)),.own (.d false none (L.map fun x=>kD x.1) (L.map fun x=>dR x.2)),.own (.d false none (L'.map fun x=>kD x.1) (L'.map fun x=>dR x.2)),v7,v8,v9]) ⟨by simp,_,_,_,rfl⟩ ?_ (fun ρ h=>?_)
 ·rintro pre d rest ρ he ⟨hp,v7,v8,v9,rfl⟩ N kk
  rw [List.nil_append] at he
  refine ⟨none,_,_,rfl,_,rfl,t2,kD d,rfl,fun _=>⟨_,rfl⟩,?_⟩
  rw [lk1 d]
  refine ⟨none,_,_,rfl,_,rfl,t2,kD d,rfl,fun _=>⟨_,rfl⟩,?_⟩
  rw [lk2 d]
  refine ⟨_,rfl,_,rfl,.T [.I,.I],rfl,rfl,by decide,_,rfl,?_⟩
  rw [if_pos rfl]
  refine neIf (fun ne=>?_) (fun e=>?_)
  ·exact ⟨_,rfl,_,rfl,_,rfl,t4,hk (some d) (Zhd (by omega) (by omega) mk mk' md pw he hp fun z=>ne (by rw [z]))⟩
  ·exact kk _ ⟨fun d' hd'=>(List.mem_append.mp hd').elim (hp d') fun z=>by rw [List.mem_singleton.mp z]; exact ZdC e,_,_,_,rfl⟩
 ·obtain ⟨hp,v7,v8,v9,rfl⟩:=h
  rw [List.nil_append] at hp
  exact hk none (ZgZ (by omega) (by omega) mk mk' md hp)
theorem sc_law_area:FnScope ["_law_cloth", "_law_found", "_law_ring", "_law_k", "_law_p", "_law_q"] ["_law_cloth"] (Zad Zb5):=⟨rfl,rfl,rfl,by decide +kernel,rfl,by decide +kernel,by decide +kernel⟩
def ZiF:FS:=fun as k=>∃ (rs:RR) (n:Int),as=[.val (.tup [.lst (rs.map dF2),.int n])]∧(RgsW 20000000000 rs)∧(1≤n)∧(n≤12000000)∧k (.val (dR (arN rs n)))
theorem ZjZ (B:Blts mg)   (F:Fnd K mg "_law_area" Zb5 ["_law_cloth"]) (c_law_low:Cal P w K mg base "_law_low" ["_law_top", "_law_bottom"] 3 (Con K 2 ZgC)) :
  Cal P w K mg base "_law_area" ["_law_cloth"] 4 (Con K 1 ZiF):=by
 refine def3 (lv:=3) F sc_law_area rfl (fun f cdv A outer s H E hr=>⟨_,(Zab (Zan (i:=1) sc_law_area.nd rfl (Or.inl rfl) Zac) (Zab (Zbx PassesOwn.never rfl (ZaT (e_ix (v3 0) Zac (fun _ _=>rfl))) (Zag (i:=2) sc_law_area.nd rfl (Or.inl rfl)) (Zam (Zbx PassesOwn.never rfl (ZgY (Zds (v3 2) (by rfl) B.len_) (by rfl) B.range_) (Zag (i:=3) sc_law_area.nd rfl (Or.inl rfl)) (Zab (Zm0 (i:=4) (j:=5) rfl sc_law_area.nd rfl rfl (by decide) rfl rfl (Zaa (e_ix (v3 2) (Zb8 (v3 3) Zac) (fun _ _=>rfl)) (Zaa (e_ix (v3 2) (v3 3) (fun _ _=>rfl)) Zao)) rfl) (Zam (s_aug (i:=1) sc_law_area.nd rfl (Or.inl rfl) (Zb8 (ZaG (e_ix (v3 4) Zac (fun _ _=>rfl)) (e_ix (v3 5) Zac (fun _ _=>rfl))) (ZaG (e_ix (v3 4) Zac (fun _ _=>rfl)) (e_ix (v3 5) Zac (fun _ _=>rfl)))))))))) (Zam (ZaF (Zaf c_law_low hr (by rfl) (Zae (v3 1) (Zae (ZaG (ZaG Zac (e_ix (v3 0) Zac (fun _ _=>rfl))) (e_ix (v3 0) Zac (fun _ _=>rfl))) Zaj))))))),?_⟩)
 rintro as k hl ⟨rs,n,rfl,ok,n1,n2,hk⟩
 refine at3 (r:=[.val (.tup [.lst (rs.map dF2),.int n]),.no,.no,.no,.no,.no]) rfl ?_
 have big:10000≤sizeLine:=by decide
 have l24:=ok.l24
 refine mid4 (fun ρ=>ρ=[.val (.tup [.lst (rs.map dF2),.int n]),.val (.int 0),.no,.no,.no,.no]) ?_ (fun N kk=>kk _ rfl)
 rintro ρ rfl
 refine mid4 (fun ρ=>∃ v2 v3 v4 v5:Sl,ρ=[.val (.tup [.lst (rs.map dF2),.int n]),.val (.int (rs.map tw).sum),v2,v3,v4,v5]) ?_ (fun N kk=>?_)
 ·rintro ρ ⟨v2,v3,v4,v5,rfl⟩
  have bn:intBits n≤64:=ZaC (by omega) (by omega)
  refine ⟨_,rfl,_,rfl,_,_,_,.inl rfl,rfl,rfl,_,_,rfl,rfl,⟨by decide,by omega⟩,_,rfl,_,_,_,.inl rfl,rfl,rfl,_,_,rfl,rfl,⟨?_,by omega⟩,rfl,(rs.map tw).sum,2 * n * n,rfl,?_,?_,?_⟩
  ·exact Nat.le_trans (intBits_mul_le (x:=2) (show intBits 2≤2 by decide) bn) (by decide)
  ·exact Int.mul_pos (by omega) (by omega)
  ·exact Nat.le_trans (intBits_mul_le (intBits_mul_le (x:=2) (show intBits 2≤2 by decide) bn) bn) (by decide)
  dsimp only [fzR]
  exact hk
 refine ⟨_,rfl,_,_,_,.inl rfl,rfl,rfl,_,rfl,?_⟩
 refine Za5 (f:=dF2) (rs:=rs) (done:=[]) (fun pre ρ=>∃ v2 v3 v4 v5:Sl,ρ=[.val (.tup [.lst (rs.map dF2),.int n]),.val (.int (pre.map tw).sum),v2,v3,v4,v5]) ⟨_,_,_,_,rfl⟩ ?_ (fun ρ h=>?_)
 rotate_left
 ·obtain ⟨v2,v3,v4,v5,rfl⟩:=h
  exact kk _ ⟨_,_,_,_,rfl⟩
 rintro pre r rest ρ he ⟨v2,v3,v4,v5,rfl⟩ N2 kk2
 rw [List.nil_append] at he
 have rg:=ok.rg r (by rw [he]; simp)
 have l24:=rg.l24
 have len:(r.map dR).length=r.length:=List.length_map ..
 refine ⟨_,rfl,_,rfl,_,rfl,by omega,by rw [len]; omega,?_⟩
 rw [len,Int.toNat_natCast]
 refine ZbP (fun i ρ=>∃ v3 v4 v5:Sl,ρ=[.val (.tup [.lst (rs.map dF2),.int n]),.val (.int ((pre.map tw).sum + (((eds (r.map up)).take i).map crI).sum)),.val (dF2 r),v3,v4,v5]) ⟨_,_,_,by rw [show (((eds (r.map up)).take 0).map crI).sum=0 by simp,Int.add_zero]; rfl⟩ ?_ (fun ρ h=>?_)
 rotate_left
 ·obtain ⟨v3,v4,v5,rfl⟩:=h
  have e:((pre ++ [r]).map tw).sum=(pre.map tw).sum + (((eds (r.map up)).take r.length).map crI).sum:=by
   rw [List.take_of_length_le (by rw [Zng,List.length_map]; omega),List.map_append,List.sum_append]
   simp [tw]
  exact kk2 _ ⟨_,_,_,_,by rw [e]⟩
 rintro i ρ hi ⟨v3,v4,v5,rfl⟩ N3 kk3
 obtain ⟨p,q,mp,mq,gp,gq,tk⟩:=Zl3 hi
 obtain ⟨p1,p2,p3,p4⟩:=rg.le p mp
 obtain ⟨q1,q2,q3,q4⟩:=rg.le q mq
 have bt:∀ x:Int,-20000000000≤x→x≤20000000000→intBits x≤9000:=fun x x0 x1=>Nat.le_trans (ZaC (by omega) (by omega)) (by decide)
 refine ⟨_,rfl,_,rfl,_,_,rfl,rfl,_,_,_,.inr rfl,rfl,gp,_,rfl,_,rfl,_,_,_,.inr rfl,rfl,gq,?_⟩
 refine ⟨_,_,rfl,?_⟩
 refine ⟨_,rfl,_,rfl,[.int p.1,.int p.2],0,.int p.1,.inl rfl,rfl,rfl,_,rfl,[.int q.1,.int q.2],1,.int q.2,.inl rfl,rfl,rfl,_,_,rfl,rfl,⟨bt _ p1 p2,bt _ q3 q4⟩,?_⟩
 refine ⟨_,rfl,[.int p.1,.int p.2],1,.int p.2,.inl rfl,rfl,rfl,_,rfl,[.int q.1,.int q.2],0,.int q.1,.inl rfl,rfl,rfl,_,_,rfl,rfl,⟨bt _ p3 p4,bt _ q1 q2⟩,_,_,rfl,rfl,_,rfl,?_⟩
 have e:(((eds (r.map up)).take (i + 1)).map crI).sum=(((eds (r.map up)).take i).map crI).sum + (p.1 * q.2 - p.2 * q.1):=by
  rw [tk,List.map_append,List.sum_append]
  simp [crI,up]
  exact Int.mul_comm _ _
 exact kk3 _ ⟨_,_,_,by rw [e,← Int.add_assoc]; rfl⟩
theorem sc_law_parts:FnScope ["_law_bag_here", "_law_ring", "_law_many", "_law_k", "_law_cuts", "_law_made", "_law_begin", "_law_end"] ["_law_bag_here", "_law_ring"] (Zad ZbE):=⟨rfl,rfl,rfl,by decide +kernel,rfl,by decide +kernel,by decide +kernel⟩
def Zgs:FS:=fun as k=>∃ (fa mo:Int) (sel:List (Nat×Int)),as=[.bag,.val (.lst ((sel.map spt).map dR))]∧(StarOk fa mo sel)∧(mo≤16)∧(1≤fa)∧∀ cs,CtsOk sel.length cs→k (.val (.lst ((prts (sel.map spt) cs).map dF2)))
theorem Zjs (B:Blts mg)   (F:Fnd K mg "_law_parts" ZbE ["_law_bag_here", "_law_ring"]) (c_law_draw:Cal P w K mg base "_law_draw" ["_law_bag_here", "_law_many"] 1 (Con K 2 (ZcJ 400))) :
  Cal P w K mg base "_law_parts" ["_law_bag_here", "_law_ring"] 2 (Con K 2 Zgs):=by
 refine def3 (lv:=1) F sc_law_parts rfl (fun f cdv A outer s H E hr=>⟨_,(Zab (Zan (i:=2) sc_law_parts.nd rfl (Or.inl rfl) (Zbw Zac (Zaf c_law_draw hr (by rfl) (Zbr 0 (Zae Zac Zaj))))) (Zab (Zan (i:=4) sc_law_parts.nd rfl (Or.inl rfl) (o_e (ZiS rfl (o_e (Zbi (ts:=["_law_k"]) (fr:=["_law_bag_here", "_law_ring"]) (js:=[0,1]) (ZgY (v3 2) (by rfl) B.range_) (fun _ _ _ _=>(Zag (i:=0) (show List.Nodup (["_law_k", "_law_bag_here", "_law_ring"]:List Str) by decide +kernel) rfl (Or.inl rfl))) (fun _ _ _ _=>ZbL) (fun _ _ _ _=>(Zaf c_law_draw hr (by rfl) (Zbr 1 (Zae (Zds (v3 2) (by rfl) B.len_) Zaj)))) ⟨rfl,by decide +kernel,rfl,by decide +kernel,Za2 (List.forall_mem_cons.mpr ⟨rfl,(List.forall_mem_cons.mpr ⟨rfl,(List.forall_mem_nil _)⟩)⟩),ZbA rfl,by walk_at "ffr", rfl⟩)) (by rfl) B.sorted_ (by rfl) B.set_))) (Zab (s_if (Zbp (f:=fun i j=>decide (i < j)) Zej (Zds (v3 4) (by rfl) B.len_) Zac (Zaq _)) (Zam (Zan (i:=4) sc_law_parts.nd rfl (Or.inl rfl) (o_e (o_sort (o_e (Zd2 (Zaa (e_ix (v3 4) Zac (fun _ _=>rfl)) (Zaa (Zhe (Zbw (e_ix (v3 4) Zac (fun _ _=>rfl)) Zac) (Zds (v3 1) (by rfl) B.len_)) Zao)))) (by rfl) B.sorted_)))) Zbt) (Zab (ZhC (i:=5) sc_law_parts.nd rfl (Or.inl rfl) (Zd2 Zao)) (Zab (Zbx PassesOwn.never rfl (ZgY (Zds (v3 4) (by rfl) B.len_) (by rfl) B.range_) (Zag (i:=3) sc_law_parts.nd rfl (Or.inl rfl)) (Zab (Zan (i:=6) sc_law_parts.nd rfl (Or.inl rfl) (e_ix (v3 4) (Zb8 (v3 3) Zac) (fun _ _=>rfl))) (Zab (Zan (i:=7) sc_law_parts.nd rfl (Or.inl rfl) (e_ix (v3 4) (v3 3) (fun _ _=>rfl))) (Zab (s_if (Zbp (f:=fun i j=>decide (i≤j)) op_le (v3 7) (v3 6) (Zaq _)) (Zam (Zan (i:=7) sc_law_parts.nd rfl (Or.inl rfl) (Zbw (v3 7) (Zds (v3 1) (by rfl) B.len_)))) Zbt) (Zam (ZkO 5 (o_e (Zg2 (o_e (Zd2 (Zaa (Zax (Zaa Zac (Zaa Zac Zao))) Zao))) (o_e (Zbi (ts:=["_law_one"]) (fr:=["_law_ring"]) (js:=[1]) (i_rng2 (v3 6) (Zbw (v3 7) Zac) (by rfl) B.range_) (fun _ _ _ _=>(Zag (i:=0) (show List.Nodup (["_law_one", "_law_ring"]:List Str) by decide +kernel) rfl (Or.inl rfl))) (fun _ _ _ _=>ZbL) (fun _ _ _ _=>(e_ix (v3 1) (Zhe (v3 0) (Zds (v3 1) (by rfl) B.len_)) (fun _ _=>rfl))) ⟨rfl,by decide +kernel,rfl,by decide +kernel,Za2 (List.forall_mem_cons.mpr ⟨rfl,(List.forall_mem_nil _)⟩),ZbA rfl,by walk_at "ffr", rfl⟩)))))))))) (s_fz 5 (Zam (ZaF (v3 5))))))))),?_⟩)
 rintro as k hl ⟨fa,mo,sel,rfl,st,mo2,f1,hk⟩
 refine at3 (r:=[.bag,.val (.lst ((sel.map spt).map dR)),.no,.no,.no,.no,.no,.no]) rfl ?_
 have big:10000≤sizeLine:=by decide
 have t2:2≤sizeLine:=by decide
 have sr:=Zhx st mo2 f1
 obtain ⟨ps,hps⟩:∃ ps:List F2,ps=sel.map spt:=⟨_,rfl⟩
 have ln:sel.length=ps.length:=by rw [hps,List.length_map]
 rw [ln] at hk
 rw [← hps] at sr hk ⊢
 have l3:=sr.l3
 have l16:=sr.l16
 have b4:∀ x:Int,0≤x→x≤1000→intBits x≤400:=fun x x0 x1=>Nat.le_trans (ZaC (by omega) (by omega)) (by decide)
 have pl:(ps.map dR).length=ps.length:=List.length_map ..
 refine mid4 (fun ρ=>∃ m:Int,2≤m∧m≤4∧ρ=[.bag,.val (.lst (ps.map dR)),.val (.int m),.no,.no,.no,.no,.no]) ?_ (fun N kk=>?_)
 rotate_left
 ·walk_at "w"
  intro w w0 w1
  dsimp only [fzR]
  exact ⟨_,_,rfl,rfl,kk _ ⟨2 + w,by omega,by omega,rfl⟩⟩
 rintro ρ ⟨m,m2,m4,rfl⟩
 refine mid4 (fun ρ=>∃ cs:List Int,cs.Pairwise (· < ·)∧(∀ c∈cs,0≤c∧c < ps.length)∧1≤cs.length∧cs.length≤4∧ρ=[.bag,.val (.lst (ps.map dR)),.val (.int m),.no,.val (.lst (cs.map D.int)),.no,.no,.no]) ?_ (fun N kk=>?_)
 rotate_left
 ·refine ⟨_,rfl,_,rfl,by omega,by omega,by rw [List.length_map,List.length_range]; omega,?_⟩
  refine ZeI (f:=D.int) (Pp:=fun c=>0≤c∧c < (ps.length:Int)) (fun d hd k hk=>?_) (fun cs lc hc=>?_)
  ·refine ⟨rfl,_,rfl,_,rfl,rfl,_,rfl,by rw [pl]; omega,by rw [pl]; exact b4 _ (by omega) (by omega),fun d d0 d1=>?_⟩
   rw [pl] at d1
   exact hk d ⟨d0,d1⟩
  ·rw [List.length_map,List.length_range] at lc
   refine ⟨cs,rfl,by omega,fun ns mm pw l4=>kk _ ⟨ns,pw,fun c hcm=>hc c ((mm c).mp hcm),?_,l4,rfl⟩⟩
   obtain ⟨x,hx⟩:∃ x,x∈cs:=List.exists_mem_of_length_pos (by omega)
   exact List.length_pos_of_mem ((mm x).mpr hx)
 rintro ρ ⟨cs,pw,rg,c1,c4,rfl⟩
 refine mid4 (fun ρ=>∃ cn:List Nat,CtsOk ps.length cn∧ρ=[.bag,.val (.lst (ps.map dR)),.val (.int m),.no,.val (.lst (cn.map dN)),.no,.no,.no]) ?_ (fun N kk=>?_)
 rotate_left
 ·refine ⟨_,rfl,_,rfl,_,_,rfl,rfl,_,rfl,iteD (fun g=>?_) (fun g=>?_)⟩
  ·rw [List.length_map] at g
   obtain ⟨c,rfl⟩:∃ c,cs=[c]:=by
    match cs,c1,g with
    | [c],_,_=>exact ⟨c,rfl⟩
    | _ :: _ :: _,_,g=>simp at g; omega
   obtain ⟨r1,r2⟩:=rg c (by simp)
   refine ⟨_,rfl,[.int c],0,.int c,.inr rfl,rfl,rfl,_,rfl,[.int c],0,.int c,.inr rfl,rfl,rfl,_,_,rfl,rfl,_,rfl,_,rfl,_,_,rfl,rfl,by rw [pl]; omega,?_⟩
   rw [pl]
   have md:0≤(c + 1) % (ps.length:Int)∧(c + 1) % (ps.length:Int) < ps.length∧(c + 1) % (ps.length:Int)≠c:=by
    by_cases z:c + 1 < ps.length
    ·rw [Int.emod_eq_of_lt (by omega) z]; omega
    ·rw [show c + 1=(ps.length:Int) by omega,Int.emod_self]; omega
   refine ⟨t2,[c,(c + 1) % (ps.length:Int)],rfl,by simp,fun ns pm le=>?_⟩
   obtain ⟨pw2,l2⟩:=ZgS (Ne.symm md.2.2) pm le
   obtain ⟨cn,e,ok⟩:=Zlj (n:=ps.length) pw2 (fun x hx=>by
    have:=pm.mem_iff.mp hx
    simp at this
    rcases this with rfl | rfl
    ·exact ⟨r1,r2⟩
    ·exact ⟨md.1,md.2.1⟩) (by omega) (by omega)
   exact kk _ ⟨cn,ok,by rw [← e]; rfl⟩
  ·rw [List.length_map] at g
   obtain ⟨cn,e,ok⟩:=Zlj pw rg (by omega) c4
   exact kk _ ⟨cn,ok,by rw [e]⟩
 rintro ρ ⟨cn,ok,rfl⟩
 have c4:=ok.l4
 have cl:(cn.map dN).length=cn.length:=List.length_map ..
 refine mid4 (fun ρ=>ρ=[.bag,.val (.lst (ps.map dR)),.val (.int m),.no,.val (.lst (cn.map dN)),.own (.l ((((List.range 0).map (ZbZ ps cn)).map dF2))),.no,.no]) ?_ (fun N kk=>⟨Nat.zero_le _,kk _ rfl⟩)
 rintro ρ rfl
 refine mid4 (fun ρ=>∃ v3 v6 v7:Sl,ρ=[.bag,.val (.lst (ps.map dR)),.val (.int m),v3,.val (.lst (cn.map dN)),.own (.l ((prts ps cn).map dF2)),v6,v7]) ?_ (fun N kk=>?_)
 ·rintro ρ ⟨v3,v6,v7,rfl⟩
  exact ⟨_,rfl,_,rfl,hk cn ok⟩
 refine ⟨_,rfl,_,rfl,_,rfl,by omega,by rw [cl]; omega,?_⟩
 rw [cl,Int.toNat_natCast]
 refine ZbP (fun i ρ=>∃ v3 v6 v7:Sl,ρ=[.bag,.val (.lst (ps.map dR)),.val (.int m),v3,.val (.lst (cn.map dN)),.own (.l (((List.range i).map (ZbZ ps cn)).map dF2)),v6,v7]) ⟨_,_,_,rfl⟩ ?_ (fun ρ h=>kk ρ h)
 rintro i ρ hi ⟨v3,v6,v7,rfl⟩ N kk2
 obtain ⟨ga,gb⟩:=back_N hi
 obtain ⟨x1,x2,x3⟩:=cts_at ok hi
 have ed:ZbZ ps cn i=prt (rnd ps) (cn.getD ((i + cn.length - 1) % cn.length) 0) (if cn.getD i 0≤cn.getD ((i + cn.length - 1) % cn.length) 0 then cn.getD i 0 + ps.length else cn.getD i 0):=by
  unfold ZbZ
  by_cases z:i=0
  ·rw [if_pos z,if_pos (x3.mpr z),z]
  ·rw [if_neg z,if_neg (fun w=>z (x3.mp w))]
 have ap:((List.range (i + 1)).map (ZbZ ps cn)).map dF2=((List.range i).map (ZbZ ps cn)).map dF2 ++ [dF2 (ZbZ ps cn i)]:=by rw [List.range_succ,List.map_append,List.map_append]; rfl
 generalize cn.getD ((i + cn.length - 1) % cn.length) 0=b at *
 generalize cn.getD i 0=e at *
 refine mid4 (fun ρ=>ρ=[.bag,.val (.lst (ps.map dR)),.val (.int m),.val (.int i),.val (.lst (cn.map dN)),.own (.l (((List.range i).map (ZbZ ps cn)).map dF2)),.val (.int b),v7]) ?_ (fun N kk=>⟨_,rfl,_,rfl,_,_,rfl,rfl,_,_,_,.inr rfl,rfl,ga,kk _ rfl⟩)
 rintro ρ rfl
 refine mid4 (fun ρ=>ρ=[.bag,.val (.lst (ps.map dR)),.val (.int m),.val (.int i),.val (.lst (cn.map dN)),.own (.l (((List.range i).map (ZbZ ps cn)).map dF2)),.val (.int b),.val (.int e)]) ?_ (fun N kk=>⟨_,rfl,_,rfl,_,_,_,.inr rfl,rfl,gb,kk _ rfl⟩)
 rintro ρ rfl
 refine mid4 (fun ρ=>∃ e':Nat,(e'=if e≤b then e + ps.length else e)∧b≤e'∧e'≤b + 32∧ρ=[.bag,.val (.lst (ps.map dR)),.val (.int m),.val (.int i),.val (.lst (cn.map dN)),.own (.l (((List.range i).map (ZbZ ps cn)).map dF2)),.val (.int b),.val (.int e')]) ?_ (fun N kk=>?_)
 rotate_left
 ·refine ⟨_,rfl,_,rfl,_,_,rfl,rfl,_,rfl,iteD (fun g=>?_) (fun g=>?_)⟩
  ·refine ⟨_,rfl,_,rfl,_,rfl,_,_,rfl,rfl,?_⟩
   rw [pl]
   exact kk _ ⟨e + ps.length,by rw [if_pos (by omega)],by omega,by omega,by simp⟩
  ·exact kk _ ⟨e,by rw [if_neg (by omega)],by omega,by omega,rfl⟩
 rintro ρ ⟨e',ee,be,bl,rfl⟩
 rw [← ee] at ed
 refine ⟨_,rfl,t2,(show 1≤sizeLine by decide),?_⟩
 refine ⟨_,rfl,_,rfl,_,_,rfl,rfl,_,_,rfl,rfl,⟨by omega,by omega,by omega,by omega⟩,by rw [List.length_map,List.length_range]; omega,?_⟩
 refine Zc5 (f:=fun t:Nat=>D.int (b + t)) (h:=fun t=>dR (rnd ps (b + t))) (fun t ht k hk=>?_) ?_
 ·have lt:(b + t) % ps.length < ps.length:=Nat.mod_lt _ (by omega)
  have at2:atI (ps.map dR) (((b:Int) + (t:Int)) % (ps.length:Int))=some (dR (rnd ps (b + t))):=by
   rw [show ((b:Int) + (t:Int)) % (ps.length:Int)=(((b + t) % ps.length:Nat):Int) by simp]
   exact at_F lt
  refine ⟨_,rfl,_,rfl,_,rfl,_,rfl,_,_,rfl,rfl,by rw [pl]; omega,_,_,_,.inr rfl,rfl,?_,hk⟩
  rw [pl]
  exact at2
 ·refine ⟨_,_,rfl,rfl,?_,?_⟩
  ·rw [List.length_map,List.length_range,List.length_singleton]; omega
  refine ⟨by rw [List.length_map,List.length_map,List.length_range]; omega,kk2 _ ⟨.val (.int i),.val (.int b),.val (.int e'),?_⟩⟩
  rw [ap,ed,← ZjV ps b e' be]
  rfl
theorem sc_law_apart:FnScope ["_law_bag_here", "_law_parts_here", "_law_far", "_law_made", "_law_k", "_law_ring", "_law_x", "_law_y", "_law_turn"] ["_law_bag_here", "_law_parts_here", "_law_far"] (Zad ZbM):=⟨rfl,rfl,rfl,by decide +kernel,rfl,by decide +kernel,by decide +kernel⟩
def Zgx:FS:=fun as k=>∃ (rs:RR) (fa:Int),as=[.bag,.val (.lst (rs.map dF2)),.val (.int fa)]∧(1≤rs.length)∧(rs.length≤4)∧(∀ r∈rs,1≤r.length∧r.length≤24)∧(1≤fa)∧(fa≤1000000)∧∀ (ms:RR) (i:Nat),MvAs fa rs ms→k (.val (.lst ((ms.drop i ++ ms.take i).map dF2)))
theorem Zji (B:Blts mg)   (F:Fnd K mg "_law_apart" ZbM ["_law_bag_here", "_law_parts_here", "_law_far"]) (c_law_draw:Cal P w K mg base "_law_draw" ["_law_bag_here", "_law_many"] 1 (Con K 2 (ZcJ 400))) :
  Cal P w K mg base "_law_apart" ["_law_bag_here", "_law_parts_here", "_law_far"] 2 (Con K 3 Zgx):=by
 refine def3 (lv:=1) F sc_law_apart rfl (fun f cdv A outer s H E hr=>⟨_,(Zab (ZhC (i:=3) sc_law_apart.nd rfl (Or.inl rfl) (Zd2 Zao)) (Zab (s_forE PassesOwn.never rfl (v3 1) (by rfl) B.enumerate_ (Zbf (n:=2) rfl (Zah (Zag (i:=4) sc_law_apart.nd rfl (Or.inl rfl)) (Zah (Zag (i:=5) sc_law_apart.nd rfl (Or.inl rfl)) ZaK))) (Zab (Zan (i:=6) sc_law_apart.nd rfl (Or.inr rfl) (Zbw (ZaG (ZaG Zac (v3 2)) (v3 4)) (Zaf c_law_draw hr (by rfl) (Zbr 0 (Zae (ZaG Zac (v3 2)) Zaj))))) (Zab (Zan (i:=7) sc_law_apart.nd rfl (Or.inr rfl) (Zb8 (Zaf c_law_draw hr (by rfl) (Zbr 0 (Zae (ZaG Zac (v3 2)) Zaj))) (ZaG Zac (v3 2)))) (Zab (Zan (i:=8) sc_law_apart.nd rfl (Or.inl rfl) (Zaf c_law_draw hr (by rfl) (Zbr 0 (Zae (Zds (v3 5) (by rfl) B.len_) Zaj)))) (Zam (ZkO 3 (o_e (Zbi (ts:=["_law_one", "_law_other"]) (fr:=["_law_x", "_law_y"]) (js:=[6,7]) (ZaT (o_e (Zg2 (o_e (Zbl (v3 5) (ZbB (v3 8)) Zcp)) (o_e (Zbl (v3 5) Zcp (ZbB (v3 8))))))) (fun _ _ _ _=>(Zbf (n:=2) rfl (Zah (Zag (i:=0) (show List.Nodup (["_law_one", "_law_other", "_law_x", "_law_y"]:List Str) by decide +kernel) rfl (Or.inl rfl)) (Zah (Zag (i:=1) (show List.Nodup (["_law_one", "_law_other", "_law_x", "_law_y"]:List Str) by decide +kernel) rfl (Or.inl rfl)) ZaK)))) (fun _ _ _ _=>ZbL) (fun _ _ _ _=>(Zax (Zaa (Zbw (v3 0) (v3 2)) (Zaa (Zbw (v3 1) (v3 3)) Zao)))) ⟨rfl,by decide +kernel,rfl,by decide +kernel,Za2 (List.forall_mem_cons.mpr ⟨rfl,(List.forall_mem_cons.mpr ⟨rfl,(List.forall_mem_nil _)⟩)⟩),ZbA rfl,by walk_at "ffr", rfl⟩)))))))) (s_fz 3 (Zab (Zan (i:=8) sc_law_apart.nd rfl (Or.inl rfl) (Zaf c_law_draw hr (by rfl) (Zbr 0 (Zae (Zds (v3 3) (by rfl) B.len_) Zaj)))) (Zam (ZaF (o_e (Zg2 (o_e (Zbl (v3 3) (ZbB (v3 8)) Zcp)) (o_e (Zbl (v3 3) Zcp (ZbB (v3 8)))))))))))),?_⟩)
 rintro as k hl ⟨rs,fa,rfl,l1,l4,rl,f1,f2,hk⟩
 refine at3 (r:=[.bag,.val (.lst (rs.map dF2)),.val (.int fa),.no,.no,.no,.no,.no,.no]) rfl ?_
 have big:10000≤sizeLine:=by decide
 have t2:2≤sizeLine:=by decide
 have b4:∀ x:Int,0≤x→x≤200000000→intBits x≤400:=fun x x0 x1=>Nat.le_trans (ZaC (by omega) (by omega)) (by decide)
 have b9:∀ x:Int,0≤x→x≤200000000→intBits x≤9000:=fun x x0 x1=>Nat.le_trans (b4 x x0 x1) (by decide)
 refine mid4 (fun ρ=>ρ=[.bag,.val (.lst (rs.map dF2)),.val (.int fa),.own (.l (([]:RR).map dF2)),.no,.no,.no,.no,.no]) ?_ (fun N kk=>⟨Nat.zero_le _,kk _ rfl⟩)
 rintro ρ rfl
 refine mid4 (fun ρ=>∃ (ms:RR) (v4 v5 v6 v7 v8:Sl),ρ=[.bag,.val (.lst (rs.map dF2)),.val (.int fa),.own (.l (ms.map dF2)),v4,v5,v6,v7,v8]∧MvAs fa rs ms) ?_ (fun N kk=>?_)
 ·rintro ρ ⟨ms,v4,v5,v6,v7,v8,rfl,mv⟩
  have ml:=Zfu mv
  have len:(ms.map dF2).length=ms.length:=List.length_map ..
  refine ⟨_,rfl,?_⟩
  refine mid4 (fun ρ=>∃ t:Nat,t≤ms.length∧ρ=[.bag,.val (.lst (rs.map dF2)),.val (.int fa),.val (.lst (ms.map dF2)),v4,v5,v6,v7,.val (.int t)]) ?_ (fun N kk=>?_)
  rotate_left
  ·refine ⟨rfl,_,rfl,_,rfl,rfl,_,rfl,by rw [len]; omega,b4 _ (by omega) (by rw [len]; omega),fun t t0 t1=>?_⟩
   rw [len] at t1
   obtain ⟨u,rfl⟩:∃ u:Nat,t=u:=⟨t.toNat,by omega⟩
   exact kk _ ⟨u,by omega,rfl⟩
  rintro ρ ⟨t,ht,rfl⟩
  have c1:cutL (ms.map dF2) (some (t:Int)) none=(ms.drop t).map dF2:=by rw [ZbS (by omega) (by rw [len]; omega),Int.toNat_natCast,List.map_drop]
  have c2:cutL (ms.map dF2) none (some (t:Int))=(ms.take t).map dF2:=by rw [Zde (by omega) (by rw [len]; omega),Int.toNat_natCast,List.map_take]
  refine ⟨_,rfl,_,rfl,_,rfl,_,rfl,_,rfl,_,rfl,_,rfl,_,rfl,_,_,rfl,rfl,?_⟩
  rw [c1,c2]
  refine ⟨by rw [List.length_map,List.length_map,List.length_drop,List.length_take]; omega,?_⟩
  rw [← List.map_append]
  exact hk ms t mv
 refine ⟨_,rfl,_,rfl,?_⟩
 refine ZgL (f:=dF2) (rs:=rs) (done:=[]) (fun pre ρ=>∃ (ms:RR) (v4 v5 v6 v7 v8:Sl),ρ=[.bag,.val (.lst (rs.map dF2)),.val (.int fa),.own (.l (ms.map dF2)),v4,v5,v6,v7,v8]∧MvAs fa pre ms) ⟨[],_,_,_,_,_,rfl,.nil⟩ ?_ (fun ρ h=>kk ρ h)
 rintro pre r rest ρ he ⟨ms,v4,v5,v6,v7,v8,rfl,mv⟩ N2 kk2
 rw [List.nil_append] at he
 obtain ⟨r1,r24⟩:=rl r (by rw [he]; simp)
 have len:(r.map dR).length=r.length:=List.length_map ..
 have lp:pre.length≤3:=by
  have q2:=congrArg List.length he
  simp at q2
  omega
 have ml:=Zfu mv
 have lq:ms.length≤3:=by omega
 have p3:0≤40 * fa * (pre.length:Int)∧40 * fa * (pre.length:Int)≤120 * fa:=by
  have:(pre.length:Int)=0∨(pre.length:Int)=1∨(pre.length:Int)=2∨(pre.length:Int)=3:=by omega
  rcases this with z | z | z | z <;> rw [z] <;> omega
 refine mid4 (fun ρ=>∃ x:Int,(0≤x∧x≤130 * fa)∧ρ=[.bag,.val (.lst (rs.map dF2)),.val (.int fa),.own (.l (ms.map dF2)),.val (.int pre.length),.val (dF2 r),.val (.int x),v7,v8]) ?_ (fun N kk=>?_)
 rotate_left
 ·refine ⟨_,rfl,_,_,rfl,rfl,⟨by decide,b9 _ (by omega) (by omega)⟩,_,rfl,_,_,rfl,rfl,⟨b9 _ (by omega) (by omega),b9 _ (by omega) (by omega)⟩,rfl,_,rfl,_,_,rfl,rfl,⟨by decide,b9 _ (by omega) (by omega)⟩,rfl,_,rfl,by omega,b4 _ (by omega) (by omega),fun x x0 x1=>?_⟩
  exact ⟨_,_,rfl,rfl,kk _ ⟨_,by omega,rfl⟩⟩
 rintro ρ ⟨x,⟨x0,x1⟩,rfl⟩
 refine mid4 (fun ρ=>∃ y:Int,(-(50 * fa)≤y∧y≤50 * fa)∧ρ=[.bag,.val (.lst (rs.map dF2)),.val (.int fa),.own (.l (ms.map dF2)),.val (.int pre.length),.val (dF2 r),.val (.int x),.val (.int y),v8]) ?_ (fun N kk=>?_)
 rotate_left
 ·refine ⟨rfl,_,rfl,_,_,rfl,rfl,⟨by decide,b9 _ (by omega) (by omega)⟩,rfl,_,rfl,by omega,b4 _ (by omega) (by omega),fun y y0 y1=>?_⟩
  exact ⟨_,rfl,_,_,rfl,rfl,⟨by decide,b9 _ (by omega) (by omega)⟩,_,_,rfl,rfl,kk _ ⟨_,by omega,rfl⟩⟩
 rintro ρ ⟨y,⟨y0,y1⟩,rfl⟩
 refine mid4 (fun ρ=>∃ t:Nat,t≤r.length∧ρ=[.bag,.val (.lst (rs.map dF2)),.val (.int fa),.own (.l (ms.map dF2)),.val (.int pre.length),.val (dF2 r),.val (.int x),.val (.int y),.val (.int t)]) ?_ (fun N kk=>?_)
 rotate_left
 ·refine ⟨rfl,_,rfl,_,rfl,rfl,_,rfl,by rw [len]; omega,b4 _ (by omega) (by rw [len]; omega),fun t t0 t1=>?_⟩
  rw [len] at t1
  obtain ⟨u,rfl⟩:∃ u:Nat,t=u:=⟨t.toNat,by omega⟩
  exact kk _ ⟨u,by omega,rfl⟩
 rintro ρ ⟨t,ht,rfl⟩
 have c1:cutL (r.map dR) (some (t:Int)) none=(r.drop t).map dR:=by rw [ZbS (by omega) (by rw [len]; omega),Int.toNat_natCast,List.map_drop]
 have c2:cutL (r.map dR) none (some (t:Int))=(r.take t).map dR:=by rw [Zde (by omega) (by rw [len]; omega),Int.toNat_natCast,List.map_take]
 refine ⟨_,rfl,_,rfl,_,rfl,_,rfl,_,rfl,_,rfl,_,rfl,_,rfl,_,rfl,_,_,rfl,rfl,?_⟩
 rw [c1,c2]
 refine ⟨by rw [List.length_map,List.length_map,List.length_drop,List.length_take]; omega,_,rfl,?_⟩
 rw [← List.map_append]
 dsimp only
 refine ⟨by rw [List.length_map,List.length_append,List.length_drop,List.length_take]; omega,?_⟩
 refine ZcB (h:=fun p=>dR (mv2 1 x y p)) (fun p hp k hk=>?_) ?_
 ·have em:dR (mv2 1 x y p)=.tup [.int (p.1 + x),.int (p.2 + y)]:=by
   unfold mv2
   rw [Int.one_mul,Int.one_mul]; rfl
  rw [em] at hk
  exact ⟨_,rfl,_,rfl,_,_,rfl,rfl,_,rfl,_,rfl,_,_,rfl,rfl,t2,hk⟩
 have es:ms.map dF2 ++ [D.lst ((r.drop t ++ r.take t).map fun p=>dR (mv2 1 x y p))]=(ms ++ [(r.drop t ++ r.take t).map (mv2 1 x y)]).map dF2:=by
  generalize r.drop t ++ r.take t=u
  rw [List.map_append]
  have e1:(u.map fun p=>dR (mv2 1 x y p))=(u.map (mv2 1 x y)).map dR:=by rw [List.map_map]; rfl
  rw [e1]; rfl
 refine ⟨by rw [List.length_map]; omega,kk2 _ ⟨ms ++ [(r.drop t ++ r.take t).map (mv2 1 x y)],.val (.int pre.length),.val (dF2 r),.val (.int x),.val (.int y),.val (.int t),by rw [es]; rfl,.snoc mv ⟨x,y,t,x0,x1,y0,y1,rfl⟩⟩⟩
theorem sc_law_added:FnScope ["_law_some", "_law_sums_here", "_law_told_here", "_law_way_here", "_law_often", "_law_top", "_law_bottom"] ["_law_some"] (Zad ZbI):=⟨rfl,rfl,rfl,by decide +kernel,rfl,by decide +kernel,by decide +kernel⟩
def Zgy:FS:=fun as k=>∃ (Ls:List MKs) (qs:RR) (n:Int),as=[.val (.lst (Ls.map fun L=>.lst (L.map dMk)))]∧(RgsW 20000000000 qs)∧(1≤n)∧(n≤12000000)∧(MkAs qs n Ls)∧∀ L,MkOk (smR qs) n L→k (.val (.lst (L.map dMk)))
theorem ZiU (B:Blts mg)   (F:Fnd K mg "_law_added" ZbI ["_law_some"]) (c_law_low:Cal P w K mg base "_law_low" ["_law_top", "_law_bottom"] 3 (Con K 2 ZgC)) :
  Cal P w K mg base "_law_added" ["_law_some"] 4 (Con K 1 Zgy):=by
 refine def3 (lv:=3) F sc_law_added rfl (fun f cdv A outer s H E hr=>⟨_,(Zab (ZhX (b:=false) (i:=1) sc_law_added.nd rfl (Or.inr rfl)) (Zab (Zbx PassesOwn.never rfl (ZaT (v3 0)) (Zag (i:=2) sc_law_added.nd rfl (Or.inl rfl)) (Zam (Zbx PassesOwn.never rfl (ZaT (v3 2)) (Zbf (n:=2) rfl (Zah (Zag (i:=3) sc_law_added.nd rfl (Or.inl rfl)) (Zah (Zag (i:=4) sc_law_added.nd rfl (Or.inl rfl)) ZaK))) (Zab (Zdm (Zc1 (b:=false) 1 (hu4 hr) (v3 3) (Zax (Zaa Zac (Zaa Zac Zao)))) (Zbf (n:=2) rfl (Zah (Zag (i:=5) sc_law_added.nd rfl (Or.inl rfl)) (Zah (Zag (i:=6) sc_law_added.nd rfl (Or.inl rfl)) ZaK)))) (Zam (ZjA (b:=false) 1 (hu4 hr) (v3 3) (Zaf c_law_low hr (by rfl) (Zae (Zbw (ZaG (v3 5) (e_ix (v3 4) Zac (fun _ _=>rfl))) (ZaG (e_ix (v3 4) Zac (fun _ _=>rfl)) (v3 6))) (Zae (ZaG (v3 6) (e_ix (v3 4) Zac (fun _ _=>rfl))) Zaj))))))))) (Znf 1 (Zam (ZaF (o_e (Zbi (ts:=["_law_way_here"]) (fr:=["_law_sums_here"]) (js:=[1]) (ZaT (o_e (Zi1 (b:=false) rfl (hr.units) (v3 1) (by rfl) B.sorted_))) (fun _ _ _ _=>(Zag (i:=0) (show List.Nodup (["_law_way_here", "_law_sums_here"]:List Str) by decide +kernel) rfl (Or.inl rfl))) (fun _ _ _ _=>(Zfq (Zbp (f:=fun i j => !decide (i=j)) Zjy (e_ix (ZkF false (hu4 hr) (v3 1) (v3 0) (fun _ _=>rfl)) Zac (fun _ _=>rfl)) Zac (Zaq _)))) (fun _ _ _ _=>(Zax (Zaa (v3 0) (Zaa (ZkF false (hu4 hr) (v3 1) (v3 0) (fun _ _=>rfl)) Zao)))) ⟨rfl,by decide +kernel,rfl,by decide +kernel,Za2 (List.forall_mem_cons.mpr ⟨rfl,(List.forall_mem_nil _)⟩),ZbA rfl,by walk_at "ffr", rfl⟩))))))),?_⟩)
 rintro as k hl ⟨Ls,qs,n,rfl,ok,n1,n2,mk,hk⟩
 refine at3 (r:=[.val (.lst (Ls.map fun L=>.lst (L.map dMk))),.no,.no,.no,.no,.no,.no]) rfl ?_
 have big:10000≤sizeLine:=by decide
 have t2:2≤sizeLine:=by decide
 have n0:0 < n:=by omega
 obtain ⟨zs,e1,e2,mz⟩:=mk
 have l24:=ok.l24
 subst e1
 subst e2
 refine mid4 (fun ρ=>ρ=[.val (.lst ((zs.map (·.2)).map fun L=>.lst (L.map dMk))),.own (.d false none [] (([]:List F2).map dR)),.no,.no,.no,.no,.no]) ?_ (fun N kk=>kk _ rfl)
 rintro ρ rfl
 refine mid4 (fun ρ=>∃ (ks:List (List (List Int))) (vs:List F2) (v2 v3 v4 v5 v6:Sl),ρ=[.val (.lst ((zs.map (·.2)).map fun L=>.lst (L.map dMk))),.own (.d false none ks (vs.map dR)),v2,v3,v4,v5,v6]∧DcOk ks vs (0,1) (fun d=>nrat (smR (zs.map (·.1)) d) n)∧ks.length≤24) ?_ (fun N kk=>?_)
 ·rintro ρ ⟨ks,vs,v2,v3,v4,v5,v6,rfl,dc,l⟩
  generalize smR (zs.map (·.1))=T at hk dc
  obtain ⟨vi,di⟩:=dc_int n0 dc
  refine ⟨false,none,ks,_,rfl,?_⟩
  refine ⟨_,rfl,ks,_,rfl,⟨by omega,?_⟩,fun ks' pm pw=>?_⟩
  ·rw [if_neg (by decide)]
   refine ⟨2,by omega,fun k hk=>?_⟩
   obtain ⟨d,rfl⟩:=dc.ky k hk
   exact ⟨_,rfl,rfl⟩
  obtain ⟨ds,e,at_,mk⟩:=Zk1 di pm pw n
  have lk:∀ d∈ds,lkA ks (vs.map dR) (kD d)=some (dR (nrat (T d) n)):=fun d hd=>by
   have m:kD d∈ks:=by
    rw [← pm.mem_iff,e]
    exact List.mem_map_of_mem hd
   rw [ZeF,Zen dc m]; rfl
  have el:ks'.map (keyD false)=ds.map dR:=by rw [e,List.map_map]; rfl
  have len:(ds.map dR).length≤sizeLine:=by
   rw [← el,List.length_map,pm.length_eq]; omega
  have hk:=hk _ mk
  rw [List.map_map] at hk
  rw [el]
  refine ⟨_,rfl,len,ZbV (f:=dR) (P:=fun d=>decide (T d≠0)) (h:=fun d=>dMk (d,nrat (T d) n)) (fun d hd k hk=>?_) (fun d hd k hk=>?_) hk⟩
  ·refine ⟨_,rfl,_,rfl,ks,_,kD d,_,rfl,rfl,(fun _=>⟨_,rfl⟩),lk d hd,[.int (nrat (T d) n).1,.int (nrat (T d) n).2],0,.int (nrat (T d) n).1,.inl rfl,rfl,rfl,_,_,rfl,rfl,_,rfl,?_⟩
   rw [show (!decide ((nrat (T d) n).1=0))=decide (T d≠0) by
    have:=ZkB (s:=T d) n0
    by_cases z:T d=0
    ·rw [decide_eq_true (this.mpr z),decide_eq_false (fun w=>w z)]; rfl
    ·rw [decide_eq_false (fun w=>z (this.mp w)),decide_eq_true z]; rfl]
   exact hk
  ·refine ⟨_,rfl,_,rfl,_,rfl,ks,_,kD d,_,rfl,rfl,(fun _=>⟨_,rfl⟩),lk d hd,t2,hk⟩
 refine ⟨_,rfl,_,rfl,?_⟩
 rw [List.map_map]
 refine Za5 (f:=fun z:List F2×List (F2×F2)=>D.lst (z.2.map dMk)) (rs:=zs) (done:=[]) (fun pre ρ=>∃ (ks:List (List (List Int))) (vs:List F2) (v2 v3 v4 v5 v6:Sl),ρ=[.val (.lst ((zs.map (·.2)).map fun L=>.lst (L.map dMk))),.own (.d false none ks (vs.map dR)),v2,v3,v4,v5,v6]∧DcOk ks vs (0,1) (fun d=>nrat (smR (pre.map (·.1)) d) n)∧ks.length≤((pre.map (·.1)).map List.length).sum) ⟨[],[],_,_,_,_,_,by rw [List.map_map],dc_start.ext fun d=>(Za4 n0).symm,by simp⟩ ?_ (fun ρ h=>?_)
 rotate_left
 ·obtain ⟨ks,vs,v2,v3,v4,v5,v6,rfl,dc,l⟩:=h
  rw [List.nil_append] at dc l
  exact kk _ ⟨ks,vs,_,_,_,_,_,rfl,dc,Nat.le_trans l l24⟩
 rintro pre z rest ρ he ⟨ks,vs,v2,v3,v4,v5,v6,rfl,dc,l⟩ N2 kk2
 rw [List.nil_append] at he
 obtain ⟨mk,_⟩:=mz z (by rw [he]; simp)
 obtain ⟨ok1,ok2⟩:=ok.sub (pre:=pre.map (·.1)) (r:=z.1) (rest:=rest.map (·.1)) (by rw [he]; simp)
 have ml:=mk_len mk
 have tot:((zs.map (·.1)).map List.length).sum=((pre.map (·.1)).map List.length).sum + (z.1.length + ((rest.map (·.1)).map List.length).sum):=by rw [he]; simp
 generalize hS:smR [z.1]=S at mk ok2
 refine ⟨_,rfl,_,rfl,?_⟩
 refine Zd8 (f:=fun x:F2×F2=>dR x.1) (g:=fun x:F2×F2=>dR x.2) (done:=[]) (rs:=z.2) (fun done ρ=>∃ (ks:List (List (List Int))) (vs:List F2) (v3 v4 v5 v6:Sl),ρ=[.val (.lst ((zs.map (·.2)).map fun L=>.lst (L.map dMk))),.own (.d false none ks (vs.map dR)),.val (.lst (z.2.map dMk)),v3,v4,v5,v6]∧DcOk ks vs (0,1) (fun d=>nrat (smR (pre.map (·.1)) d + mkS done S d) n)∧ks.length≤((pre.map (·.1)).map List.length).sum + done.length) ⟨ks,vs,_,_,_,_,rfl,dc.ext fun d=>by rw [ZlR,Int.add_zero],by simpa using l⟩ ?_ (fun ρ h=>?_)
 rotate_left
 ·obtain ⟨ks,vs,v3,v4,v5,v6,rfl,dc,l⟩:=h
  rw [List.nil_append] at dc l
  refine kk2 _ ⟨ks,vs,_,_,_,_,_,rfl,dc.ext fun d=>?_,?_⟩
  ·rw [Zmx mk,← hS,List.map_append,List.map_cons,List.map_nil,Zc4,Ziw]
  ·simp at l ⊢; omega
 rintro done x rest2 ρ he2 ⟨ks,vs,v3,v4,v5,v6,rfl,dc,l⟩ N3 kk3
 rw [List.nil_append] at he2
 have lt:done.length < z.2.length:=by rw [he2]; simp
 have x2:x.2=nrat (S x.1) n:=((mk.mem x.1 x.2).mp (by rw [he2]; simp)).2
 have zr:=Zmk (S:=S) he2 mk.pw
 have s1:=ZkU ok1 x.1
 have s2:=ZkU ok2 x.1
 rw [hS] at s2
 obtain ⟨f1,f2,f3⟩:=Zei (s:=smR (pre.map (·.1)) x.1) n1 n2 (by omega) (by omega)
 obtain ⟨k1,k2,k3⟩:=Zei (s:=S x.1) n1 n2 (by omega) (by omega)
 have eat:(lkA ks (vs.map dR) (kD x.1)).getD (.tup [.int 0,.int 1])=dR (nrat (smR (pre.map (·.1)) x.1) n):=by rw [lk_dR,dc.at_,zr,Int.add_zero]
 obtain ⟨l1,l2⟩:=Zgp (k:=kD x.1) (x:=nrat (smR (pre.map (·.1)) x.1 + S x.1) n) dc.len
 have an:=Zga n0 (smR (pre.map (·.1)) x.1) (S x.1)
 refine mid4 (fun ρ=>ρ=[.val (.lst ((zs.map (·.2)).map fun L=>.lst (L.map dMk))),.own (.d false none ks (vs.map dR)),.val (.lst (z.2.map dMk)),.val (dR x.1),.val (dR x.2),.val (.int (nrat (smR (pre.map (·.1)) x.1) n).1),.val (.int (nrat (smR (pre.map (·.1)) x.1) n).2)]) ?_ (fun N kk=>?_)
 rotate_left
 ·refine ⟨none,ks,_,rfl,_,rfl,t2,kD x.1,rfl,(fun _=>⟨_,rfl⟩),?_⟩
  rw [eat]
  exact ⟨_,rfl,rfl,_,_,rfl,_,_,rfl,rfl,kk _ rfl⟩
 rintro ρ rfl
 rw [x2]
 generalize hA:nrat (smR (pre.map (·.1)) x.1) n=A at *
 generalize hB:nrat (S x.1) n=B at *
 refine ⟨_,rfl,_,rfl,[.int B.1,.int B.2],1,.int B.2,.inl rfl,rfl,rfl,_,_,rfl,rfl,⟨by omega,by omega⟩,?_⟩
 refine ⟨_,rfl,[.int B.1,.int B.2],0,.int B.1,.inl rfl,rfl,rfl,_,rfl,_,_,rfl,rfl,⟨by omega,by omega⟩,_,_,rfl,rfl,?_⟩
 refine ⟨_,rfl,_,rfl,[.int B.1,.int B.2],1,.int B.2,.inl rfl,rfl,rfl,_,_,rfl,rfl,⟨by omega,by omega⟩,rfl,A.1 * B.2 + B.1 * A.2,A.2 * B.2,rfl,Int.mul_pos f1.1 k1.1,Nat.le_trans (intBits_mul_le f3 k3) (by decide),?_⟩
 dsimp only [fzR]
 rw [an]
 refine ⟨none,ks,_,rfl,_,rfl,kD x.1,rfl,(fun _=>⟨_,rfl⟩),by omega,?_⟩
 refine kk3 _ ⟨ptK ks (kD x.1),ptA ks vs (kD x.1) (nrat (smR (pre.map (·.1)) x.1 + S x.1) n),_,_,_,_,by rw [ZhG]; rfl,dc.put _ _ ?_ (fun d hd=>?_),by rw [List.length_append,List.length_singleton]; omega⟩
 ·rw [Zic he2 mk.pw,if_pos rfl]
 ·rw [Zic he2 mk.pw,if_neg hd]
theorem sc_law_right:FnScope ["_law_bag_here", "_law_far", "_law_bottom", "_law_ring", "_law_one", "_law_other", "_law_near", "_law_parts_here", "_law_turning", "_law_fewer", "_law_bent", "_law_found"] ["_law_bag_here", "_law_far", "_law_bottom"] (Zad ZbG):=⟨rfl,rfl,rfl,by decide +kernel,rfl,by decide +kernel,by decide +kernel⟩
def Zf3:FS:=fun as k=>∃ (fa n:Int),as=[.bag,.val (.int fa),.val (.int n)]∧(1≤fa)∧(fa≤1000000)∧(1≤n)∧(n≤1000000)∧k (.val (.bl true))
theorem ZiN (B:Blts mg)   (F:Fnd K mg "_law_right" ZbG ["_law_bag_here", "_law_far", "_law_bottom"]) (c_law_star:Cal P w K mg base "_law_star" ["_law_bag_here", "_law_most", "_law_far"] 2 (Con K 3 ZiE)) (c_law_draw:Cal P w K mg base "_law_draw" ["_law_bag_here", "_law_many"] 1 (Con K 2 (ZcJ 400))) (c_law_apart:Cal P w K mg base "_law_apart" ["_law_bag_here", "_law_parts_here", "_law_far"] 2 (Con K 3 Zgx)) (c_law_parts:Cal P w K mg base "_law_parts" ["_law_bag_here", "_law_ring"] 2 (Con K 2 Zgs)) (c_law_told:Cal P w K mg base "_law_told" ["_law_cloth"] 4 (Con K 1 Zh3)) (c_forbids:Cal P w K mg base "forbids" ["one", "other", "turning"] 6 (Con K 3 ZhA)) (c_marks:Cal P w K mg base "marks" ["cloth"] 5 (Con K 1 Zd1)) (c_law_added:Cal P w K mg base "_law_added" ["_law_some"] 4 (Con K 1 Zgy)) (c_law_area:Cal P w K mg base "_law_area" ["_law_cloth"] 4 (Con K 1 ZiF)) (c_law_marks:Cal P w K mg base "_law_marks" ["_law_cloth"] 5 (Con K 1 Zgq)) :
  Cal P w K mg base "_law_right" ["_law_bag_here", "_law_far", "_law_bottom"] 7 (Con K 3 Zf3):=by
 refine def3 (lv:=6) F sc_law_right rfl (fun f cdv A outer s H E hr=>⟨_,(Zab (Zan (i:=3) sc_law_right.nd rfl (Or.inl rfl) (Zaf c_law_star hr (by rfl) (Zbr 0 (Zae (Zbw Zac (Zaf c_law_draw hr (by rfl) (Zbr 0 (Zae Zac Zaj)))) (Zae (v3 1) Zaj))))) (Zab (Zan (i:=4) sc_law_right.nd rfl (Or.inl rfl) (Zax (Zaa (o_e (Zd2 (Zaa (v3 3) Zao))) (Zaa (v3 2) Zao)))) (Zab (Zan (i:=5) sc_law_right.nd rfl (Or.inl rfl) (Zax (Zaa (Zaf c_law_apart hr (by rfl) (Zbr 0 (Zae (Zaf c_law_parts hr (by rfl) (Zbr 0 (Zae (v3 3) Zaj))) (Zae (v3 1) Zaj)))) (Zaa (v3 2) Zao)))) (Zab (Zan (i:=6) sc_law_right.nd rfl (Or.inl rfl) (Zaf c_law_told hr (by rfl) (Zae (v3 4) Zaj))) (Zab (Zan (i:=7) sc_law_right.nd rfl (Or.inl rfl) (Zaf c_law_told hr (by rfl) (Zae (v3 5) Zaj))) (Zab (Zbx PassesOwn.never rfl (i_tup (Zax (Zaa e_bl (Zaa e_bl Zao)))) (Zag (i:=8) sc_law_right.nd rfl (Or.inl rfl)) (Zam (s_if (w_t (w_or (Zlu (Zaf c_forbids hr (by rfl) (Zae (v3 6) (Zae (v3 7) (Zae (v3 8) Zaj)))) Zhm (Zaq _)) (ZkR (Zlu (Zaf c_forbids hr (by rfl) (Zae (v3 7) (Zae (v3 6) (Zae (v3 8) Zaj)))) Zhm (Zaq _))))) (Zam (ZaF e_bl)) Zbt))) (Zab (s_if (w_t (w_or (t_ne (hr.units) (Zaf c_marks hr (by rfl) (Zae (v3 7) Zaj)) (Zaf c_marks hr (by rfl) (Zae (v3 6) Zaj)) (Zaq _)) (ZkR (t_ne (hr.units) (Zaf c_law_added hr (by rfl) (Zae (o_e (Zbi (ts:=["_law_part"]) (fr:=[]) (js:=[]) (ZaT (v3 7)) (fun _ _ _ _=>(Zag (i:=0) (show List.Nodup (["_law_part"]:List Str) by decide +kernel) rfl (Or.inl rfl))) (fun _ _ _ _=>ZbL) (fun _ _ _ _=>(Zaf c_marks hr (by rfl) (Zae (o_e (Zd2 (Zaa (v3 0) Zao))) Zaj))) ⟨rfl,by decide +kernel,rfl,by decide +kernel,Za2 (List.forall_mem_nil _),ZbA rfl,by walk_at "ffr", rfl⟩)) Zaj)) (Zaf c_marks hr (by rfl) (Zae (v3 6) Zaj)) (Zaq _))))) (Zam (ZaF e_bl)) Zbt) (Zab (Zan (i:=9) sc_law_right.nd rfl (Or.inl rfl) (Zax (Zaa (o_e (Zbl (e_ix (v3 5) Zac (fun _ _=>rfl)) (ZbB Zac) Zcp)) (Zaa (v3 2) Zao)))) (Zab (s_if (t_ne (hr.units) (Zaf c_forbids hr (by rfl) (Zae (v3 6) (Zae (Zaf c_law_told hr (by rfl) (Zae (v3 9) Zaj)) (Zae e_bl Zaj)))) (Zax (Zaa Zkh (Zaa (Zaf c_law_area hr (by rfl) (Zae (v3 4) Zaj)) (Zaa (Zaf c_law_area hr (by rfl) (Zae (v3 9) Zaj)) Zao)))) (Zaq _)) (Zam (ZaF e_bl)) Zbt) (Zab (Zan (i:=10) sc_law_right.nd rfl (Or.inl rfl) (Zax (Zaa (o_e (Zg2 (o_e (Zbl (e_ix (v3 5) Zac (fun _ _=>rfl)) (ZbB Zac) Zcp)) (o_e (Zd2 (Zaa (o_e (Zbi (ts:=["_law_x", "_law_y"]) (fr:=["_law_far"]) (js:=[1]) (ZaT (e_ix (e_ix (v3 5) Zac (fun _ _=>rfl)) Zac (fun _ _=>rfl))) (fun _ _ _ _=>(Zbf (n:=2) rfl (Zah (Zag (i:=0) (show List.Nodup (["_law_x", "_law_y", "_law_far"]:List Str) by decide +kernel) rfl (Or.inl rfl)) (Zah (Zag (i:=1) (show List.Nodup (["_law_x", "_law_y", "_law_far"]:List Str) by decide +kernel) rfl (Or.inl rfl)) ZaK)))) (fun _ _ _ _=>ZbL) (fun _ _ _ _=>(Zax (Zaa (ZdP (v3 0)) (Zaa (Zb8 (ZdP (v3 1)) (ZaG Zac (v3 2))) Zao)))) ⟨rfl,by decide +kernel,rfl,by decide +kernel,Za2 (List.forall_mem_cons.mpr ⟨rfl,(List.forall_mem_nil _)⟩),ZbA rfl,by walk_at "ffr", rfl⟩)) Zao))))) (Zaa (v3 2) Zao)))) (Zab (Zan (i:=11) sc_law_right.nd rfl (Or.inl rfl) (Zaf c_forbids hr (by rfl) (Zae (v3 6) (Zae (Zaf c_law_told hr (by rfl) (Zae (v3 10) Zaj)) (Zae e_bl Zaj))))) (Zab (s_if (t_eq (hr.units) (Zaf c_law_marks hr (by rfl) (Zae (v3 10) Zaj)) (Zaf c_law_marks hr (by rfl) (Zae (v3 4) Zaj)) (Zaq _)) (Zam (ZaF (e_isN (v3 11) Zhm (Zaq _)))) Zbt) (Zam (ZaF (e_and (e_eq (hr.units) (e_ix (v3 11) Zac (fun _ _=>rfl)) Zkh (Zaq _)) (e_one (e_isN (Zaf c_forbids hr (by rfl) (Zae (v3 6) (Zae (Zaf c_law_told hr (by rfl) (Zae (v3 10) Zaj)) (Zae e_bl Zaj)))) Zhm (Zaq _)))))))))))))))))),?_⟩)
 rintro as k hl ⟨fa,n,rfl,f1,f2,n1,n2,hk⟩
 refine at3 (r:=[.bag,.val (.int fa),.val (.int n),.no,.no,.no,.no,.no,.no,.no,.no,.no]) rfl ?_
 have big:10000≤sizeLine:=by decide
 have t1:1≤sizeLine:=by decide
 have t2:2≤sizeLine:=by decide
 have t3:3≤sizeLine:=by decide
 have n0:0 < n:=by omega
 have n12:n≤12000000:=by omega
 refine mid4 (fun ρ=>∃ (mo:Int) (sel:List (Nat×Int)),StarOk fa mo sel∧mo≤16∧ρ=[.bag,.val (.int fa),.val (.int n),.val (.lst ((sel.map spt).map dR)),.no,.no,.no,.no,.no,.no,.no,.no]) ?_ (fun N kk=>?_)
 rotate_left
 ·refine ⟨rfl,rfl,rfl,_,rfl,by decide,by decide +kernel,fun d d0 d1=>?_⟩
  dsimp only [fzR]
  exact ⟨_,_,rfl,rfl,_,rfl,rfl,3 + d,fa,rfl,by omega,by omega,f1,f2,fun sel st=>kk _ ⟨3 + d,sel,st,by omega,rfl⟩⟩
 rintro ρ ⟨mo,sel,st,mo2,rfl⟩
 have sr:=Zhx st mo2 f1
 have ln:sel.length=(sel.map spt).length:=by rw [List.length_map]
 refine mid4 (fun ρ=>ρ=[.bag,.val (.int fa),.val (.int n),.val (.lst ((sel.map spt).map dR)),.val (.tup [.lst [.lst ((sel.map spt).map dR)],.int n]),.no,.no,.no,.no,.no,.no,.no]) ?_ (fun N kk=>⟨_,rfl,t1,_,rfl,t2,kk _ rfl⟩)
 rintro ρ rfl
 refine mid4 (fun ρ=>∃ qs:RR,Prs fa (sel.map spt) qs∧ρ=[.bag,.val (.int fa),.val (.int n),.val (.lst ((sel.map spt).map dR)),.val (.tup [.lst [.lst ((sel.map spt).map dR)],.int n]),.val (.tup [.lst (qs.map dF2),.int n]),.no,.no,.no,.no,.no,.no]) ?_ (fun N kk=>?_)
 rotate_left
 ·refine ⟨rfl,rfl,_,rfl,rfl,fa,mo,sel,rfl,st,mo2,f1,fun cs ok=>?_⟩
  dsimp only [fzR]
  rw [ln] at ok
  obtain ⟨p1,p2,p3,_,_⟩:=Zjv sr f1 ok
  have c2:=ok.l2
  have c4:=ok.l4
  refine ⟨_,rfl,rfl,prts (sel.map spt) cs,fa,rfl,by omega,by omega,fun r hr=>⟨by have:=(p1 r hr).1.l3; omega,(p1 r hr).1.l24⟩,f1,f2,fun ms i mv=>?_⟩
  dsimp only [fzR]
  exact ⟨_,rfl,t2,kk _ ⟨_,prs_of sr f1 ok mv i,rfl⟩⟩
 rintro ρ ⟨qs,pr,rfl⟩
 generalize hps:sel.map spt=ps at sr pr
 have okp:=sr.rgs f1 f2
 have okq:=pr.rgs f2
 obtain ⟨Tn,hTn⟩:∃ T:D,T=.lst ([ps].map fun r=>.lst (r.map fun p=>dP (npt p.1 p.2 n))):=⟨_,rfl⟩
 obtain ⟨Tp,hTp⟩:∃ T:D,T=.lst (qs.map fun r=>.lst (r.map fun p=>dP (npt p.1 p.2 n))):=⟨_,rfl⟩
 obtain ⟨One,hOne⟩:∃ T:D,T=.tup [.lst [.lst (ps.map dR)],.int n]:=⟨_,rfl⟩
 have hOne2:One=.tup [.lst ([ps].map dF2),.int n]:=hOne
 rw [← hOne]
 refine mid4 (fun ρ=>ρ=[.bag,.val (.int fa),.val (.int n),.val (.lst (ps.map dR)),.val One,.val (.tup [.lst (qs.map dF2),.int n]),.val Tn,.no,.no,.no,.no,.no]) ?_ (fun N kk=>⟨_,rfl,rfl,[ps],n,by rw [hOne]; rfl,okp,n1,n12,kk _ (by rw [hTn]; rfl)⟩)
 rintro ρ rfl
 refine mid4 (fun ρ=>ρ=[.bag,.val (.int fa),.val (.int n),.val (.lst (ps.map dR)),.val One,.val (.tup [.lst (qs.map dF2),.int n]),.val Tn,.val Tp,.no,.no,.no,.no]) ?_ (fun N kk=>⟨_,rfl,rfl,qs,n,rfl,okq,n1,n12,kk _ (by rw [hTp]; rfl)⟩)
 rintro ρ rfl
 have mks:∀ d,smR [ps] d=smR qs d:=fun d=>(pr.mks d).symm
 have ar1:([ps].map tw).sum=(qs.map tw).sum:=by rw [pr.ar]; simp
 have aN:arN [ps] n=arN qs n:=ar_of ar1
 refine mid4 (fun ρ=>∃ v8:Sl,ρ=[.bag,.val (.int fa),.val (.int n),.val (.lst (ps.map dR)),.val One,.val (.tup [.lst (qs.map dF2),.int n]),.val Tn,.val Tp,v8,.no,.no,.no]) ?_ (fun N kk=>?_)
 rotate_left
 ·refine ⟨t2,_,rfl,?_⟩
  show forR _ _ _ ([false,true].map D.bl) _
  refine Za5 (f:=D.bl) (rs:=[false,true]) (done:=[]) (fun _ ρ=>∃ v8:Sl,ρ=[.bag,.val (.int fa),.val (.int n),.val (.lst (ps.map dR)),.val One,.val (.tup [.lst (qs.map dF2),.int n]),.val Tn,.val Tp,v8,.no,.no,.no]) ⟨_,rfl⟩ ?_ (fun ρ h=>kk ρ h)
  rintro pre t rest ρ he ⟨v8,rfl⟩ N kk
  refine ⟨_,rfl,_,rfl,_,rfl,rfl,[ps],qs,n,n,t,by rw [hTn,hTp]; rfl,okp,n1,n12,okq,n1,n12,fun r hr=>?_⟩
  rw [ZhZ aN mks hr]
  refine ⟨rfl,_,rfl,Zdr rfl ?_⟩
  refine ⟨_,rfl,_,rfl,_,rfl,rfl,qs,[ps],n,n,t,by rw [hTn,hTp]; rfl,okq,n1,n12,okp,n1,n12,fun r hr=>?_⟩
  rw [ZhZ aN.symm pr.mks hr]
  exact ⟨rfl,_,rfl,Zdr rfl (kk _ ⟨_,rfl⟩)⟩
 rintro ρ ⟨v8,rfl⟩
 have hM:∀ L:MKs,has (.L (.T [.T [.I,.I],.T [.I,.I]])) (.lst (L.map dMk))=true:=fun L=>by
  show ((L.map dMk).all fun x=>has (.T [.T [.I,.I],.T [.I,.I]]) x)=true
  rw [List.all_eq_true]
  intro x hx
  obtain ⟨y,_,rfl⟩:=List.mem_map.mp hx
  rfl
 have l4:=pr.l4
 have l2:=pr.l2
 have lq:(qs.map fun r=>D.lst (r.map fun p=>dP (npt p.1 p.2 n))).length=qs.length:=List.length_map ..
 refine pass4 (fun N kk=>?_) ?_
 ·refine ⟨_,rfl,rfl,qs,n,by rw [hTp]; rfl,okq,n1,n12,fun L mk lL=>?_⟩
  dsimp only [fzR]
  refine ⟨_,rfl,rfl,[ps],n,by rw [hTn]; rfl,okp,n1,n12,fun L' mk' lL'=>?_⟩
  dsimp only [fzR]
  have e:L=L':=mk.uniq (mk'.same pr.mks)
  subst e
  refine ⟨_,hM L,hM L,by decide,_,rfl,?_⟩
  rw [if_pos rfl,Za6]
  refine Zdr rfl ?_
  refine ⟨_,rfl,_,hTp,by rw [lq]; omega,?_⟩
  refine ZeN (g:=fun L:MKs=>D.lst (L.map dMk)) (R:=fun r L=>MkOk (smR [r]) n L∧L.length≤24) (fun r hr k hk=>?_) (fun zs ez hz=>?_)
  ·obtain ⟨pre,rest,es⟩:=List.append_of_mem hr
   refine ⟨_,rfl,t1,rfl,[r],n,rfl,(okq.sub es).2,n1,n12,fun L mk lL=>?_⟩
   exact hk L ⟨mk,lL⟩
  ·refine ⟨rfl,zs.map (·.2),qs,n,rfl,okq,n1,n12,⟨zs,ez,rfl,hz⟩,fun M mM=>?_⟩
   dsimp only [fzR]
   refine ⟨_,rfl,rfl,[ps],n,by rw [hTn]; rfl,okp,n1,n12,fun L' mk' lL'=>?_⟩
   dsimp only [fzR]
   have e:M=L':=mM.uniq (mk'.same pr.mks)
   subst e
   refine ⟨_,hM M,hM M,by decide,_,rfl,?_⟩
   rw [if_pos rfl,Za6]
   exact Zdr rfl kk
 obtain ⟨q,qs,rfl⟩:∃ q qs',qs=q :: qs':=by
  match qs,l2 with
  | q :: qs,_=>exact ⟨q,qs,rfl⟩
 obtain ⟨okf,ne⟩:=pr.fewer f2
 obtain ⟨okb,arb⟩:=pr.bent f1 f2
 obtain ⟨F,hF⟩:∃ T:D,T=.tup [.lst (qs.map dF2),.int n]:=⟨_,rfl⟩
 have lqs:(qs.map dF2).length=qs.length:=List.length_map ..
 have c1:cutL ((q :: qs).map dF2) (some (1:Int)) none=qs.map dF2:=by
  rw [ZbS (by omega) (by simp; omega)]
  rfl
 refine mid4 (fun ρ=>ρ=[.bag,.val (.int fa),.val (.int n),.val (.lst (ps.map dR)),.val One,.val (.tup [.lst ((q :: qs).map dF2),.int n]),.val Tn,.val Tp,v8,.val F,.no,.no]) ?_ (fun N kk=>?_)
 rotate_left
 ·refine ⟨_,rfl,[.lst ((q :: qs).map dF2),.int n],0,.lst ((q :: qs).map dF2),.inl rfl,rfl,rfl,_,rfl,_,rfl,?_⟩
  rw [c1]
  exact ⟨_,rfl,t2,kk _ (by rw [hF]; rfl)⟩
 rintro ρ rfl
 refine pass4 (fun N kk=>?_) ?_
 ·refine ⟨_,rfl,_,rfl,rfl,qs,n,by rw [hF]; rfl,okf,n1,n12,?_⟩
  dsimp only [fzR]
  refine ⟨rfl,[ps],qs,n,n,false,by rw [hTn]; rfl,okp,n1,n12,okf,n1,n12,fun r hr=>?_⟩
  have nA:arN [ps] n≠arN qs n:=ar_ne n0 fun z=>ne (by rw [← z]; simp)
  have ef:fbD [ps] qs n n false r=.tup [.str (Str.ofString "area"),dR (arN [ps] n),dR (arN qs n)]:=by
   unfold fbD
   rw [if_neg nA]
  rw [ef]
  dsimp only [fzR]
  refine ⟨_,rfl,rfl,[ps],n,by rw [hOne2]; rfl,okp,n1,n12,?_⟩
  dsimp only [fzR]
  refine ⟨_,rfl,rfl,qs,n,by rw [hF]; rfl,okf,n1,n12,?_⟩
  dsimp only [fzR]
  refine ⟨t3,.T [.S,.T [.I,.I],.T [.I,.I]],rfl,rfl,by decide,_,rfl,?_⟩
  rw [if_pos rfl,Za6]
  exact Zdr rfl kk
 generalize hbq:qs ++ [q.map (mv2 (-1) 0 (-(400 * fa)))]=bq at okb arb
 have lb:qs.length≤3:=by simp at l4; omega
 have rq:=pr.rg q List.mem_cons_self
 have a0:atI ((q :: qs).map dF2) 0=some (dF2 q):=by
  unfold atI ixN
  rw [if_pos (by omega),if_pos (by simp)]
  rfl
 have q24:=rq.l24
 obtain ⟨Bt,hBt⟩:∃ T:D,T=.tup [.lst (bq.map dF2),.int n]:=⟨_,rfl⟩
 refine mid4 (fun ρ=>ρ=[.bag,.val (.int fa),.val (.int n),.val (.lst (ps.map dR)),.val One,.val (.tup [.lst ((q :: qs).map dF2),.int n]),.val Tn,.val Tp,v8,.val F,.val Bt,.no]) ?_ (fun N kk=>?_)
 rotate_left
 ·refine ⟨_,rfl,[.lst ((q :: qs).map dF2),.int n],0,.lst ((q :: qs).map dF2),.inl rfl,rfl,rfl,_,rfl,_,rfl,?_⟩
  rw [c1]
  refine ⟨_,rfl,[.lst ((q :: qs).map dF2),.int n],0,.lst ((q :: qs).map dF2),.inl rfl,rfl,rfl,(q :: qs).map dF2,0,dF2 q,.inr rfl,rfl,a0,_,rfl,by rw [List.length_map]; omega,?_⟩
  refine ZcB (h:=fun p=>dR (mv2 (-1) 0 (-(400 * fa)) p)) (fun p hp k hk=>?_) ?_
  ·have em:dR (mv2 (-1) 0 (-(400 * fa)) p)=.tup [.int (-p.1),.int (-p.2 - 400 * fa)]:=by
    unfold mv2
    rw [show -1 * p.1 + 0 = -p.1 by omega,show -1 * p.2 + -(400 * fa) = -p.2 - 400 * fa by omega]; rfl
   rw [em] at hk
   exact ⟨_,rfl,_,rfl,_,rfl,_,rfl,_,rfl,_,_,rfl,rfl,⟨by decide,Nat.le_trans (ZaC (by omega) (by omega)) (by decide)⟩,_,_,rfl,rfl,t2,hk⟩
  ·refine ⟨t1,_,_,rfl,rfl,by rw [lqs,List.length_singleton]; omega,_,rfl,t2,kk _ ?_⟩
   have e1:(q.map fun p=>dR (mv2 (-1) 0 (-(400 * fa)) p))=(q.map (mv2 (-1) 0 (-(400 * fa)))).map dR:=by rw [List.map_map]; rfl
   rw [hBt,← hbq,List.map_append,e1]
   rfl
 rintro ρ rfl
 have arb2:arN [ps] n=arN bq n:=ar_of (by rw [arb]; simp)
 refine mid4 (fun ρ=>∃ r:Option F2,ZdA (smR [ps]) n (smR bq) n r∧ρ=[.bag,.val (.int fa),.val (.int n),.val (.lst (ps.map dR)),.val One,.val (.tup [.lst ((q :: qs).map dF2),.int n]),.val Tn,.val Tp,v8,.val F,.val Bt,.val (fbD [ps] bq n n false r)]) ?_ (fun N kk=>?_)
 rotate_left
 ·refine ⟨_,rfl,_,rfl,rfl,bq,n,by rw [hBt]; rfl,okb,n1,n12,?_⟩
  dsimp only [fzR]
  refine ⟨rfl,[ps],bq,n,n,false,by rw [hTn]; rfl,okp,n1,n12,okb,n1,n12,fun r hr=>?_⟩
  exact kk _ ⟨r,hr arb2 rfl,rfl⟩
 rintro ρ ⟨r,fd,rfl⟩
 have dmk:∀ a b:F2×F2,dMk a=dMk b→a=b:=fun a b h=>by
  have h:D.tup [dR a.1,dR a.2]=D.tup [dR b.1,dR b.2]:=h
  injection h with h
  injection h with h1 h2
  injection h2 with h2 _
  exact Prod.ext (ZdC h1) (ZdC h2)
 have minj:∀ {L L':MKs},L.map dMk=L'.map dMk→L=L':=fun {L L'} h=>by
  induction L generalizing L' with
  | nil =>
   cases L' with
   | nil=>rfl
   | cons b L'=>simp at h
  | cons a L ih =>
   cases L' with
   | nil=>simp at h
   | cons b L' =>
    rw [List.map_cons,List.map_cons] at h
    injection h with h1 h2
    rw [dmk _ _ h1,ih h2]
 refine ⟨_,rfl,rfl,bq,n,by rw [hBt]; rfl,okb,n1,n12,fun L mk lL=>?_⟩
 dsimp only [fzR]
 refine ⟨_,rfl,rfl,[ps],n,by rw [hOne2]; rfl,okp,n1,n12,fun L' mk' lL'=>?_⟩
 dsimp only [fzR]
 refine ⟨_,hM L,hM L',by decide,_,rfl,?_⟩
 change (if eqD (D.lst (L.map dMk)) (D.lst (L'.map dMk))=true then _ else _)
 have iff:=Zi5 n0 mk' mk fd
 by_cases e:L'=L
 ·have rn:=iff.mp e
  subst rn
  subst e
  rw [Za6]
  refine Zhl rfl ?_
  have ef:fbD [ps] bq n n false none=.non:=by
   unfold fbD
   rw [if_pos arb2,if_neg (by simp)]
  rw [ef]
  exact ⟨_,rfl,rfl,hk⟩
 ·have ne2:eqD (.lst (L.map dMk)) (.lst (L'.map dMk))=false:=Zcv (by
   constructor
   ·intro z; cases z
   ·intro z
    injection z with z
    exact absurd (minj z).symm e)
  rw [ne2]
  refine Zdr rfl ?_
  obtain ⟨d,rfl⟩:∃ d,r=some d:=by
   cases r with
   | none=>exact absurd (iff.mpr rfl) e
   | some d=>exact ⟨d,rfl⟩
  have ef:fbD [ps] bq n n false (some d)=.tup [.str (Str.ofString "mark"),dR d,dR (nrat (smR [ps] d) n),dR (nrat (smR bq d) n)]:=by
   unfold fbD
   rw [if_pos arb2,if_neg (by simp)]
  rw [ef]
  refine ⟨_,rfl,[.str (Str.ofString "mark"),dR d,dR (nrat (smR [ps] d) n),dR (nrat (smR bq d) n)],0,.str (Str.ofString "mark"),.inl rfl,rfl,rfl,.S,rfl,rfl,by decide,true,congrArg D.bl (Za6 _),Zhl rfl ?_⟩
  refine ⟨_,rfl,_,rfl,rfl,bq,n,by rw [hBt]; rfl,okb,n1,n12,?_⟩
  dsimp only [fzR]
  refine ⟨rfl,[ps],bq,n,n,true,by rw [hTn]; rfl,okp,n1,n12,okb,n1,n12,fun r hr=>?_⟩
  have ef:fbD [ps] bq n n true r=.non:=by
   unfold fbD
   rw [if_pos arb2,if_pos rfl]
  rw [ef]
  exact ⟨rfl,hk⟩
theorem sc_law:FnScope ["_law_script", "_law_cell_here", "_law_bag_here", "_law_bottom", "_law_far"] ["_law_script"] (Zad Zmd):=⟨rfl,rfl,rfl,by decide +kernel,rfl,by decide +kernel,by decide +kernel⟩
theorem ok_law {P:Program} {w:World} {K:PySem.W.Frag} {mg:Str→Option Value} {base:Heap} {f:Addr} {fd:FuncData} (B:Blts mg) (F:Fun K "law" "law" Zmd f fd) (c_law_cell:Cal P w K mg base "_law_cell" ["_law_script", "_law_k"] 1 (Con K 2 Zid)) (c_law_bag:Cal P w K mg base "_law_bag" ["_law_cell_here"] 1 (Con K 1 ZmT)) (c_law_draw:Cal P w K mg base "_law_draw" ["_law_bag_here", "_law_many"] 1 (Con K 2 (ZcJ 400))) (c_law_right:Cal P w K mg base "_law_right" ["_law_bag_here", "_law_far", "_law_bottom"] 7 (Con K 3 Zf3)) :
  FnOk P w K mg base CX0 8 f fd ["_law_script"] (Zkt K):=by
 refine FnOk.imp (sp:=Con K 1 F_law) ?_ (fun vs H Q E h=>Zm1 h)
 refine ZkM (lv:=7) F sc_law rfl (fun cdv A outer s H E hr=>⟨_,(Zab (Zbx PassesOwn.never rfl (ZaT (o_e (Zg2 (o_e (Zd2 (Zaa (Zaf c_law_cell hr (by rfl) (Zae (v3 0) (Zae Zac Zaj))) Zao))) (o_e (Zbl (v3 0) (ZbB Zac) (ZbB Zac)))))) (Zag (i:=1) sc_law.nd rfl (Or.inl rfl)) (Zab (s_setN (i:=2) sc_law.nd rfl (Or.inl rfl) (n_call c_law_bag hr (by rfl) (Zae (v3 1) Zaj))) (Zab (Zan (i:=3) sc_law.nd rfl (Or.inl rfl) (Zbw Zac (Zaf c_law_draw hr (by rfl) (Zbr 2 (Zae Zac Zaj))))) (Zab (Zan (i:=4) sc_law.nd rfl (Or.inl rfl) Zac) (Zab (s_if (Zbp (f:=fun i j=>decide (i=j)) Zez (Zaf c_law_draw hr (by rfl) (Zbr 2 (Zae Zac Zaj))) Zac (Zaq _)) (Zab (Zan (i:=3) sc_law.nd rfl (Or.inl rfl) (Zbw Zac (Zaf c_law_draw hr (by rfl) (Zbr 2 (Zae (e_pow Zac Zac) Zaj))))) (Zam (Zan (i:=4) sc_law.nd rfl (Or.inl rfl) (e_pow Zac Zac)))) Zbt) (Zam (s_if (t_not (Zmz (Zaf c_law_right hr (by rfl) (Zbr 2 (Zae (v3 4) (Zae (v3 3) Zaj)))))) (Zam (ZaF e_bl)) Zbt))))))) (Zam (ZaF e_bl))),?_⟩)
 rintro as k hl ⟨ns,rfl,h63,hk⟩
 refine at3 (r:=[.val (.scr ns),.no,.no,.no,.no]) rfl ?_
 walk_at "w"
 refine ⟨ns,0,rfl,by decide,fun z=>?_⟩
 walk_at "w"
 refine ⟨ZmZ h63,_,rfl,?_⟩
 refine Zfa (fun ρ=>∃ v1 v2 v3 v4:Sl,ρ=[.val (.scr ns),v1,v2,v3,v4]) ⟨_,_,_,_,rfl⟩ Zih ?_ ?_
 rotate_left
 ·rintro ρ ⟨v1,v2,v3,v4,rfl⟩
  exact hk
 rintro c ρ ⟨v1,v2,v3,v4,rfl⟩ N kk
 refine ⟨_,rfl,rfl,c,rfl,rfl,?_⟩
 refine ⟨rfl,rfl,_,rfl,by decide,by decide +kernel,fun b b0 b1=>?_⟩
 dsimp only [fzR]
 refine ⟨_,_,rfl,rfl,?_⟩
 refine mid4 (fun ρ=>ρ=[.val (.scr ns),.val (.int c),.bag,.val (.int (1 + b)),.val (.int 6)]) ?_ (fun N kk=>kk _ rfl)
 rintro ρ rfl
 refine mid4 (fun ρ=>∃ n fa:Int,(1≤n∧n≤1000000)∧(1≤fa∧fa≤1000000)∧ρ=[.val (.scr ns),.val (.int c),.bag,.val (.int n),.val (.int fa)]) ?_ (fun N kk=>?_)
 rotate_left
 ·refine ⟨rfl,rfl,_,rfl,by decide,by decide +kernel,fun d d0 d1=>?_⟩
  dsimp only [fzR]
  refine ⟨_,_,rfl,rfl,_,rfl,iteD (fun g=>?_) (fun g=>?_)⟩
  ·walk_at "w"
   intro r r0 r1
   have p6:(10:Int) ^ Int.toNat 6=1000000:=by decide
   rw [p6] at r1
   dsimp only [fzR]
   refine ⟨_,_,rfl,rfl,?_⟩
   walk_at "w"
   exact kk _ ⟨1 + r,_,by omega,by decide,rfl⟩
  ·exact kk _ ⟨_,_,by omega,by decide,rfl⟩
 rintro ρ ⟨n,fa,hn,hf,rfl⟩
 exact ⟨rfl,_,rfl,_,rfl,rfl,fa,n,rfl,hf.1,hf.2,hn.1,hn.2,_,rfl,iteF (kk _ ⟨_,_,_,_,rfl⟩)⟩
theorem all_mk {l:PySem.W.OpenLaw} {w:World} {K:PySem.W.Frag} {h:Heap} {mg:Str→Option Value} {fa:Addr} (Y:Tab tabs K) (X:K.In h) (G:h.Ns mainGlobals mg) (hfa:mg "law" = some (.ref fa))
  : ∃ fd:FuncData,(∀ (s:Shared) (v:Value),BindsTo s fd ⟨[v],[]⟩ [("_law_script", v)])∧∀ base:Heap,K.In base→base.Ns mainGlobals mg→FnOk l.prog w K mg base CX0 8 fa fd ["_law_script"] (Zkt K):=by
 obtain ⟨⟨x_greatest_divisor,x_ratio,x_plus,x_times,x_slid,x_step_to,x_turned,x_crossed,x_sides_of,x_ring_area,x_area,x_way_of,x_marks,x_forbids,x_law_cell,x_law_bag,x_law_draw,x_law_measure,x_law_low,x_law_spot,x_law_star,x_law_told,x_law_way,x_law_sums,x_law_marks,x_law_area,x_law_parts,x_law_apart,x_law_added,x_law_right,x_law,_⟩,⟨z_len,z_abs,z_int,z_bool,z_tuple,z_isinstance,z_range,z_all,z_sum,z_list,z_ValueError,z_zip,z_str,z_enumerate,z_set,z_max,z_min,z_sorted,z_dict,_⟩,⟨_⟩,⟨_⟩⟩:=Y
 have g_greatest_divisor:=x_greatest_divisor.fnd (ps:=["one", "other"]) X G fun _ _ F=>F.binds fun _ _ _ _ _ _ us hl=>match us,hl with | [_,_],_=>rfl
 have g_ratio:=x_ratio.fnd (ps:=["top", "bottom"]) X G fun _ _ F=>F.binds fun _ _ _ _ _ _ us hl=>match us,hl with | [_,_],_=>rfl
 have g_plus:=x_plus.fnd (ps:=["one", "other"]) X G fun _ _ F=>F.binds fun _ _ _ _ _ _ us hl=>match us,hl with | [_,_],_=>rfl
 have g_times:=x_times.fnd (ps:=["one", "other"]) X G fun _ _ F=>F.binds fun _ _ _ _ _ _ us hl=>match us,hl with | [_,_],_=>rfl
 have g_slid:=x_slid.fnd (ps:=["p", "step"]) X G fun _ _ F=>F.binds fun _ _ _ _ _ _ us hl=>match us,hl with | [_,_],_=>rfl
 have g_step_to:=x_step_to.fnd (ps:=["p", "q"]) X G fun _ _ F=>F.binds fun _ _ _ _ _ _ us hl=>match us,hl with | [_,_],_=>rfl
 have g_turned:=x_turned.fnd (ps:=["p"]) X G fun _ _ F=>F.binds fun _ _ _ _ _ _ us hl=>match us,hl with | [_],_=>rfl
 have g_crossed:=x_crossed.fnd (ps:=["one", "other"]) X G fun _ _ F=>F.binds fun _ _ _ _ _ _ us hl=>match us,hl with | [_,_],_=>rfl
 have g_sides_of:=x_sides_of.fnd (ps:=["ring"]) X G fun _ _ F=>F.binds fun _ _ _ _ _ _ us hl=>match us,hl with | [_],_=>rfl
 have g_ring_area:=x_ring_area.fnd (ps:=["ring"]) X G fun _ _ F=>F.binds fun _ _ _ _ _ _ us hl=>match us,hl with | [_],_=>rfl
 have g_area:=x_area.fnd (ps:=["cloth"]) X G fun _ _ F=>F.binds fun _ _ _ _ _ _ us hl=>match us,hl with | [_],_=>rfl
 have g_way_of:=x_way_of.fnd (ps:=["step"]) X G fun _ _ F=>F.binds fun _ _ _ _ _ _ us hl=>match us,hl with | [_],_=>rfl
 have g_marks:=x_marks.fnd (ps:=["cloth"]) X G fun _ _ F=>F.binds fun _ _ _ _ _ _ us hl=>match us,hl with | [_],_=>rfl
 have g_forbids:=x_forbids.fnd (ps:=["one", "other", "turning"]) X G fun _ _ F=>F.binds fun _ _ _ _ _ _ us hl=>match us,hl with | [_,_,_],_=>rfl
 have g_law_cell:=x_law_cell.fnd (ps:=["_law_script", "_law_k"]) X G fun _ _ F=>F.binds fun _ _ _ _ _ _ us hl=>match us,hl with | [_,_],_=>rfl
 have g_law_bag:=x_law_bag.fnd (ps:=["_law_cell_here"]) X G fun _ _ F=>F.binds fun _ _ _ _ _ _ us hl=>match us,hl with | [_],_=>rfl
 have g_law_draw:=x_law_draw.fnd (ps:=["_law_bag_here", "_law_many"]) X G fun _ _ F=>F.binds fun _ _ _ _ _ _ us hl=>match us,hl with | [_,_],_=>rfl
 have g_law_measure:=x_law_measure.fnd (ps:=["_law_one", "_law_other"]) X G fun _ _ F=>F.binds fun _ _ _ _ _ _ us hl=>match us,hl with | [_,_],_=>rfl
 have g_law_low:=x_law_low.fnd (ps:=["_law_top", "_law_bottom"]) X G fun _ _ F=>F.binds fun _ _ _ _ _ _ us hl=>match us,hl with | [_,_],_=>rfl
 have g_law_spot:=x_law_spot.fnd (ps:=["_law_x", "_law_y", "_law_bottom"]) X G fun _ _ F=>F.binds fun _ _ _ _ _ _ us hl=>match us,hl with | [_,_,_],_=>rfl
 have g_law_star:=x_law_star.fnd (ps:=["_law_bag_here", "_law_most", "_law_far"]) X G fun _ _ F=>F.binds fun _ _ _ _ _ _ us hl=>match us,hl with | [_,_,_],_=>rfl
 have g_law_told:=x_law_told.fnd (ps:=["_law_cloth"]) X G fun _ _ F=>F.binds fun _ _ _ _ _ _ us hl=>match us,hl with | [_],_=>rfl
 have g_law_way:=x_law_way.fnd (ps:=["_law_x", "_law_y"]) X G fun _ _ F=>F.binds fun _ _ _ _ _ _ us hl=>match us,hl with | [_,_],_=>rfl
 have g_law_sums:=x_law_sums.fnd (ps:=["_law_cloth"]) X G fun _ _ F=>F.binds fun _ _ _ _ _ _ us hl=>match us,hl with | [_],_=>rfl
 have g_law_marks:=x_law_marks.fnd (ps:=["_law_cloth"]) X G fun _ _ F=>F.binds fun _ _ _ _ _ _ us hl=>match us,hl with | [_],_=>rfl
 have g_law_area:=x_law_area.fnd (ps:=["_law_cloth"]) X G fun _ _ F=>F.binds fun _ _ _ _ _ _ us hl=>match us,hl with | [_],_=>rfl
 have g_law_parts:=x_law_parts.fnd (ps:=["_law_bag_here", "_law_ring"]) X G fun _ _ F=>F.binds fun _ _ _ _ _ _ us hl=>match us,hl with | [_,_],_=>rfl
 have g_law_apart:=x_law_apart.fnd (ps:=["_law_bag_here", "_law_parts_here", "_law_far"]) X G fun _ _ F=>F.binds fun _ _ _ _ _ _ us hl=>match us,hl with | [_,_,_],_=>rfl
 have g_law_added:=x_law_added.fnd (ps:=["_law_some"]) X G fun _ _ F=>F.binds fun _ _ _ _ _ _ us hl=>match us,hl with | [_],_=>rfl
 have g_law_right:=x_law_right.fnd (ps:=["_law_bag_here", "_law_far", "_law_bottom"]) X G fun _ _ F=>F.binds fun _ _ _ _ _ _ us hl=>match us,hl with | [_,_,_],_=>rfl
 obtain ⟨f0,fd0,m0,F0⟩:=x_law
 have e:=hfa.symm.trans (PySem.W.mg_of X G m0)
 cases e
 have B:Blts mg:=⟨PySem.W.mg_none_of X G z_len,PySem.W.mg_none_of X G z_abs,PySem.W.mg_none_of X G z_int,PySem.W.mg_none_of X G z_bool,PySem.W.mg_none_of X G z_tuple,PySem.W.mg_none_of X G z_isinstance,PySem.W.mg_none_of X G z_range,PySem.W.mg_none_of X G z_all,PySem.W.mg_none_of X G z_sum,PySem.W.mg_none_of X G z_list,PySem.W.mg_none_of X G z_ValueError,PySem.W.mg_none_of X G z_zip,PySem.W.mg_none_of X G z_str,PySem.W.mg_none_of X G z_enumerate,PySem.W.mg_none_of X G z_set,PySem.W.mg_none_of X G z_max,PySem.W.mg_none_of X G z_min,PySem.W.mg_none_of X G z_sorted,PySem.W.mg_none_of X G z_dict⟩
 refine ⟨fd0,fun s v=>?_,fun base _ _=>?_⟩
 ·obtain ⟨_,_,_,_,_,_,_,_,_,rfl,_⟩:=F0.ex
  exact .of_eq rfl
 have q_law_cell:=ZfH (P:=l.prog) (w:=w) (base:=base) B  g_law_cell
 have q_bagB:=Zm8 (P:=l.prog) (w:=w) (base:=base) B  g_law_bag
 have q_drawB:=Zkc (P:=l.prog) (w:=w) (base:=base) B  g_law_draw
 have q_law_measure:=Zdo (P:=l.prog) (w:=w) (base:=base) B  g_law_measure
 have q_lowT:=Zmm (P:=l.prog) (w:=w) (base:=base) B  g_law_low q_law_measure
 have q_spotB:=Zj8 (P:=l.prog) (w:=w) (base:=base) B  g_law_spot q_law_measure
 have q_starC:=Zkz (P:=l.prog) (w:=w) (base:=base) B  g_law_star q_drawB
 have q_toldG:=ZjY (P:=l.prog) (w:=w) (base:=base) B  g_law_told q_spotB
 have q_wayD:=ZmL (P:=l.prog) (w:=w) (base:=base) B  g_law_way q_law_measure
 have q_sumsG:=Zj6 (P:=l.prog) (w:=w) (base:=base) B  g_law_sums q_wayD
 have q_marksG:=ZhJ (P:=l.prog) (w:=w) (base:=base) B  g_law_marks q_sumsG q_lowT
 have q_greatest_divisor:=ZbN (P:=l.prog) (w:=w) (base:=base) B  g_greatest_divisor
 have q_ratio:=Zj7 (P:=l.prog) (w:=w) (base:=base) B  g_ratio q_greatest_divisor
 have q_plus:=ZlK (P:=l.prog) (w:=w) (base:=base) B  g_plus q_greatest_divisor
 have q_times:=Zj1 (P:=l.prog) (w:=w) (base:=base) B  g_times q_greatest_divisor
 have q_turned:=Zje (P:=l.prog) (w:=w) (base:=base) B  g_turned
 have q_slid:=ZmU (P:=l.prog) (w:=w) (base:=base) B  g_slid q_greatest_divisor
 have q_crossed:=Zha (P:=l.prog) (w:=w) (base:=base) B  g_crossed
 have q_step_to:=Zhj (P:=l.prog) (w:=w) (base:=base) B  g_step_to q_slid q_turned
 have q_sidesE:=ZiC (P:=l.prog) (w:=w) (base:=base) B  g_sides_of
 have q_way_of:=Zi3 (P:=l.prog) (w:=w) (base:=base) B  g_way_of q_greatest_divisor q_ratio
 have q_ring_areaW:=Zed (P:=l.prog) (w:=w) (base:=base) B  g_ring_area q_sidesE q_plus q_ratio q_crossed q_times
 have q_areaA:=ZkJ (P:=l.prog) (w:=w) (base:=base) B  g_area q_plus q_ring_areaW
 have q_marksE:=Zjc (P:=l.prog) (w:=w) (base:=base) B  g_marks q_sidesE q_way_of q_step_to q_plus
 have q_forbF:=ZkG (P:=l.prog) (w:=w) (base:=base) B  g_forbids q_areaA q_marksE
 have q_areaG:=ZjZ (P:=l.prog) (w:=w) (base:=base) B  g_law_area q_lowT
 have q_partsG:=Zjs (P:=l.prog) (w:=w) (base:=base) B  g_law_parts q_drawB
 have q_apartG:=Zji (P:=l.prog) (w:=w) (base:=base) B  g_law_apart q_drawB
 have q_addedG:=ZiU (P:=l.prog) (w:=w) (base:=base) B  g_law_added q_lowT
 have q_rightG:=ZiN (P:=l.prog) (w:=w) (base:=base) B  g_law_right q_starC q_drawB q_apartG q_partsG q_toldG q_forbF q_marksE q_addedG q_areaG q_marksG
 exact ok_law B F0 q_law_cell q_bagB q_drawB q_rightG
end Cut
open PySem PySem.W PyProof.Rows
set_option maxRecDepth 100000 in
set_option maxHeartbeats 0 in
theorem PySem.Challenge.cw_slidecut_k22_whole_cuts_keep_marks_holds : PySem.Challenge.rw_slidecut_k22_whole_cuts_keep_marks.Holds := by
 refine holds_law Cut.said fun said => holds_open (XP := XL PySem.Challenge.pw_slidecut_k22_whole_cuts_keep_marks []) (YP := L3.saysH Cut.tabs) Cut.left (L3.ofH Cut.tabs) (L3.keepsH Cut.tabs) (fun s e => xl_of s (Bool.and_eq_true_iff.mp e).1) XL.keeps (by rfl) (by rfl) (by rfl) (fun s e => recFacts_of (Bool.and_eq_true_iff.mp e).2) (by rfl) said (by decide +kernel) ⟨rfl, rfl, rfl, rfl, rfl, by decide +kernel⟩ ?hw ?hc
 case hw => w_witness2
 case hc => exact L3.walkH (k := 8) rfl rfl ⟨rfl, by decide, by decide⟩ fun w K mg fa h Y X G hmg => Cut.all_mk Y X G hmg
#print axioms PySem.Challenge.cw_slidecut_k22_whole_cuts_keep_marks_holds