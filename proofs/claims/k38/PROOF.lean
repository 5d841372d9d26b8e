import PyProof.Rows.All
import Wide.All
import OpenK.AllK
import Wide.FinOn
import Lean
import PyProof.EqAt
import PyProof.EqKinds
import PyProof.TupleCall
import PyProof.Rows.SortWalk
import PyProof.DictRoadsH
import PyProof.DictKinds
import PyProof.DictIter
import PyProof.DictWalks
import PyProof.NeKinds
import PyProof.ExcBaseAll.ValueError
import PyProof.ZipIter
import PyProof.ListCopy
import PyProof.CollectWalk
import KE.KIntText
import KE.KxPart
import PyProof.SliceStr2
import PyProof.Rows.StrFirst
import PyProof.StrLawsFirst
import KE.KxText
import PyProof.StrLawsIn
import PyProof.StrBlockI
import PyProof.Rows.StrNews
import PyProof.EnumMake
import PyProof.EnumFor
import PyProof.EnumStmt
import PyProof.Rows.SetFrom
import PyProof.MinMaxWalk
import PyProof.WalkInts
import PyProof.FactsAll.tuple_1
import PyProof.FactsAll.tuple_2
import PySem.Challenge.RW_slidecut_k38_corner_pieces_split
set_option Elab.async false
set_option linter.all false
namespace L3
open PySem PySem.W
def nsH (h:Heap) (name:Str):Option (Option Value):=match h.get? mainGlobals with
 | some ⟨_,_,.dict es _,_⟩=>(match es.toList.find? (·.key.isStr name) with
   | some e=>some (some e.val)
   | none=>if es.toList.any (·.refKey) then none else some none)
 | _=>none
def cdH (h:Heap) (cd:Value) (q:Str):Bool:=match cd with
 | .ref c=>(match h.get? c with
   | some ⟨_,_,.fields vs,_⟩=>(match vs.toList with | _ :: .str n _ :: _=>n == q | _=>false)
   | _=>false)
 | _=>false
def seeF (h:Heap) (x:Str):Option (Str×Str×Arguments×FuncBody×Scope×Addr×List (Str×Addr)×Value×Addr×Bool):=match nsH h x with
 | some (some (.ref f))=>(match h.get? f with
  | some ⟨_,_,.func fd,_⟩=>some (fd.name,fd.qualname,fd.params,fd.body,fd.scope,fd.globals,fd.closure,fd.defaults,fd.builtins,cdH h fd.code x)
  | _=>none)
 | _=>none
def dueF (x:Str) (st:Stmt):Option (Str×Str×Arguments×FuncBody×Scope×Addr×List (Str×Addr)×Value×Addr×Bool):=match st with
 | .FunctionDef _ a b _ _ _ sc _ _ _=>some (x,x,a,.stmts b,sc,mainGlobals,[],.none,builtinsNs,true)
 | _=>some (x,x,⟨[],[],none,[],[],none,[]⟩,.stmts [],{ kind:=.function,names:=[],isGenerator:=false,isCoroutine:=false },mainGlobals,[],.none,builtinsNs,true)
def seeT (h:Heap) (x:Str):Option (Str×Int×Int):=match nsH h x with
 | some (some (.ref p))=>(match h.get? p with
  | some ⟨.type "tuple", _,.seq its _,_⟩=>(match its.toList with | [.int i _,.int j _]=>some (x,i,j) | _=>none)
  | _=>none)
 | _=>none
def seeC (h:Heap) (x:Str):Option (Str×(Int ⊕ Str)):=match nsH h x with
 | some (some (.int i _))=>some (x,.inl i)
 | some (some (.str s _))=>some (x,.inr s)
 | _=>none
abbrev nF (x:Str) (s:Stmt):Str×Stmt:=(x,s)
abbrev nT (x:Str) (i j:Int):Str×Int×Int:=(x,i,j)
abbrev nC (x:Str) (c:Int ⊕ Str):Str×(Int ⊕ Str):=(x,c)
structure Tabs where
 fs:List (Str×Stmt)
 bs:List Str
 ts:List (Str×Int×Int)
 cs:List (Str×(Int ⊕ Str))
abbrev Seen:Type:=List (Option (Str×Str×Arguments×FuncBody×Scope×Addr×List (Str×Addr)×Value×Addr×Bool))×List (Option (Option Value))×List (Option (Str×Int×Int))×List (Option (Str×(Int ⊕ Str)))
def obsH (t:Tabs) (s:Shared):Seen:=(t.fs.map fun p=>seeF s.heap p.1,t.bs.map fun b=>nsH s.heap b,t.ts.map fun p=>seeT s.heap p.1,t.cs.map fun p=>seeC s.heap p.1)
def valH (t:Tabs) (_:World):Seen:=(t.fs.map fun p=>dueF p.1 p.2,t.bs.map fun _=>some none,t.ts.map fun p=>some p,t.cs.map fun p=>some p)
theorem map_two {α β γ:Type} {E:Option α} {F:α→β×γ} {a:β×γ} (h1:E.map (fun s=>(F s).1)=some a.1) (h2:E.map (fun s=>(F s).2)=some a.2):E.map F=some a:=by
 cases E with
 | none=>cases h1
 | some x =>
  have e1:=Option.some.inj h1
  have e2:=Option.some.inj h2
  exact congrArg some (Prod.ext e1 e2)
theorem left_of {p q:Program} {loose:List Str} {Xt:Shared→Bool} {α:Type} {Yf:Shared→α} {Ya:World→α} {N:Nat} (h1:∀ w:World,(openEnds treeTable p w N).map (fun s=>(openSeen q loose (importedModules p.main.body) Xt true s).1)=some (openGood q loose).1)
  (h2:∀ w:World,(openEnds treeTable p w N).map (fun s=>(openSeen q loose (importedModules p.main.body) Xt true s).2)=some (openGood q loose).2) (h3:∀ w:World,(openEnds treeTable p w N).map Yf=some (Ya w)):LeftO p q loose Xt Yf Ya N :=
 fun w=>map_two (F:=fun s=>(openSeen q loose (importedModules p.main.body) Xt true s,Yf s)) (a:=(openGood q loose,Ya w)) (map_two (h1 w) (h2 w)) (h3 w)
end L3
namespace Cut
open PySem L3
def top (i:Nat):Stmt:=PySem.Challenge.pw_slidecut_k38_corner_pieces_split.main.body.getD i (.Pass ⟨0,0,0,0⟩)
abbrev s_greatest_divisor:Stmt:=top 5
abbrev s_plus:Stmt:=top 6
abbrev s_minus:Stmt:=top 7
abbrev s_times:Stmt:=top 8
abbrev s_against:Stmt:=top 9
abbrev s_unsigned:Stmt:=top 10
abbrev s_point:Stmt:=top 12
abbrev s_at:Stmt:=top 13
abbrev s_slid:Stmt:=top 14
abbrev s_crossed:Stmt:=top 15
abbrev s_hand_of:Stmt:=top 16
abbrev s_meet:Stmt:=top 17
abbrev s_cut_ring:Stmt:=top 19
abbrev s_cut_sheet:Stmt:=top 20
abbrev s_cut_upright:Stmt:=top 21
abbrev s_cut_level:Stmt:=top 22
abbrev s_moved:Stmt:=top 23
abbrev s_split:Stmt:=top 25
abbrev s_law_cell:Stmt:=top 27
abbrev s_law_bag:Stmt:=top 28
abbrev s_law_draw:Stmt:=top 29
abbrev s_law_measure:Stmt:=top 30
abbrev s_law_low:Stmt:=top 31
abbrev s_law_spot:Stmt:=top 32
abbrev s_law_whole:Stmt:=top 33
abbrev s_law_line:Stmt:=top 34
abbrev s_law_count:Stmt:=top 35
abbrev s_law_part:Stmt:=top 36
abbrev s_law_left:Stmt:=top 37
abbrev s_law_is_spot:Stmt:=top 38
abbrev s_law_is_bulging:Stmt:=top 39
abbrev s_law_between:Stmt:=top 40
abbrev s_law_cut:Stmt:=top 41
abbrev s_law_sheet:Stmt:=top 42
abbrev s_law_first:Stmt:=top 43
abbrev s_law_kept:Stmt:=top 44
abbrev s_law_lies:Stmt:=top 45
abbrev s_law_copied:Stmt:=top 46
abbrev s_law_product:Stmt:=top 47
abbrev s_law_less:Stmt:=top 48
abbrev s_law_pin:Stmt:=top 49
abbrev s_law_box:Stmt:=top 50
abbrev s_law_is_box:Stmt:=top 51
abbrev s_law_is_low:Stmt:=top 52
abbrev s_law_size:Stmt:=top 53
abbrev s_law_high:Stmt:=top 54
abbrev s_law_corner:Stmt:=top 55
abbrev s_law_slope:Stmt:=top 56
abbrev s_law_right:Stmt:=top 57
abbrev s_law:Stmt:=top 58
def tabs:Tabs:=⟨[nF "greatest_divisor" s_greatest_divisor,nF "plus" s_plus,nF "minus" s_minus,nF "times" s_times,nF "against" s_against,nF "unsigned" s_unsigned,nF "point" s_point,nF "at" s_at,nF "slid" s_slid,nF "crossed" s_crossed,nF "hand_of" s_hand_of,nF "meet" s_meet,nF "cut_ring" s_cut_ring,nF "cut_sheet" s_cut_sheet,nF "cut_upright" s_cut_upright,nF "cut_level" s_cut_level,nF "moved" s_moved,nF "split" s_split,nF "_law_cell" s_law_cell,nF "_law_bag" s_law_bag,nF "_law_draw" s_law_draw,nF "_law_measure" s_law_measure,nF "_law_low" s_law_low,nF "_law_spot" s_law_spot,nF "_law_whole" s_law_whole,nF "_law_line" s_law_line,nF "_law_count" s_law_count,nF "_law_part" s_law_part,nF "_law_left" s_law_left,nF "_law_is_spot" s_law_is_spot,nF "_law_is_bulging" s_law_is_bulging,nF "_law_between" s_law_between,nF "_law_cut" s_law_cut,nF "_law_sheet" s_law_sheet,nF "_law_first" s_law_first,nF "_law_kept" s_law_kept,nF "_law_lies" s_law_lies,nF "_law_copied" s_law_copied,nF "_law_product" s_law_product,nF "_law_less" s_law_less,nF "_law_pin" s_law_pin,nF "_law_box" s_law_box,nF "_law_is_box" s_law_is_box,nF "_law_is_low" s_law_is_low,nF "_law_size" s_law_size,nF "_law_high" s_law_high,nF "_law_corner" s_law_corner,nF "_law_slope" s_law_slope,nF "_law_right" s_law_right,nF "law" s_law],["len", "abs", "int", "bool", "tuple", "isinstance", "range", "all", "sum", "list", "ValueError", "zip", "str", "enumerate", "set", "max", "min", "sorted"],[nT "NOTHING" 0 1],[]⟩
open PySem.W in
set_option maxRecDepth 100000 in
set_option maxHeartbeats 0 in
theorem said:(PySem.Challenge.rw_slidecut_k38_corner_pieces_split).wellSaid=true:=by kernel_rfl
open PySem.W in
set_option maxRecDepth 100000 in
set_option maxHeartbeats 0 in
theorem left1:∀ w:World,(openEnds treeTable (PySem.Challenge.rw_slidecut_k38_corner_pieces_split).row.prog w 20000).map (fun s=>(openSeen PySem.Challenge.pw_slidecut_k38_corner_pieces_split [] (importedModules (PySem.Challenge.rw_slidecut_k38_corner_pieces_split).row.prog.main.body) (fun s=>xlAt PySem.Challenge.pw_slidecut_k38_corner_pieces_split [] s && recOk (RowW.records (OpenRow.toRowW (PySem.Challenge.rw_slidecut_k38_corner_pieces_split).row)) s) true s).1)=some (openGood PySem.Challenge.pw_slidecut_k38_corner_pieces_split []).1:=fun w=>by kernel_rfl
open PySem.W in
set_option maxRecDepth 100000 in
set_option maxHeartbeats 0 in
theorem left2:∀ w:World,(openEnds treeTable (PySem.Challenge.rw_slidecut_k38_corner_pieces_split).row.prog w 20000).map (fun s=>(openSeen PySem.Challenge.pw_slidecut_k38_corner_pieces_split [] (importedModules (PySem.Challenge.rw_slidecut_k38_corner_pieces_split).row.prog.main.body) (fun s=>xlAt PySem.Challenge.pw_slidecut_k38_corner_pieces_split [] s && recOk (RowW.records (OpenRow.toRowW (PySem.Challenge.rw_slidecut_k38_corner_pieces_split).row)) s) true s).2)=some (openGood PySem.Challenge.pw_slidecut_k38_corner_pieces_split []).2:=fun w=>by kernel_rfl
open PySem.W in
set_option maxRecDepth 100000 in
set_option maxHeartbeats 0 in
theorem left3:∀ w:World,(openEnds treeTable (PySem.Challenge.rw_slidecut_k38_corner_pieces_split).row.prog w 20000).map (obsH tabs)=some (valH tabs w):=fun w=>by kernel_rfl
open PySem.W in
set_option maxRecDepth 100000 in
set_option maxHeartbeats 0 in
theorem left:LeftO (PySem.Challenge.rw_slidecut_k38_corner_pieces_split).row.prog PySem.Challenge.pw_slidecut_k38_corner_pieces_split [] (fun s=>xlAt PySem.Challenge.pw_slidecut_k38_corner_pieces_split [] s && recOk (RowW.records (OpenRow.toRowW (PySem.Challenge.rw_slidecut_k38_corner_pieces_split).row)) s) (obsH tabs) (valH tabs) 20000:=left_of (p:=(PySem.Challenge.rw_slidecut_k38_corner_pieces_split).row.prog) (q:=PySem.Challenge.pw_slidecut_k38_corner_pieces_split) (loose:=[]) (Xt:=(fun s=>xlAt PySem.Challenge.pw_slidecut_k38_corner_pieces_split [] s && recOk (RowW.records (OpenRow.toRowW (PySem.Challenge.rw_slidecut_k38_corner_pieces_split).row)) s)) (Yf:=obsH tabs) (Ya:=valH tabs) (N:=20000) left1 left2 left3
end Cut
set_option Elab.async false
set_option linter.all false
set_option maxRecDepth 100000
namespace L2
open PySem PySem.Spec PyProof.Rows
abbrev Key:=Sum Int Str
def keyIs:Key→Value→Bool
 | .inl k,v=>Value.isInt k v
 | .inr x,v=>Value.isStrOf x v
def keyH (w:World):Key→Int
 | .inl k=>hashInt k
 | .inr x=>hashStr w x
theorem keyIs_shape:∀ {k:Key} {v:Value},keyIs k v=true→(∃ i t,k=Sum.inl i∧v=Value.int i t)∨(∃ x t,k=Sum.inr x∧v=Value.str x t)
 | .inl i,v,h=>by
  obtain ⟨t,e⟩:=Value.isInt_shape (k:=i) (v:=v) h
  exact .inl ⟨i,t,rfl,e⟩
 | .inr x,v,h=>by
  obtain ⟨t,e⟩:=Value.isStrOf_shape (x:=x) (v:=v) h
  exact .inr ⟨x,t,rfl,e⟩
theorem key_ll (a b:Int):decide ((Sum.inl a:Key)=Sum.inl b)=(a == b):=by
 by_cases e:a=b
 ·subst e; simp
 ·have h:¬ (Sum.inl a:Key)=Sum.inl b:=fun q=>e (Sum.inl.inj q)
  rw [decide_eq_false h]
  exact (beq_eq_false_iff_ne.mpr e).symm
theorem key_rr (a b:Str):decide ((Sum.inr a:Key)=Sum.inr b)=decide (a=b):=by
 by_cases e:a=b
 ·subst e; simp
 ·have h:¬ (Sum.inr a:Key)=Sum.inr b:=fun q=>e (Sum.inr.inj q)
  rw [decide_eq_false h,decide_eq_false e]
theorem key_lr (a:Int) (b:Str):decide ((Sum.inl a:Key)=Sum.inr b)=false:=decide_eq_false (fun q=>nomatch q)
theorem key_rl (a:Str) (b:Int):decide ((Sum.inr a:Key)=Sum.inl b)=false:=decide_eq_false (fun q=>nomatch q)
def mixKind (prog:Program) (w:World):PySem.KeyKind prog w Key where
 is:=keyIs
 hash:=keyH w
 inj:=fun v a b ha hb=>by
  rcases keyIs_shape ha with ⟨i,t,rfl,rfl⟩ | ⟨x,t,rfl,rfl⟩
  ·rcases keyIs_shape hb with ⟨j,u,rfl,e⟩ | ⟨y,u,rfl,e⟩
   ·injection e with e1 _; rw [e1]
   ·exact nomatch e
  ·rcases keyIs_shape hb with ⟨j,u,rfl,e⟩ | ⟨y,u,rfl,e⟩
   ·exact nomatch e
   ·injection e with e1 _; rw [e1]
 byValue:=fun k v h=>by
  rcases keyIs_shape h with ⟨i,t,rfl,rfl⟩ | ⟨x,t,rfl,rfl⟩ <;> rfl
 pyHash:=fun hv h=>by
  rcases keyIs_shape hv with ⟨i,t,rfl,rfl⟩ | ⟨x,t,rfl,rfl⟩
  ·exact wpAny_pyHash_int h
  ·exact wpAny_pyHash_str h
 eqBool:=fun hu hv h=>by
  rcases keyIs_shape hu with ⟨i,t,rfl,rfl⟩ | ⟨x,t,rfl,rfl⟩
  ·rcases keyIs_shape hv with ⟨j,u,rfl,rfl⟩ | ⟨y,u,rfl,rfl⟩
   ·rw [key_ll] at h; exact wpAny_eqBool_int h
   ·rw [key_lr] at h; exact SeqAt.EqAt.int_str i t y u _ _ _ _ h
  ·rcases keyIs_shape hv with ⟨j,u,rfl,rfl⟩ | ⟨y,u,rfl,rfl⟩
   ·rw [key_rl] at h; exact SeqAt.EqAt.str_int x t j u _ _ _ _ h
   ·rw [key_rr] at h; exact wpAny_eqBool_str h
 «strs» := fun k x t v h=>by
  rcases keyIs_shape h with ⟨i,u,rfl,e⟩ | ⟨y,u,rfl,e⟩
  ·exact nomatch e
  ·injection e with e1 _
   subst e1
   cases v <;> rfl
end L2
namespace L2
open PySem PySem.Spec PyProof.Rows
inductive V where
 | non | bl (b:Bool) | int (i:Int) | str (x:Str) | byt (b:Array UInt8) | flt (b:UInt64) | ref (a:Addr) | ty (n:String)
 deriving DecidableEq
def RelV:V→Value→Prop
 | .non,u=>u=Value.none
 | .bl b,u=>u=Value.bool b
 | .int i,u=>∃ t,u=Value.int i t
 | .str x,u=>∃ t,u=Value.str x t
 | .byt b,u=>∃ t,u=Value.bytes b t
 | .flt b,u=>∃ t,u=Value.float b t
 | .ref a,u=>u=Value.ref a
 | .ty n,u=>u=Value.type n
abbrev Vals:List V→List Value→Prop:=Paired RelV
theorem Vals.length {xs:List V} {us:List Value} (r:Vals xs us):xs.length=us.length:=Paired.length r
theorem Vals.get:∀ {xs:List V} {us:List Value} {i:Nat} {x:V},Vals xs us→xs[i]?=some x→∃ u,us[i]?=some u∧RelV x u
 | _,_,_,_,.nil,e=>by simp at e
 | _,_,0,_,.cons r _,e=>by simp at e; subst e; exact ⟨_,rfl,r⟩
 | _,_,i + 1,x,.cons _ t,e=>by
  obtain ⟨u,h1,h2⟩:=Vals.get (i:=i) (x:=x) t (by simpa using e)
  exact ⟨u,by simpa using h1,h2⟩
theorem Vals.set {x:V} {u:Value} (r:RelV x u):∀ {xs:List V} {us:List Value} (i:Nat),Vals xs us→Vals (xs.set i x) (us.set i u)
 | _,_,_,.nil=>.nil
 | _,_,0,.cons _ t=>.cons r t
 | _,_,i + 1,.cons q t=>.cons q (Vals.set r i t)
theorem Vals.append:∀ {xs ys:List V} {us ws:List Value},Vals xs us→Vals ys ws→Vals (xs ++ ys) (us ++ ws)
 | _,_,_,_,.nil,s=>s
 | _,_,_,_,.cons r t,s=>.cons r (Vals.append t s)
theorem Vals.take:∀ {xs:List V} {us:List Value} (n:Nat),Vals xs us→Vals (xs.take n) (us.take n)
 | _,_,0,_=>.nil
 | _,_,_ + 1,.nil=>.nil
 | _,_,n + 1,.cons r t=>.cons r (Vals.take n t)
theorem Vals.drop:∀ {xs:List V} {us:List Value} (n:Nat),Vals xs us→Vals (xs.drop n) (us.drop n)
 | _,_,0,r=>r
 | _,_,_ + 1,.nil=>.nil
 | _,_,n + 1,.cons _ t=>Vals.drop n t
def RelO:Option V→Option Value→Prop
 | some v,some u=>RelV v u
 | none,none=>True
 | _,_=>False
def KV {κ:Type}:List (κ×V)→List (κ×Value)→Prop:=Paired fun (p:κ×V) (q:κ×Value)=>p.1=q.1∧RelV p.2 q.2
def kV:Key→V
 | .inl i=>.int i
 | .inr x=>.str x
inductive HO where
 | lst (xs:List V)
 | tup (xs:List V)
 | dK (kvs:List (Key×V)) | dT (kvs:List (List Key×V))
 | set (S:Int→Bool) (n:Nat)
 | ins (C dx:Addr) (fs:List (Str×V))
 | own (x:Addr)
 | xd (fs:List (Str×V))
 | met (f x:Addr)
 | rng (lo hi:Int)
 | frz (o:Obj) (u:HO)
 | tbl (ps:Array Value)
 | ext (φ:Heap→Prop)
abbrev Hp:=Addr→Option HO
def upd (H:Hp) (a:Addr) (o:HO):Hp:=fun b=>if b=a then some o else H b
theorem upd_same {H:Hp} {a:Addr} {o:HO}:upd H a o a=some o:=by unfold upd; rw [if_pos rfl]
theorem upd_ne {H:Hp} {a b:Addr} {o:HO} (h:b≠a):upd H a o b=H b:=by unfold upd; rw [if_neg h]
theorem ne_of_none {H:Hp} {a b:Addr} {o:HO} (h:H a=some o) (h':H b=none):a≠b:=by
 intro e; subst e; rw [h] at h'; cases h'
section
variable (P:Program) (w:World)
def ObjOk (H:Hp) (h:Heap) (a:Addr):HO→Prop
 | .lst xs=>xs.length≤sizeLine∧∃ (its:List Value) (n:Nat),Vals xs its∧h.get? a=some { cls:=.type "list", data:=.seq its.toArray n }
 | .tup xs=>xs.length≤sizeLine∧∃ its:List Value,Vals xs its∧IsTup h a its.toArray
 | .dK kvs=>kvs.length≤sizeLine∧(a == sysModules)=false∧∃ vs,KV kvs vs∧h.DictOf (mixKind P w) a vs
 | .dT kvs=>kvs.length≤sizeLine∧(a == sysModules)=false∧∃ xs:List (List Key×Addr×Value),
   Paired (fun (p:List Key×V) (q:List Key×Addr×Value)=>p.1=q.1∧H q.2.1=some (.tup (p.1.map kV))∧RelV p.2 q.2.2) kvs xs ∧
   ∃ o es ep,h.get? a=some o∧o.ExactDict∧o.data=.dict es ep∧es.toList=xs.map (entryOfKey (tupleKind (mixKind P w)))∧(xs.map (·.1)).Nodup
 | .set S n=>h.SetOf (intKind P w) a S n
 | .ins C dx fs=>H dx=some (.own a)∧fs.length≤1000∧dx≠a∧h.get? a=some (PySem.W.instObj C dx) ∧
   ∃ mA,h.Ns1 dx mA∧(∀ f,RelO (fs.lookup f) (mA f))∧PySem.Within mA (fs.map (·.1))
 | .own _=>∃ o,h.get? a=some o
 | .xd fs=>∃ mA,h.Ns1 a mA∧∀ f,RelO (fs.lookup f) (mA f)
 | .rng lo hi=>∃ t u v,h.get? a=some { cls:=.type "range", data:=.fields #[.int lo t,.int hi u,.int 1 v] }
 | .frz o u=>h.get? a=some o∧ObjOk H h a u
 | .tbl ps=>h.get? a=some { cls:=.none,data:=.fields ps }
 | .met f x=>h.get? a=some (PySem.W.methodObj (.ref f) (.ref x))
 | .ext φ=>φ h∧(∃ o,h.get? a=some o)∧∀ h1 h2:Heap,φ h1→(∀ o,h1.get? a=some o→h2.get? a=some o)→φ h2
def HOk (H:Hp) (h:Heap):Prop:=∀ a o,H a=some o→ObjOk P w H h a o
end
section
variable {P:Program} {w:World} {H H':Hp} {h h':Heap} {a:Addr} {o:HO}
theorem ObjOk.lt (x:ObjOk P w H h a o):a < h.objs.size:=by
 cases o with
 | lst xs=>obtain ⟨_,_,_,_,e⟩:=x; exact Heap.lt_size e
 | tup xs=>obtain ⟨_,_,_,p⟩:=x; exact p.lt
 | dK kvs=>obtain ⟨_,_,_,_,o,_,_,e,_⟩:=x; exact Heap.lt_size e
 | dT kvs=>obtain ⟨_,_,_,_,o,_,_,e,_⟩:=x; exact Heap.lt_size e
 | set S n=>obtain ⟨o,_,_,_,e,_⟩:=x; exact Heap.lt_size e
 | ins C dx fs=>obtain ⟨_,_,_,e,_⟩:=x; exact Heap.lt_size e
 | own y=>obtain ⟨_,e⟩:=x; exact Heap.lt_size e
 | xd fs=>obtain ⟨_,⟨_,_,_,e,_⟩,_⟩:=x; exact Heap.lt_size e
 | rng lo hi=>obtain ⟨_,_,_,e⟩:=x; exact Heap.lt_size e
 | frz ob u=>obtain ⟨e,_⟩:=x; exact Heap.lt_size e
 | tbl ps=>exact Heap.lt_size (show h.get? a=some _ from x)
 | met f y=>exact Heap.lt_size (show h.get? a=some _ from x)
 | ext φ=>obtain ⟨_,⟨_,e⟩,_⟩:=x; exact Heap.lt_size e
theorem Paired.mapP {α β:Type} {F G:α→β→Prop}:∀ {l₁:List α} {l₂:List β},Paired F l₁ l₂→(∀ a b,F a b→G a b)→Paired G l₁ l₂
 | _,_,.nil,_=>.nil
 | _,_,.cons r t,f=>.cons (f _ _ r) (Paired.mapP t f)
theorem ObjOk.stay (x:ObjOk P w H h a o) (k:∀ b u,(b=a∨H b=some (.own a))→h.get? b=some u→h'.get? b=some u)
  (ho:∀ b,H b=some (.own a)→H' b=some (.own a)) (ht:∀ b xs,H b=some (.tup xs)→H' b=some (.tup xs)):ObjOk P w H' h' a o:=by
 induction o with
 | lst xs=>obtain ⟨z,its,n,r,e⟩:=x; exact ⟨z,its,n,r,k _ _ (.inl rfl) e⟩
 | tup xs=>obtain ⟨z,its,r,ob,e,c⟩:=x; exact ⟨z,its,r,ob,k _ _ (.inl rfl) e,c⟩
 | dK kvs=>obtain ⟨z,y,vs,r,ob,es,ep,e,c⟩:=x; exact ⟨z,y,vs,r,ob,es,ep,k _ _ (.inl rfl) e,c⟩
 | dT kvs =>
  obtain ⟨z,y,xs,r,ob,es,ep,e,c⟩:=x
  exact ⟨z,y,xs,Paired.mapP r fun p q z=>⟨z.1,ht _ _ z.2.1,z.2.2⟩,ob,es,ep,k _ _ (.inl rfl) e,c⟩
 | set S n=>obtain ⟨ob,es,ep,t,e,c⟩:=x; exact ⟨ob,es,ep,t,k _ _ (.inl rfl) e,c⟩
 | ins C dx fs =>
  obtain ⟨d,z,ne,e,mA,⟨od,es,ep,e2,c⟩,r⟩:=x
  exact ⟨ho _ d,z,ne,k _ _ (.inl rfl) e,mA,⟨od,es,ep,k _ _ (.inr d) e2,c⟩,r⟩
 | own y=>obtain ⟨ob,e⟩:=x; exact ⟨ob,k _ _ (.inl rfl) e⟩
 | xd fs=>obtain ⟨mA,⟨od,es,ep,e,c⟩,r⟩:=x; exact ⟨mA,⟨od,es,ep,k _ _ (.inl rfl) e,c⟩,r⟩
 | rng lo hi=>obtain ⟨t,u,v,e⟩:=x; exact ⟨t,u,v,k _ _ (.inl rfl) e⟩
 | frz ob u ih=>obtain ⟨e,q⟩:=x; exact ⟨k _ _ (.inl rfl) e,ih q⟩
 | tbl ps =>
  have e:h.get? a=some { cls:=.none,data:=.fields ps }:=x
  show h'.get? a=some { cls:=.none,data:=.fields ps }
  exact k a _ (.inl rfl) e
 | met f y =>
  have e:h.get? a=some (PySem.W.methodObj (.ref f) (.ref y)):=x
  show h'.get? a=some (PySem.W.methodObj (.ref f) (.ref y))
  exact k a _ (.inl rfl) e
 | ext φ=>obtain ⟨p,⟨o,e⟩,st⟩:=x; exact ⟨st _ _ p fun o q=>k _ _ (.inl rfl) q,⟨o,k _ _ (.inl rfl) e⟩,st⟩
theorem HOk.lt (x:HOk P w H h) (e:H a=some o):a < h.objs.size:=(x a o e).lt
theorem HOk.fresh (x:HOk P w H h) (e:h.objs.size≤a):H a=none:=by
 cases q:H a with
 | none=>rfl
 | some u=>exact absurd (Nat.lt_of_lt_of_le (x.lt q) e) (Nat.lt_irrefl _)
theorem HOk.kept (x:HOk P w H h) (k:∀ b u,h.get? b=some u→h'.get? b=some u):HOk P w H h':=fun a o e =>
 (x a o e).stay (fun b u _ q=>k b u q) (fun _ q=>q) fun _ _ q=>q
theorem HOk.laid (x:HOk P w H h) (k:∀ b u,h.get? b=some u→h'.get? b=some u) (hp:h.objs.size≤a) (new:ObjOk P w (upd H a o) h' a o):HOk P w (upd H a o) h':=fun b u e=>by
 have hn:=x.fresh hp
 by_cases hb:b=a
 ·subst hb; rw [upd_same] at e; cases e; exact new
 ·rw [upd_ne hb] at e
  exact (x b u e).stay (fun c v _ q=>k c v q) (fun c q=>by rw [upd_ne (ne_of_none q hn)]; exact q) fun c xs q=>by rw [upd_ne (ne_of_none q hn)]; exact q
end
def Rd (H:Hp) (a:Addr) (u:HO):Prop:=H a=some u∨∃ o,H a=some (.frz o u)
theorem Rd.ok {P:Program} {w:World} {H:Hp} {h:Heap} {a:Addr} {u:HO} (r:Rd H a u) (x:HOk P w H h):ObjOk P w H h a u:=by
 rcases r with r | ⟨o,r⟩
 ·exact x a u r
 ·obtain ⟨_,q⟩:=x a _ r
  exact q
def Mut:Option HO→Prop
 | some (.lst _)=>True
 | some (.dK _)=>True
 | some (.dT _)=>True
 | some (.set _ _)=>True
 | some (.ins _ _ _)=>True
 | some (.ext _)=>True
 | _=>False
section
variable {P:Program} {w:World} {H:Hp} {h h':Heap} {x e:Addr} {o':HO}
theorem HOk.write (ok:HOk P w H h) (mu:Mut (H x)) (he:e=x∨H e=some (.own x)) (k:∀ b u,b≠e→h.get? b=some u→h'.get? b=some u) (heo:∃ u,h'.get? e=some u)
  (new:ObjOk P w (upd H x o') h' x o'):HOk P w (upd H x o') h':=fun b u q=>by
 have nown:∀ c y,H c=some (.own y)→c≠x:=fun c y r z=>by subst z; rw [r] at mu; exact mu
 have ntup:∀ c xs,H c=some (.tup xs)→c≠x:=fun c xs r z=>by subst z; rw [r] at mu; exact mu
 by_cases hb:b=x
 ·subst hb; rw [upd_same] at q; cases q; exact new
 ·rw [upd_ne hb] at q
  by_cases hbe:b=e
  ·have q':H b=some (.own x):=by
    rcases he with z | z
    ·exact absurd (hbe.trans z) hb
    ·rw [hbe]; exact z
   rw [q] at q'; cases q'
   obtain ⟨v,hv⟩:=heo
   exact ⟨v,by rw [hbe]; exact hv⟩
  ·refine (ok b u q).stay (fun c v hc r=>k c v ?_ r) (fun c r=>by rw [upd_ne (nown c b r)]; exact r) fun c xs r=>by rw [upd_ne (ntup c xs r)]; exact r
   rcases hc with rfl | hc
   ·exact hbe
   ·rintro rfl
    rcases he with z | z
    ·exact nown c b hc z
    ·rw [hc] at z; cases z; exact hb rfl
end
structure Un (fs ex:List Addr) (H H':Hp) (h h':Heap):Prop where
 keep:∀ b o,h.get? b=some o→H b=none→b ∉ fs→b ∉ ex→h'.get? b=some o
 slot:∀ b o,h.get? b=some o→H b=none→b∈fs→b ∉ ex→∃ sl,h'.get? b=some { o with slots:=sl }
 free:∀ b o,h.get? b=some o→H b=none→b ∉ ex→H' b=none
 there:∀ b o,h.get? b=some o→b ∉ ex→∃ o',h'.get? b=some o'
 tups:∀ b xs,H b=some (.tup xs)→H' b=some (.tup xs)
 frzs:∀ b o u,H b=some (.frz o u)→H' b=some (.frz o u)
 tbls:∀ b ps,H b=some (.tbl ps)→∃ more,H' b=some (.tbl (ps ++ more))
section
variable {fs fs' ex ex':List Addr} {H H1 H2:Hp} {h h1 h2 h':Heap} {a x e:Addr} {o:HO}
theorem Un.any (u:Un fs ex H H1 h h1) {b:Addr} {ob:Obj} (q:h.get? b=some ob) (n:H b=none) (hx:b ∉ ex):∃ sl,h1.get? b=some { ob with slots:=sl }:=by
 by_cases hb:b∈fs
 ·exact u.slot b ob q n hb hx
 ·exact ⟨ob.slots,u.keep b ob q n hb hx⟩
theorem Un.kept (k:∀ b u,h.get? b=some u→h'.get? b=some u):Un fs ex H H h h' :=
 ⟨fun b ob q _ _ _=>k b ob q,fun b ob q _ _ _=>⟨ob.slots,k b ob q⟩,fun _ _ _ n _=>n,fun b ob q _=>⟨ob,k b ob q⟩,fun _ _ q=>q,fun _ _ _ q=>q,fun _ ps q=>⟨#[],by rw [q]; simp⟩⟩
theorem Un.refl:Un fs ex H H h h:=Un.kept fun _ _ q=>q
theorem Un.laid (k:∀ b u,h.get? b=some u→h'.get? b=some u) (hp:h.objs.size≤a) (hn:H a=none):Un fs ex H (upd H a o) h h' where
 keep:=fun b u q _ _ _=>k b u q
 slot:=fun b u q _ _ _=>⟨u.slots,k b u q⟩
 free:=fun b u q n _=>by rw [upd_ne (Nat.ne_of_lt (Nat.lt_of_lt_of_le (Heap.lt_size q) hp))]; exact n
 there:=fun b u q _=>⟨u,k b u q⟩
 tups:=fun b xs q=>by rw [upd_ne (ne_of_none q hn)]; exact q
 frzs:=fun b u xs q=>by rw [upd_ne (ne_of_none q hn)]; exact q
 tbls:=fun b ps q=>⟨#[],by rw [upd_ne (ne_of_none q hn),q]; simp⟩
theorem Un.write (mu:Mut (H x)) (he:e=x∨H e=some (.own x)) (k:∀ b u,b≠e→h.get? b=some u→h'.get? b=some u) (heo:∃ u,h'.get? e=some u):Un fs ex H (upd H x o) h h':=by
 have hx:∀ b,H b=none→b≠x:=fun b n z=>by subst z; rw [n] at mu; exact mu
 have hb:∀ b,H b=none→b≠e:=fun b n z=>by
  subst z
  rcases he with r | r
  ·exact hx b n r
  ·rw [n] at r; cases r
 have hm:∀ b u,H b=some u→¬ Mut (some u)→b≠x:=fun b u q nm z=>by subst z; rw [q] at mu; exact nm mu
 refine ⟨fun b u q n _ _=>k b u (hb b n) q,fun b u q n _ _=>⟨u.slots,k b u (hb b n) q⟩,fun b u q n _=>by rw [upd_ne (hx b n)]; exact n,fun b u q _=>?_,
  fun b xs q=>by rw [upd_ne (hm b _ q fun z=>z)]; exact q,fun b u xs q=>by rw [upd_ne (hm b _ q fun z=>z)]; exact q,fun b ps q=>⟨#[],by rw [upd_ne (hm b _ q fun z=>z),q]; simp⟩⟩
 by_cases hbe:b=e
 ·subst hbe; exact heo
 ·exact ⟨u,k b u hbe q⟩
end
def trk (h:Heap) (H:Hp):List Addr:=(List.range h.objs.size).filter fun a=>(H a).isSome
def hidT (h:Heap) (H:Hp):Heap:=PySem.W.hideAll h (trk h H)
theorem hidT_size (h:Heap) (H:Hp):(hidT h H).objs.size=h.objs.size:=PySem.W.hideAll_size _ _
theorem hidT_get {h:Heap} {H:Hp} {b:Addr} {o:Obj} (e:h.get? b=some o) (n:H b=none):(hidT h H).get? b=some o :=
 PySem.W.hideAll_get _ e fun hm=>by
  have q:(H b).isSome=true:=(List.mem_filter.mp hm).2
  rw [n] at q; simp at q
theorem of_hidT {h:Heap} {H:Hp} {b:Addr} {o:Obj} (e:(hidT h H).get? b=some o):h.get? b=some o∧H b=none:=by
 have e':h.get? b=some o:=PySem.W.of_hideAll (trk h H) e
 refine ⟨e',?_⟩
 cases q:H b with
 | none=>rfl
 | some x =>
  have hm:b∈trk h H:=List.mem_filter.mpr ⟨List.mem_range.mpr (Heap.lt_size e'),by simp [q]⟩
  have z:(hidT h H).get? b=none:=PySem.W.hideAll_none (trk h H) hm
  rw [z] at e; cases e
end L2
namespace L2
open PySem PySem.Spec PyProof.Rows
structure Mod (K:PySem.W.Frag) (mg:Str→Option Value) (base:Heap):Prop where
 kin:K.In base
 glob:base.Ns mainGlobals mg
 blt:∃ mb,base.Ns builtinsNs mb∧∀ x:Str,x ≠ "__name__" → mb x=bootBuiltins x
 nolimit:base.NoLimit
structure Cx where
 prog:Program
 w:World
 K:PySem.W.Frag
 mg:Str→Option Value
 base:Heap
 A:Around
 N:List Str
 s₀:Shared
 H₀:Hp
 env:Env
 outer:List Env
 stack:List Env
 ex:List Addr
 fn:Str→Bool
 calm:Bool
 pn:List (Addr×Obj)
 xe:Value→Shared→Prop
def frs (l:List Env):List Addr:=l.filterMap (·.frame)
abbrev Cx.fs (X:Cx):List Addr:=frs X.outer
def Vis (sc:Scope) (x:Str):Prop:=sc.names.lookup x=some .local∨sc.names.lookup x=some .cell∨sc.names.lookup x=some .free
def Loc (sc:Scope) (x:Str):Prop:=sc.names.lookup x=some .local∨sc.names.lookup x=some .cell
def Look (env:Env) (h:Heap) (m:Str→Option Value) (x:Str) (u:Value):Prop :=
 (env.kindOf x=some .local∧m x=some u)∨((env.kindOf x=some .cell∨env.kindOf x=some .free)∧∃ c,env.cells.lookup x=some c∧h.IsCell c (some u))
structure Cx.Ok (X:Cx):Prop where
 mod:Mod X.K X.mg X.base
 kind:X.env.scope.kind=.function
 glob:X.env.globals=mainGlobals
 blt:X.env.builtins=builtinsNs
 above:X.s₀.heap.objs.size≤X.env.locals
 inj:∀ x y c,X.env.cells.lookup x=some c→X.env.cells.lookup y=some c→x=y
 has:∀ x,(X.env.kindOf x=some .cell∨X.env.kindOf x=some .free)→∃ c,X.env.cells.lookup x=some c
 cab:∀ x c,X.fn x=true→X.env.cells.lookup x=some c→X.s₀.heap.objs.size≤c
 hd:X.calm=true→X.A.handled=none
 frames:X.A.frames=some X.stack
 stk:X.stack=X.outer∨(X.stack=X.env :: X.outer∧X.env.frame=some X.env.locals)
 exf:∀ b∈X.ex,b≠X.env.locals∧∀ x c,X.env.cells.lookup x=some c→c≠b
 bs:∀ b o,X.base.get? b=some o→X.s₀.heap.get? b=some o∧X.H₀ b=none
 bsz:X.base.objs.size≤X.s₀.heap.objs.size
 noex:∀ b o,X.base.get? b=some o→b ∉ X.ex
 exfs:∀ b∈X.ex,b ∉ X.fs
 funs:X.s₀.heap.FunFrames X.base X.outer
 frf:∀ b∈X.fs,X.H₀ b=none
structure Inv (X:Cx) (pins:List (Addr×Obj)) (σ:List (Option V)) (H:Hp) (s:Shared):Prop where
 ok:X.Ok
 os:s.os=X.s₀.os
 bare:AllBare s.gens
 base:Un X.fs X.ex X.H₀ H X.s₀.heap s.heap
 loc:∃ m,s.heap.Ns X.env.locals m∧∀ (i:Nat) (x:Str) (v:V),X.N[i]?=some x→σ[i]?=some (some v)→Vis X.env.scope x→∃ u,RelV v u∧Look X.env s.heap m x u
 cell:∀ x c,X.env.cells.lookup x=some c→∃ v,s.heap.IsCell c v
 free:H X.env.locals=none
 freeC:∀ x c,X.env.cells.lookup x=some c→H c=none
 pin:∀ p∈X.pn ++ pins,s.heap.get? p.1=some p.2∧H p.1=none∧p.1≠X.env.locals∧p.1 ∉ X.fs∧∀ v,p.2.data≠.cell v
 hok:HOk X.prog X.w H s.heap
 len:σ.length=X.N.length
section
variable {X:Cx} {pins:List (Addr×Obj)} {σ:List (Option V)} {H H':Hp} {s:Shared} {h':Heap}
theorem Cx.Ok.nofr (ok:X.Ok) {b:Addr} {o:Obj} (e:X.base.get? b=some o):b ∉ X.fs:=fun hb=>by
 have:=(ok.funs.mem hb).1
 rw [e] at this; cases this
theorem Inv.bs (I:Inv X pins σ H s):∀ b o,X.base.get? b=some o→s.heap.get? b=some o∧H b=none:=fun b o e =>
 ⟨I.base.keep b o (I.ok.bs b o e).1 (I.ok.bs b o e).2 (I.ok.nofr e) (I.ok.noex b o e),I.base.free b o (I.ok.bs b o e).1 (I.ok.bs b o e).2 (I.ok.noex b o e)⟩
theorem Inv.bk (I:Inv X pins σ H s):∀ b o,X.base.get? b=some o→s.heap.get? b=some o:=fun b o e=>(I.bs b o e).1
theorem Inv.mod (I:Inv X pins σ H s):Mod X.K X.mg X.base:=I.ok.mod
theorem Inv.kIn (I:Inv X pins σ H s):X.K.In s.heap:=I.ok.mod.kin.keeps I.bk
theorem Inv.lt (I:Inv X pins σ H s):X.env.locals < s.heap.objs.size:=let ⟨_,hn,_⟩:=I.loc; hn.lt
theorem Inv.sz (I:Inv X pins σ H s):X.s₀.heap.objs.size≤s.heap.objs.size:=Nat.le_trans I.ok.above (Nat.le_of_lt I.lt)
theorem Inv.nofs (I:Inv X pins σ H s) {a:Addr} (h:s.heap.objs.size≤a):a ∉ X.fs:=fun hb=>by
 obtain ⟨_,o,ho,_⟩:=I.ok.funs.mem hb
 exact absurd (Nat.lt_of_lt_of_le (Heap.lt_size ho) (Nat.le_trans I.sz h)) (Nat.lt_irrefl _)
theorem Inv.cne (I:Inv X pins σ H s):∀ x c,X.env.cells.lookup x=some c→c≠X.env.locals:=fun x c e z=>by
 obtain ⟨v,o,ho,hd⟩:=I.cell x c e
 obtain ⟨m,⟨o',es,ep,ho',hd',_⟩,_⟩:=I.loc
 rw [z,ho'] at ho; cases ho; rw [hd'] at hd; cases hd
theorem Inv.funs (I:Inv X pins σ H s):s.heap.FunFrames X.base X.outer:=by
 have all:∀ (l:List Env),(∀ b∈frs l,b∈X.fs)→X.s₀.heap.FunFrames X.base l→s.heap.FunFrames X.base l:=by
  intro l
  induction l with
  | nil=>intro _ _; trivial
  | cons env r ih =>
   intro hs hl
   obtain ⟨hk,⟨L,o,hf,hn,ho,hd⟩,hr⟩:=hl
   have hL:L∈X.fs:=hs L (by unfold frs; rw [List.filterMap_cons,hf]; exact List.mem_cons_self)
   obtain ⟨sl,e⟩:=I.base.slot L o ho (I.ok.frf L hL) hL fun z=>I.ok.exfs L z hL
   exact ⟨hk,⟨L,_,hf,hn,e,hd⟩,ih (fun b hb=>hs b (by unfold frs; rw [List.filterMap_cons,hf]; exact List.mem_cons_of_mem _ hb)) hr⟩
 exact all X.outer (fun _ hb=>hb) I.ok.funs
theorem Inv.stack (I:Inv X pins σ H s):s.heap.FunFrames X.base X.stack:=by
 rcases I.ok.stk with e | ⟨e,hf⟩
 ·rw [e]; exact I.funs
 ·rw [e]
  obtain ⟨m,hn,_⟩:=I.loc
  refine .cons (by rw [I.ok.kind]; decide) hf hn ?_ I.funs
  exact Heap.get?_none_of_le (Nat.le_trans I.ok.bsz I.ok.above)
theorem Inv.stkSub (I:Inv X pins σ H s):∀ b∈frs X.stack,b∈X.env.locals :: X.fs:=fun b hb=>by
 rcases I.ok.stk with e | ⟨e,hf⟩
 ·rw [e] at hb; exact List.mem_cons_of_mem _ hb
 ·rw [e] at hb
  unfold frs at hb
  rw [List.filterMap_cons,hf] at hb
  exact hb
theorem Inv.stkFree (I:Inv X pins σ H s):∀ b∈frs X.stack,H b=none:=fun b hb=>by
 rcases List.mem_cons.mp (I.stkSub b hb) with e | hb
 ·rw [e]; exact I.free
 ·obtain ⟨_,o,ho,_⟩:=I.ok.funs.mem hb
  exact I.base.free b o ho (I.ok.frf b hb) fun z=>I.ok.exfs b z hb
theorem Inv.step {g':Array GenState} {t':Nat} {d':Drawn} {ch:List Addr} (I:Inv X pins σ H s)
  (hch:∀ b∈ch,(b∈X.ex∨X.s₀.heap.objs.size≤b)∧b≠X.env.locals∧(∀ x c,X.env.cells.lookup x=some c→c≠b)∧∀ p∈X.pn ++ pins,p.1≠b)
  (keep:∀ b o,b≠X.env.locals→b ∉ X.fs→b ∉ ch→s.heap.get? b=some o→H b=none→h'.get? b=some o)
  (slot:∀ b o,b≠X.env.locals→b∈X.fs→b ∉ ch→s.heap.get? b=some o→H b=none→∃ sl,h'.get? b=some { o with slots:=sl }) (free:∀ b o,b ∉ ch→s.heap.get? b=some o→H b=none→H' b=none)
  (there:∀ b o,b ∉ ch→s.heap.get? b=some o→∃ o',h'.get? b=some o')
  (tups:∀ b xs,H b=some (.tup xs)→H' b=some (.tup xs)) (frzs:∀ b o u,H b=some (.frz o u)→H' b=some (.frz o u)) (tbls:∀ b ps,H b=some (.tbl ps)→∃ more,H' b=some (.tbl (ps ++ more)))
  (ns:∀ m,s.heap.Ns X.env.locals m→h'.Ns X.env.locals m) (hok:HOk X.prog X.w H' h') (hg:AllBare g') :
  Inv X pins σ H' { s with heap:=h',gens:=g',drawn:=d',toks:=t' }:=by
 have neL:∀ b o,X.s₀.heap.get? b=some o→b≠X.env.locals:=fun b o e=>Nat.ne_of_lt (Nat.lt_of_lt_of_le (Heap.lt_size e) I.ok.above)
 have neC:∀ b o,X.s₀.heap.get? b=some o→b ∉ X.ex→b ∉ ch:=fun b o e hx hb=>by
  rcases (hch b hb).1 with z | z
  ·exact hx z
  ·exact absurd (Nat.lt_of_lt_of_le (Heap.lt_size e) z) (Nat.lt_irrefl _)
 have cellK:∀ x c,X.env.cells.lookup x=some c→∀ v,s.heap.IsCell c v→h'.IsCell c v:=fun x c e v ⟨o,ho,hd⟩=>by
  have nch:c ∉ ch:=fun z=>(hch c z).2.2.1 x c e rfl
  by_cases hc:c∈X.fs
  ·obtain ⟨sl,q⟩:=slot c o (I.cne x c e) hc nch ho (I.freeC x c e)
   exact ⟨_,q,hd⟩
  ·exact ⟨o,keep c o (I.cne x c e) hc nch ho (I.freeC x c e),hd⟩
 refine ⟨I.ok,I.os,hg,⟨fun b o e n hb hx=>?_,fun b o e n hb hx=>?_,fun b o e n hx=>?_,fun b o e hx=>?_,fun b xs e=>tups b xs (I.base.tups b xs e),fun b o xs e=>frzs b o xs (I.base.frzs b o xs e),fun b ps e=>?_⟩,?_,fun x c e=>?_,?_,fun x c e=>?_,fun p hp=>?_,hok,I.len⟩
 ·exact keep b o (neL b o e) hb (neC b o e hx) (I.base.keep b o e n hb hx) (I.base.free b o e n hx)
 ·obtain ⟨sl,e1⟩:=I.base.slot b o e n hb hx
  obtain ⟨sl',e2⟩:=slot b _ (neL b o e) hb (neC b o e hx) e1 (I.base.free b o e n hx)
  exact ⟨sl',e2⟩
 ·obtain ⟨o',e1⟩:=I.base.there b o e hx
  exact free b o' (neC b o e hx) e1 (I.base.free b o e n hx)
 ·obtain ⟨o',e1⟩:=I.base.there b o e hx
  exact there b o' (neC b o e hx) e1
 ·obtain ⟨m1,e1⟩:=I.base.tbls b ps e
  obtain ⟨m2,e2⟩:=tbls b _ e1
  exact ⟨m1 ++ m2,by rw [e2,Array.append_assoc]⟩
 ·obtain ⟨m,hn,hl⟩:=I.loc
  refine ⟨m,ns m hn,fun i x v e1 e2 e3=>?_⟩
  obtain ⟨u,r,l⟩:=hl i x v e1 e2 e3
  refine ⟨u,r,?_⟩
  rcases l with l | ⟨k,c,e,z⟩
  ·exact .inl l
  ·exact .inr ⟨k,c,e,cellK x c e _ z⟩
 ·obtain ⟨v,z⟩:=I.cell x c e
  exact ⟨v,cellK x c e v z⟩
 ·obtain ⟨m,⟨o,_,_,ho,_⟩,_⟩:=I.loc
  exact free _ o (fun z=>(hch _ z).2.1 rfl) ho I.free
 ·obtain ⟨v,o,ho,hd⟩:=I.cell x c e
  exact free c o (fun z=>(hch c z).2.2.1 x c e rfl) ho (I.freeC x c e)
 ·obtain ⟨e,n,ne,nf,d⟩:=I.pin p hp
  have nch:p.1 ∉ ch:=fun z=>(hch p.1 z).2.2.2 p hp rfl
  exact ⟨keep p.1 p.2 ne nf nch e n,free p.1 p.2 nch e n,ne,nf,d⟩
theorem Inv.un {t':Nat} (I:Inv X pins σ H s) (u:Un X.fs [] H H' s.heap h') (hok:HOk X.prog X.w H' h'):Inv X pins σ H' { s with heap:=h',toks:=t' }:=by
 obtain ⟨m,⟨o,es,ep,ho,r⟩,_⟩:=id I.loc
 obtain ⟨sl,hL⟩:=u.any ho I.free (by simp)
 exact I.step (g':=s.gens) (d':=s.drawn) (ch:=[]) (fun _ z=>nomatch z) (fun b o _ hb _ e n=>u.keep b o e n hb (by simp)) (fun b o _ hb _ e n=>u.slot b o e n hb (by simp)) (fun b o _ e n=>u.free b o e n (by simp)) (fun b o _ e=>u.there b o e (by simp)) u.tups u.frzs u.tbls (fun m' hm=>by
  obtain ⟨o',es',ep',ho',r'⟩:=hm
  rw [ho] at ho'; cases ho'
  exact ⟨_,es',ep',hL,r'⟩) hok I.bare
theorem Inv.call {g':Array GenState} {t':Nat} {d':Drawn} {ch:List Addr} (I:Inv X pins σ H s) (u:Un (frs X.stack) ch H H' s.heap h') (hok:HOk X.prog X.w H' h') (hg:AllBare g')
  (hch:∀ b∈ch,(b∈X.ex∨X.s₀.heap.objs.size≤b)∧b≠X.env.locals∧(∀ x c,X.env.cells.lookup x=some c→c≠b)∧∀ p∈X.pn ++ pins,p.1≠b) :
  Inv X pins σ H' { s with heap:=h',gens:=g',drawn:=d',toks:=t' }:=by
 obtain ⟨m,⟨o,es,ep,ho,r⟩,_⟩:=id I.loc
 obtain ⟨sl,hL⟩:=u.any ho I.free fun z=>(hch _ z).2.1 rfl
 exact I.step (ch:=ch) hch (fun b o hL hb hc e n=>u.keep b o e n (fun z=>(List.mem_cons.mp (I.stkSub b z)).elim hL hb) hc) (fun b o _ _ hc e n=>u.any e n hc) (fun b o hc e n=>u.free b o e n hc) (fun b o hc e=>u.there b o e hc) u.tups u.frzs u.tbls (fun m' hm=>by
  obtain ⟨o',es',ep',ho',r'⟩:=hm
  rw [ho] at ho'; cases ho'
  exact ⟨_,es',ep',hL,r'⟩) hok hg
theorem Inv.turned {t':Nat} {it:Addr} (I:Inv X pins σ H s) (k:∀ b o,b≠it→s.heap.get? b=some o→h'.get? b=some o) (hn:H it=none) (hL:it≠X.env.locals)
  (h1:it∈X.ex∨X.s₀.heap.objs.size≤it) (h2:∀ x c,X.env.cells.lookup x=some c→c≠it) (h3:∀ p∈X.pn ++ pins,p.1≠it):Inv X pins σ H { s with heap:=h',toks:=t' }:=by
 have nit:∀ b u,H b=some u→b≠it:=fun b u e z=>by rw [z,hn] at e; cases e
 refine I.step (g':=s.gens) (d':=s.drawn) (ch:=[it]) (fun b hb=>?_) (fun b o _ _ hc e _=>k b o (fun z=>hc (by simp [z])) e) (fun b o _ _ hc e _=>⟨o.slots,k b o (fun z=>hc (by simp [z])) e⟩) (fun _ _ _ _ n=>n)
  (fun b o hc e=>⟨o,k b o (fun z=>hc (by simp [z])) e⟩) (fun _ _ e=>e) (fun _ _ _ e=>e) (fun b ps e=>⟨#[],by rw [e]; simp⟩) (fun m hm=>?_) (fun b u e=>?_) I.bare
 ·have e:b=it:=by simpa using hb
  subst e
  exact ⟨h1,hL,h2,h3⟩
 ·obtain ⟨o,es,ep,ho,r⟩:=hm
  exact ⟨o,es,ep,k _ o (Ne.symm hL) ho,r⟩
 ·refine (I.hok b u e).stay (fun c v hc q=>k c v ?_ q) (fun _ q=>q) fun _ _ q=>q
  rcases hc with z | z
  ·rw [z]; exact nit b u e
  ·exact nit c _ z
theorem Inv.tok (I:Inv X pins σ H s) (t:Nat):Inv X pins σ H { s with toks:=t }:=I.un (h':=s.heap) (t':=t) Un.refl I.hok
theorem Inv.kept {t':Nat} (I:Inv X pins σ H s) (k:∀ b u,s.heap.get? b=some u→h'.get? b=some u):Inv X pins σ H { s with heap:=h',toks:=t' }:=I.un (Un.kept k) (I.hok.kept k)
theorem Inv.laid {a:Addr} {o:HO} {t':Nat} (I:Inv X pins σ H s) (k:∀ b u,s.heap.get? b=some u→h'.get? b=some u) (hp:s.heap.objs.size≤a) (new:ObjOk X.prog X.w (upd H a o) h' a o) :
  Inv X pins σ (upd H a o) { s with heap:=h',toks:=t' }:=I.un (Un.laid k hp (I.hok.fresh hp)) (I.hok.laid k hp new)
theorem Inv.write {x e:Addr} {o:HO} {t':Nat} (I:Inv X pins σ H s) (mu:Mut (H x)) (he:e=x∨H e=some (.own x)) (k:∀ b u,b≠e→s.heap.get? b=some u→h'.get? b=some u) (heo:∃ u,h'.get? e=some u)
  (new:ObjOk X.prog X.w (upd H x o) h' x o):Inv X pins σ (upd H x o) { s with heap:=h',toks:=t' }:=I.un (Un.write mu he k heo) (I.hok.write mu he k heo new)
theorem Inv.pins_of {pins':List (Addr×Obj)} (I:Inv X pins σ H s) (h:∀ p∈pins',s.heap.get? p.1=some p.2∧H p.1=none∧p.1≠X.env.locals∧p.1 ∉ X.fs∧∀ v,p.2.data≠.cell v):Inv X pins' σ H s :=
 ⟨I.ok,I.os,I.bare,I.base,I.loc,I.cell,I.free,I.freeC,fun p hp=>(List.mem_append.mp hp).elim (fun z=>I.pin p (List.mem_append_left _ z)) (h p),I.hok,I.len⟩
theorem nodup_ix {N:List Str} (hN:N.Nodup) {i j:Nat} {x:Str} (a:N[i]?=some x) (b:N[j]?=some x):i=j:=by
 obtain ⟨h1,e1⟩:=List.getElem?_eq_some_iff.mp a
 obtain ⟨h2,e2⟩:=List.getElem?_eq_some_iff.mp b
 exact (List.getElem_inj hN).mp (e1.trans e2.symm)
theorem store_ok2 {M:Model} {A:Around} {E:Value→Shared→Prop} {i:Nat} {x:Str} {v:V} {u:Value} {Q:Unit→Shared→Prop} (I:Inv X pins σ H s) (hN:X.N.Nodup) (hi:X.N[i]?=some x) (hx:Loc X.env.scope x) (r:RelV v u)
  (h:∀ s',Inv X pins (σ.set i (some v)) H s'→(∃ a,Heap.SameBut a s.heap s'.heap∧(a=X.env.locals∨X.env.cells.lookup x=some a))→Q () s') (hf:X.fn x=true∨X.env.scope.names.lookup x=some .local:=by first | exact .inl rfl | exact .inr rfl | assumption):wpAny M A (storeName X.env x u) Q E s:=by
 obtain ⟨m,hn,hl⟩:=id I.loc
 have hcls:(X.env.scope.kind == .class || (X.env.scope.kind == .module && X.env.locals != X.env.globals))=false:=by rw [I.ok.kind]; rfl
 have hiσ:i < σ.length:=by rw [I.len]; exact (List.getElem?_eq_some_iff.mp hi).1
 have cne:=I.cne
 have tracked:∀ {a:Addr} {h':Heap},(∃ o,s.heap.get? a=some o∧H a=none)→Heap.SameBut a s.heap h'→HOk X.prog X.w H h':=fun {a h'} ha hs b ob e=>by
  obtain ⟨_,_,hfree⟩:=ha
  refine (I.hok b ob e).stay (fun c w' hc q=>(hs.2 c ?_).trans q) (fun _ q=>q) fun _ _ q=>q
  rintro rfl
  rcases hc with rfl | hc
  ·rw [hfree] at e; cases e
  ·rw [hfree] at hc; cases hc
 rcases hx with hk | hk
 ·refine wpAny_storeName_local hk hn (fun h' hn' hs=>?_) hcls
  obtain ⟨oL,_,_,hoL,_⟩:=id hn
  refine h _ ⟨I.ok,I.os,I.bare,⟨fun b o e n hb hx=>?_,fun b o e n hb hx=>?_,I.base.free,fun b o e hx=>?_,I.base.tups,I.base.frzs,I.base.tbls⟩,⟨_,hn',fun j y v' e1 e2 e3=>?_⟩,fun y c e=>?_,I.free,I.freeC,fun p hp=>?_,tracked ⟨oL,hoL,I.free⟩ hs,by simpa using I.len⟩ ⟨_,hs,.inl rfl⟩
  ·exact (hs.2 b (Nat.ne_of_lt (Nat.lt_of_lt_of_le (Heap.lt_size e) I.ok.above))).trans (I.base.keep b o e n hb hx)
  ·obtain ⟨sl,e1⟩:=I.base.slot b o e n hb hx
   exact ⟨sl,(hs.2 b (Nat.ne_of_lt (Nat.lt_of_lt_of_le (Heap.lt_size e) I.ok.above))).trans e1⟩
  ·obtain ⟨o',e1⟩:=I.base.there b o e hx
   exact ⟨o',(hs.2 b (Nat.ne_of_lt (Nat.lt_of_lt_of_le (Heap.lt_size e) I.ok.above))).trans e1⟩
  ·by_cases hj:j=i
   ·subst hj
    rw [hi] at e1; cases e1
    rw [List.getElem?_set_self hiσ] at e2
    cases e2
    exact ⟨u,r,.inl ⟨hk,by simp⟩⟩
   ·rw [List.getElem?_set_ne (Ne.symm hj)] at e2
    obtain ⟨u',r',q⟩:=hl j y v' e1 e2 e3
    refine ⟨u',r',?_⟩
    rcases q with ⟨k,e⟩ | ⟨k,c,e,z⟩
    ·refine .inl ⟨k,?_⟩
     have:y≠x:=fun e=>hj (nodup_ix hN e1 (e ▸ hi))
     simp [this,e]
    ·exact .inr ⟨k,c,e,z.sameBut hs (cne y c e)⟩
  ·obtain ⟨w',z⟩:=I.cell y c e
   exact ⟨w',z.sameBut hs (cne y c e)⟩
  ·obtain ⟨e,n,ne,nf,d⟩:=I.pin p hp
   exact ⟨(hs.2 p.1 ne).trans e,n,ne,nf,d⟩
 ·have hfn:X.fn x=true:=by
   rcases hf with z | z
   ·exact z
   ·rw [z] at hk; cases hk
  obtain ⟨c,hc⟩:=I.ok.has x (.inl hk)
  obtain ⟨w',z⟩:=I.cell x c hc
  refine wpAny_storeName_cell I.ok.kind hk hc z (fun h' hc' hs=>?_)
  obtain ⟨oc,hoc,hocd⟩:=id z
  refine h { s with heap:=h' } ⟨I.ok,I.os,I.bare,⟨fun b o e n hb hx=>?_,fun b o e n hb hx=>?_,I.base.free,fun b o e hx=>?_,I.base.tups,I.base.frzs,I.base.tbls⟩,⟨m,hn.sameBut hs (Ne.symm (cne x c hc)),fun j y v' e1 e2 e3=>?_⟩,fun y c' e=>?_,I.free,I.freeC,fun p hp=>?_,tracked ⟨oc,hoc,I.freeC x c hc⟩ hs,by simpa using I.len⟩ ⟨c,hs,.inr hc⟩
  ·exact (hs.2 b (Nat.ne_of_lt (Nat.lt_of_lt_of_le (Heap.lt_size e) (I.ok.cab x c hfn hc)))).trans (I.base.keep b o e n hb hx)
  ·obtain ⟨sl,e1⟩:=I.base.slot b o e n hb hx
   exact ⟨sl,(hs.2 b (Nat.ne_of_lt (Nat.lt_of_lt_of_le (Heap.lt_size e) (I.ok.cab x c hfn hc)))).trans e1⟩
  ·obtain ⟨o',e1⟩:=I.base.there b o e hx
   exact ⟨o',(hs.2 b (Nat.ne_of_lt (Nat.lt_of_lt_of_le (Heap.lt_size e) (I.ok.cab x c hfn hc)))).trans e1⟩
  ·by_cases hj:j=i
   ·subst hj
    rw [hi] at e1; cases e1
    rw [List.getElem?_set_self hiσ] at e2
    cases e2
    exact ⟨u,r,.inr ⟨.inl hk,c,hc,hc'⟩⟩
   ·rw [List.getElem?_set_ne (Ne.symm hj)] at e2
    obtain ⟨u',r',q⟩:=hl j y v' e1 e2 e3
    refine ⟨u',r',?_⟩
    rcases q with q | ⟨k,c',e,z'⟩
    ·exact .inl q
    ·refine .inr ⟨k,c',e,z'.sameBut hs ?_⟩
     rintro rfl
     exact hj (nodup_ix hN e1 (I.ok.inj _ _ _ e hc ▸ hi))
  ·by_cases hcc:c'=c
   ·subst hcc; exact ⟨_,hc'⟩
   ·obtain ⟨w2,z2⟩:=I.cell y c' e
    exact ⟨w2,z2.sameBut hs hcc⟩
  ·obtain ⟨e,n,ne,nf,d⟩:=I.pin p hp
   refine ⟨(hs.2 p.1 ?_).trans e,n,ne,nf,d⟩
   intro q
   rw [q,hoc] at e
   have q':oc=p.2:=Option.some.inj e
   exact d w' (by rw [← q']; exact hocd)
theorem store_ok {M:Model} {A:Around} {E:Value→Shared→Prop} {i:Nat} {x:Str} {v:V} {u:Value} {Q:Unit→Shared→Prop} (I:Inv X pins σ H s) (hN:X.N.Nodup) (hi:X.N[i]?=some x) (hx:Loc X.env.scope x) (r:RelV v u)
  (h:∀ s',Inv X pins (σ.set i (some v)) H s'→Q () s') (hf:X.fn x=true∨X.env.scope.names.lookup x=some .local:=by first | exact .inl rfl | exact .inr rfl | assumption):wpAny M A (storeName X.env x u) Q E s :=
 store_ok2 I hN hi hx r (fun s' I' _=>h s' I') hf
theorem Inv.call' {s':Shared} {ch:List Addr} (I:Inv X pins σ H s) (ho:s'.os=s.os) (u:Un (frs X.stack) ch H H' s.heap s'.heap) (hok:HOk X.prog X.w H' s'.heap) (hg:AllBare s'.gens)
  (hch:∀ b∈ch,(b∈X.ex∨X.s₀.heap.objs.size≤b)∧b≠X.env.locals∧(∀ x c,X.env.cells.lookup x=some c→c≠b)∧∀ p∈X.pn ++ pins,p.1≠b):Inv X pins σ H' s':=by
 obtain ⟨h',g',d',t',o'⟩:=s'
 have e:o'=s.os:=ho
 subst e
 exact I.call (g':=g') (t':=t') (d':=d') u hok hg hch
end
abbrev XK:=Value→Option Addr→Hp→Prop
abbrev St:=List (Option V)
abbrev VK:=V→Hp→Prop
abbrev TE:=St→Hp→VK→Prop
abbrev TT:=St→Hp→(Bool→Hp→Prop)→Prop
abbrev TA:=St→Hp→(List V→Hp→Prop)→Prop
structure Ends where
 nx:St→Hp→Prop
 rt:VK
 bk:St→Hp→Prop:=fun _ _=>False
 ct:St→Hp→Prop:=fun _ _=>False
abbrev TS:=Ends→St→Hp→Prop
def EP (X:Cx) (pins:List (Addr×Obj)) (σ:St) (Q:VK) (u:Value) (s':Shared):Prop:=∃ v H',Inv X pins σ H' s'∧RelV v u∧Q v H'
def TP (X:Cx) (pins:List (Addr×Obj)) (σ:St) (Q:Bool→Hp→Prop) (b:Bool) (s':Shared):Prop:=∃ H',Inv X pins σ H' s'∧Q b H'
def AP (X:Cx) (pins:List (Addr×Obj)) (σ:St) (Q:List V→Hp→Prop) (us:List Value) (s':Shared):Prop:=∃ vs H',Inv X pins σ H' s'∧Vals vs us∧Q vs H'
def SP (X:Cx) (pins:List (Addr×Obj)) (D:Ends) (f:Flow) (s':Shared):Prop :=
 match f with
 | .next=>∃ σ' H',Inv X pins σ' H' s'∧D.nx σ' H'
 | .brk=>∃ σ' H',Inv X pins σ' H' s'∧D.bk σ' H'
 | .cont=>∃ σ' H',Inv X pins σ' H' s'∧D.ct σ' H'
 | .ret u=>∃ v σ' H',Inv X pins σ' H' s'∧RelV v u∧D.rt v H'
def PE (X:Cx) (e:Expr) (t:TE):Prop :=
 ∀ (pins:List (Addr×Obj)) (s:Shared) (σ:St) (H:Hp) (Q:VK),Inv X pins σ H s→t σ H Q→wpAny (model X.prog X.w) X.A (eval e X.env) (EP X pins σ Q) X.xe s
def PT (X:Cx) (e:Expr) (t:TT):Prop :=
 ∀ (pins:List (Addr×Obj)) (s:Shared) (σ:St) (H:Hp) (Q:Bool→Hp→Prop),Inv X pins σ H s→t σ H Q→wpAny (model X.prog X.w) X.A (isTrue e X.env (eval e X.env)) (TP X pins σ Q) X.xe s
def PW (X:Cx) (e:Expr) (t:TT):Prop :=
 ∀ (whole:Sem Value) (pins:List (Addr×Obj)) (s:Shared) (σ:St) (H:Hp) (Q:Bool→Hp→Prop),Inv X pins σ H s→t σ H Q→wpAny (model X.prog X.w) X.A (isTrue e X.env whole) (TP X pins σ Q) X.xe s
theorem PW.pt {X:Cx} {e:Expr} {t:TT} (h:PW X e t):PT X e t:=h _
def PA (X:Cx) (es:List Expr) (t:TA):Prop :=
 ∀ (pos:Pos) (pins:List (Addr×Obj)) (s:Shared) (σ:St) (H:Hp) (Q:List V→Hp→Prop),Inv X pins σ H s→t σ H Q→wpAny (model X.prog X.w) X.A (spliced (backTo pos (starEach es X.env))) (AP X pins σ Q) X.xe s
def PS (X:Cx) (st:Stmt) (t:TS):Prop :=
 ∀ (pins:List (Addr×Obj)) (s:Shared) (σ:St) (H:Hp) (D:Ends),Inv X pins σ H s→t D σ H→wpAny (model X.prog X.w) X.A (exec st X.env) (SP X pins D) X.xe s
def PSs (X:Cx) (st:List Stmt) (t:TS):Prop :=
 ∀ (pins:List (Addr×Obj)) (s:Shared) (σ:St) (H:Hp) (D:Ends),Inv X pins σ H s→t D σ H→wpAny (model X.prog X.w) X.A (execs st X.env) (SP X pins D) X.xe s
theorem thn {α:Type} {t:Sem α} {Q Q':α→Shared→Prop} {M:Model} {A:Around} {E:Value→Shared→Prop} {s:Shared} (h:wpAny M A t Q E s) (hQ:∀ a s,Q a s→Q' a s):wpAny M A t Q' E s:=wpAny_mono h hQ fun _ _ x=>x
end L2
namespace L2
open PySem PySem.Spec PyProof.Rows
section
variable {X:Cx}
def tVar (i:Nat):TE:=fun σ H Q=>∃ v,σ[i]?=some (some v)∧Q v H
def tC (v:V):TE:=fun _ H Q=>Q v H
theorem pe_var {i:Nat} {x:Str} {pos:Pos} (hN:X.N[i]?=some x) (hv:Vis X.env.scope x) (hd:(x == ("__debug__" : Str))=false:=by decide) (hcd:(x == ("__classdict__" : Str))=false:=by decide):PE X (.Name x pos) (tVar i):=by
 intro pins s σ H Q I h
 obtain ⟨v,e,h⟩:=h
 obtain ⟨m,hn,hl⟩:=I.loc
 obtain ⟨u,r,l⟩:=hl i x v hN e hv
 have fin:EP X pins σ Q u s:=⟨v,H,I,r,h⟩
 rcases l with ⟨hk,hm⟩ | ⟨hk,c,hc,hcell⟩
 ·exact wpAny_Name (wpAny_loadName_local I.ok.kind hk hn hm fin) hd
 ·rcases hk with hk | hk
  ·exact wpAny_Name (wpAny_loadName_cell I.ok.kind hk hc hcell fin) hd
  ·exact wpAny_Name (wpAny_loadName_free I.ok.kind hk hc hcell fin hcd) hd
theorem pe_int {i j pos}:PE X (.Constant (.int i) j pos) (tC (.int i)):=fun _ _ _ H _ I h=>wpAny_Constant_int ⟨.int i,H,I.tok _,⟨_,rfl⟩,h⟩
theorem pe_bl {b j pos}:PE X (.Constant (.bool b) j pos) (tC (.bl b)):=fun _ _ _ H _ I h=>Constant_bool ⟨.bl b,H,I,rfl,h⟩
theorem pe_str {x j pos}:PE X (.Constant (.str x) j pos) (tC (.str x)):=fun _ _ _ H _ I h=>Calls.Constant_str ⟨.str x,H,I.tok _,⟨_,rfl⟩,h⟩
def Gl (X:Cx) (x:Str):Prop:=X.env.kindOf x=some .globalImplicit
theorem ld_glob {E:Value→Shared→Prop} {pins:List (Addr×Obj)} {s:Shared} {σ:St} {H:Hp} {x:Str} {u:Value} {pos:Pos} {Q:Value→Shared→Prop} (I:Inv X pins σ H s) (hg:Gl X x) (hm:X.mg x=some u) (h:Q u s)
  (hd:(x == ("__debug__" : Str))=false:=by decide):wpAny (model X.prog X.w) X.A (eval (.Name x pos) X.env) Q E s :=
 Calls.Name_function_global I.ok.kind hg (Calls.loadGlobal_global (by rw [I.ok.glob]; exact I.mod.glob.keeps I.bk) hm h) hd
theorem ld_blt {E:Value→Shared→Prop} {pins:List (Addr×Obj)} {s:Shared} {σ:St} {H:Hp} {x:Str} {u:Value} {pos:Pos} {Q:Value→Shared→Prop} (I:Inv X pins σ H s) (hg:Gl X x) (hm:X.mg x=none) (hv:bootBuiltins x=some u) (h:Q u s)
  (hn:x ≠ "__name__" := by decide) (hd:(x == ("__debug__" : Str))=false:=by decide):wpAny (model X.prog X.w) X.A (eval (.Name x pos) X.env) Q E s:=by
 obtain ⟨mb,h1,h2⟩:=I.mod.blt
 exact Calls.Name_function_global I.ok.kind hg (Calls.loadGlobal_builtin (by rw [I.ok.glob]; exact I.mod.glob.keeps I.bk) hm (by rw [I.ok.blt]; exact h1.keeps I.bk) ((h2 x hn).trans hv) h) hd
theorem pe_glob {x:Str} {v:V} {u:Value} {pos:Pos} (hg:Gl X x) (hm:X.mg x=some u) (r:RelV v u) (hd:(x == ("__debug__" : Str))=false:=by decide):PE X (.Name x pos) (tC v) :=
 fun _ _ _ H _ I h=>ld_glob I hg hm ⟨v,H,I,r,h⟩ hd
theorem pe_bltn {x:Str} {v:V} {u:Value} {pos:Pos} (hg:Gl X x) (hm:X.mg x=none) (hv:bootBuiltins x=some u) (r:RelV v u) (hn:x ≠ "__name__" := by decide) (hd:(x == ("__debug__" : Str))=false:=by decide):PE X (.Name x pos) (tC v) :=
 fun _ _ _ H _ I h=>ld_blt I hg hm hv ⟨v,H,I,r,h⟩ hn hd
variable {a b:Expr} {ta tb:TE} {pos:Pos}
def tB (t:TE):TT:=fun σ H Q=>t σ H fun x H1=>∃ c,x=.bl c∧Q c H1
theorem pt_val {e:Expr} {t:TE} (h:PE X e t) (he:∀ whole,isTrue e X.env whole=(do let v ← whole; standAt e.pos; holding [v] (truthy v)):=by intro _; rfl):PT X e (tB t):=by
 intro pins s σ H Q I hw
 refine isTrue_plain (thn (h pins s σ H _ I hw) fun v s1 ⟨x,H1,I1,r1,q1⟩=>?_) (he _)
 obtain ⟨d,rfl,q⟩:=q1
 cases r1
 exact wpAny_truthy_bool ⟨H1,I1,q⟩
variable {tA tB':TT} {rest:List Expr}
def tAnd (t u:TT):TT:=fun σ H Q=>t σ H fun c H1=>if c=true then u σ H1 Q else Q false H1
def tOr (t u:TT):TT:=fun σ H Q=>t σ H fun c H1=>if c=true then Q true H1 else u σ H1 Q
def tNot (t:TT):TT:=fun σ H Q=>t σ H fun c H1=>Q (!c) H1
theorem pw_and1 (ha:PT X a tA):PW X (.BoolOp .And [a] pos) tA:=by
 intro wh pins s σ H Q I h
 refine isTrue_and (thn (ha pins s σ H Q I h) fun c s1 e=>?_)
 cases c with
 | true=>exact isTrue_and_nil e
 | false=>exact e
theorem pw_or1 (ha:PT X a tA):PW X (.BoolOp .Or [a] pos) tA:=by
 intro wh pins s σ H Q I h
 refine isTrue_or (thn (ha pins s σ H Q I h) fun c s1 e=>?_)
 cases c with
 | false=>exact isTrue_or_nil e
 | true=>exact e
theorem pw_and (ha:PT X a tA) (hb:PW X (.BoolOp .And (b :: rest) pos) tB'):PW X (.BoolOp .And (a :: b :: rest) pos) (tAnd tA tB'):=by
 intro wh pins s σ H Q I h
 refine isTrue_and (thn (ha pins s σ H _ I h) fun c s1 ⟨H1,I1,q1⟩=>?_)
 cases c with
 | true=>exact hb wh pins s1 σ H1 Q I1 q1
 | false=>exact ⟨H1,I1,q1⟩
theorem pw_or (ha:PT X a tA) (hb:PW X (.BoolOp .Or (b :: rest) pos) tB'):PW X (.BoolOp .Or (a :: b :: rest) pos) (tOr tA tB'):=by
 intro wh pins s σ H Q I h
 refine isTrue_or (thn (ha pins s σ H _ I h) fun c s1 ⟨H1,I1,q1⟩=>?_)
 cases c with
 | true=>exact ⟨H1,I1,q1⟩
 | false=>exact hb wh pins s1 σ H1 Q I1 q1
theorem pt_not (ha:PT X a tA):PT X (.UnaryOp .Not a pos) (tNot tA):=by
 intro pins s σ H Q I h
 exact isTrue_not (ha pins s σ H (fun c H1=>Q (!c) H1) I h)
def tAndV (ta tb:TE):TE:=fun σ H Q=>ta σ H fun x H1=>∃ c,x=.bl c∧if c=true then tb σ H1 Q else Q (.bl false) H1
def tNotV (ta:TE):TE:=fun σ H Q=>ta σ H fun x H1=>∃ c,x=.bl c∧Q (.bl (!c)) H1
theorem pe_one {op} {t:TE} (h:PE X a t):PE X (.BoolOp op [a] pos) t:=fun pins s σ H Q I hw=>BoolOp_one (h pins s σ H Q I hw)
theorem pe_and (ha:PE X a ta) (hb:PE X (.BoolOp .And (b :: rest) pos) tb):PE X (.BoolOp .And (a :: b :: rest) pos) (tAndV ta tb):=by
 intro pins s σ H Q I h
 refine BoolOp_and (thn (ha pins s σ H _ I h) fun v s1 ⟨x,H1,I1,r1,q1⟩=>?_)
 obtain ⟨c,rfl,q1⟩:=q1
 cases r1
 refine wpAny_truthy_bool ?_
 cases c with
 | true=>exact hb pins s1 σ H1 Q I1 q1
 | false=>exact ⟨.bl false,H1,I1,rfl,q1⟩
theorem pe_not (ha:PE X a ta):PE X (.UnaryOp .Not a pos) (tNotV ta):=by
 intro pins s σ H Q I h
 refine UnaryOp_ (thn (ha pins s σ H _ I h) fun v s1 ⟨x,H1,I1,r1,q1⟩=>?_)
 obtain ⟨c,rfl,q1⟩:=q1
 cases r1
 exact not_of (wpAny_truthy_bool ⟨.bl (!c),H1,I1,rfl,q1⟩)
def tIf (t:TT) (ta tb:TE):TE:=fun σ H Q=>t σ H fun c H1=>if c=true then ta σ H1 Q else tb σ H1 Q
theorem pe_ifExp {c:Expr} (hc:PT X c tA) (ha:PE X a ta) (hb:PE X b tb):PE X (.IfExp c a b pos) (tIf tA ta tb):=by
 intro pins s σ H Q I h
 refine wpAny_IfExp (thn (hc pins s σ H _ I h) fun d s1 ⟨H1,I1,q1⟩=>?_)
 cases d with
 | true=>exact ha pins s1 σ H1 Q I1 q1
 | false=>exact hb pins s1 σ H1 Q I1 q1
end
end L2
namespace L2
open PySem PySem.Spec PyProof.Rows
def SqL (K:PySem.W.Frag) (H:Hp) (a:Addr) (xs:List V):Prop :=
 Rd H a (.lst xs) ∨
  ∃ (o:Obj) (its:Array Value) (n:Nat),K.lookup a=some o∧o.cls=.type "list" ∧ o.dict=none∧o.data=.seq its n∧its.size≤sizeLine∧Vals xs its.toList
def SqT (K:PySem.W.Frag) (H:Hp) (a:Addr) (xs:List V):Prop :=
 Rd H a (.tup xs) ∨
  ∃ (o:Obj) (its:Array Value) (n:Nat),K.lookup a=some o∧o.cls=.type "tuple" ∧ o.data=.seq its n∧its.size≤sizeLine∧Vals xs its.toList
def absV:Value→Option V
 | .none=>some .non
 | .bool b=>some (.bl b)
 | .int i _=>some (.int i)
 | .str x _=>some (.str x)
 | .bytes b _=>some (.byt b)
 | .float b _=>some (.flt b)
 | .ref a=>some (.ref a)
 | .type n=>some (.ty n)
 | _=>none
theorem RelV.abs {x:V} {u:Value} (r:RelV x u):absV u=some x:=by
 cases x with
 | non=>cases r; rfl
 | bl _=>cases r; rfl
 | int _=>obtain ⟨t,rfl⟩:=r; rfl
 | str _=>obtain ⟨t,rfl⟩:=r; rfl
 | byt _=>obtain ⟨t,rfl⟩:=r; rfl
 | flt _=>obtain ⟨t,rfl⟩:=r; rfl
 | ref _=>cases r; rfl
 | ty _=>cases r; rfl
theorem RelV.inj {x y:V} {u:Value} (r:RelV x u) (q:RelV y u):x=y:=Option.some.inj (r.abs.symm.trans q.abs)
theorem Vals.inj:∀ {xs ys:List V} {us:List Value},Vals xs us→Vals ys us→xs=ys
 | _,_,_,.nil,.nil=>rfl
 | _,_,_,.cons r t,.cons r' t'=>by rw [r.inj r',Vals.inj t t']
section
variable {X:Cx} {pins:List (Addr×Obj)} {σ:St} {H:Hp} {s:Shared} {a:Addr} {xs ys:List V}
theorem SqL.of {K:PySem.W.Frag} (h:H a=some (.lst xs)):SqL K H a xs:=.inl (.inl h)
theorem SqT.of {K:PySem.W.Frag} (h:H a=some (.tup xs)):SqT K H a xs:=.inl (.inl h)
theorem Inv.list (I:Inv X pins σ H s) (h:SqL X.K H a xs):∃ its:List Value,Vals xs its∧PlainL s.heap a its.toArray∧xs.length≤sizeLine:=by
 rcases h with h | ⟨o,its,n,hk,hc,hd,hs,hz,r⟩
 ·obtain ⟨z,its,n,r,e⟩:=h.ok I.hok
  exact ⟨its,r,⟨_,n,e,rfl,rfl,rfl⟩,z⟩
 ·refine ⟨its.toList,r,⟨o,n,I.kIn a o hk,hc,hd,by simpa using hs⟩,?_⟩
  have e:=r.length
  simp only [Array.length_toList] at e
  omega
theorem Inv.tuple (I:Inv X pins σ H s) (h:SqT X.K H a xs):∃ its:List Value,Vals xs its∧IsTup s.heap a its.toArray∧xs.length≤sizeLine:=by
 rcases h with h | ⟨o,its,n,hk,hc,hs,hz,r⟩
 ·obtain ⟨z,its,r,p⟩:=h.ok I.hok
  exact ⟨its,r,p,z⟩
 ·refine ⟨its.toList,r,⟨o,I.kIn a o hk,hc,n,by simpa using hs⟩,?_⟩
  have e:=r.length
  simp only [Array.length_toList] at e
  omega
theorem Inv.list_inj (I:Inv X pins σ H s) (h:SqL X.K H a xs) (h':SqL X.K H a ys):xs=ys:=by
 obtain ⟨its,r,⟨o,n,e,_,_,d⟩,_⟩:=I.list h
 obtain ⟨its',r',⟨o',n',e',_,_,d'⟩,_⟩:=I.list h'
 rw [e] at e'; cases e'
 rw [d] at d'
 injection d' with d1 _
 have:its=its':=by simpa using congrArg Array.toList d1
 subst this
 exact r.inj r'
theorem Inv.tuple_inj (I:Inv X pins σ H s) (h:SqT X.K H a xs) (h':SqT X.K H a ys):xs=ys:=by
 obtain ⟨its,r,⟨o,e,_,n,d⟩,_⟩:=I.tuple h
 obtain ⟨its',r',⟨o',e',_,n',d'⟩,_⟩:=I.tuple h'
 rw [e] at e'; cases e'
 rw [d] at d'
 injection d' with d1 _
 have:its=its':=by simpa using congrArg Array.toList d1
 subst this
 exact r.inj r'
end
abbrev Cx.wish (X:Cx) (E:Value→Shared→Prop):Cx:={ X with xe:=E }
abbrev Cx.nox (X:Cx):Cx:=X.wish fun _ _=>False
theorem Cx.Ok.wish {X:Cx} (ok:X.Ok) (E:Value→Shared→Prop):(X.wish E).Ok :=
 ⟨ok.mod,ok.kind,ok.glob,ok.blt,ok.above,ok.inj,ok.has,ok.cab,ok.hd,ok.frames,ok.stk,ok.exf,ok.bs,ok.bsz,ok.noex,ok.exfs,ok.funs,ok.frf⟩
theorem Cx.Ok.unwish {X:Cx} {E:Value→Shared→Prop} (ok:(X.wish E).Ok):X.Ok :=
 ⟨ok.mod,ok.kind,ok.glob,ok.blt,ok.above,ok.inj,ok.has,ok.cab,ok.hd,ok.frames,ok.stk,ok.exf,ok.bs,ok.bsz,ok.noex,ok.exfs,ok.funs,ok.frf⟩
section
variable {X:Cx} {pins:List (Addr×Obj)} {σ:St} {H:Hp} {s:Shared} {E:Value→Shared→Prop}
theorem Inv.wish (I:Inv X pins σ H s) (E:Value→Shared→Prop):Inv (X.wish E) pins σ H s:=⟨I.ok.wish E,I.os,I.bare,I.base,I.loc,I.cell,I.free,I.freeC,I.pin,I.hok,I.len⟩
theorem Inv.unwish (I:Inv (X.wish E) pins σ H s):Inv X pins σ H s:=⟨I.ok.unwish,I.os,I.bare,I.base,I.loc,I.cell,I.free,I.freeC,I.pin,I.hok,I.len⟩
theorem SP.unwish {D:Ends} {f:Flow} {s':Shared} (h:SP (X.wish E) pins D f s'):SP X pins D f s':=by
 cases f with
 | next=>obtain ⟨σ',H',I,q⟩:=h; exact ⟨σ',H',I.unwish,q⟩
 | brk=>obtain ⟨σ',H',I,q⟩:=h; exact ⟨σ',H',I.unwish,q⟩
 | cont=>obtain ⟨σ',H',I,q⟩:=h; exact ⟨σ',H',I.unwish,q⟩
 | ret u=>obtain ⟨v,σ',H',I,r,q⟩:=h; exact ⟨v,σ',H',I.unwish,r,q⟩
theorem PSs.nox {st:List Stmt} {t:TS} (h:PSs X.nox st t):PSs X st t:=fun pins s σ H D I hw =>
 wpAny_mono (h pins s σ H D (I.wish _) hw) (fun _ _ q=>q.unwish) fun _ _ z=>False.elim z
end
section
variable {X:Cx} {st:Stmt} {rest:List Stmt} {t u:TS} {e:Expr} {te:TE} {pos:Pos}
def tNext:TS:=fun D σ H=>D.nx σ H
def tSeq (t u:TS):TS:=fun D σ H=>t { D with nx:=u D } σ H
theorem pss_nil:PSs X [] tNext:=fun _ _ σ H _ I h=>wpAny_execs_nil ⟨σ,H,I,h⟩
theorem pss_cons (h1:PS X st t) (h2:PSs X rest u):PSs X (st :: rest) (tSeq t u):=by
 intro pins s σ H D I h
 refine wpAny_execs_cons (thn (h1 pins s σ H { D with nx:=u D } I h) fun f s1 q=>?_)
 cases f with
 | next =>
  obtain ⟨σ',H',I',q⟩:=q
  exact h2 pins s1 σ' H' D I' q
 | ret v=>exact q
 | brk=>exact q
 | cont=>exact q
theorem pss_one (h1:PS X st t):PSs X [st] t:=by
 intro pins s σ H D I h
 refine wpAny_execs_cons (thn (h1 pins s σ H D I h) fun f s1 q=>?_)
 cases f with
 | next=>exact wpAny_execs_nil q
 | ret v=>exact q
 | brk=>exact q
 | cont=>exact q
theorem Inv.quiet {pins:List (Addr×Obj)} {σ:St} {H:Hp} {s:Shared} (I:Inv X pins σ H s):interactive X.env=false:=by simp [interactive,I.ok.kind]
def tDrop (te:TE):TS:=fun D σ H=>te σ H fun _ H1=>D.nx σ H1
theorem ps_expr (he:PE X e te) (hs:swapsWith e none pos.line X.env=pure false:=by rfl):PS X (.Expr e pos) (tDrop te):=by
 intro pins s σ H D I h
 exact wpAny_Expr_any (thn (he pins s σ H _ I h) fun v s1 ⟨x,H1,I1,r1,q1⟩=>⟨σ,H1,I1,q1⟩) I.quiet hs
def tRet (te:TE):TS:=fun D σ H=>te σ H D.rt
theorem ps_ret (he:PE X e te):PS X (.Return (some e) pos) (tRet te):=by
 intro pins s σ H D I h
 exact wpAny_Return_some (thn (he pins s σ H _ I h) fun v s1 ⟨x,H1,I1,r1,q1⟩=>⟨x,σ,H1,I1,r1,q1⟩)
def tIfS (c:TT) (t u:TS):TS:=fun D σ H=>c σ H fun b H1=>if b=true then t D σ H1 else u D σ H1
theorem ps_if {c:Expr} {a b:List Stmt} {tc:TT} (hc:PT X c tc) (ha:PSs X a t) (hb:PSs X b u):PS X (.If c a b pos) (tIfS tc t u):=by
 intro pins s σ H D I h
 refine wpAny_If (thn (hc pins s σ H _ I h) fun d s1 ⟨H1,I1,q1⟩=>?_)
 cases d with
 | true=>exact ha pins s1 σ H1 D I1 q1
 | false=>exact hb pins s1 σ H1 D I1 q1
def tNever:TS:=fun _ _ _=>False
theorem ps_never:PS X st tNever:=fun _ _ _ _ _ _ h=>h.elim
end
abbrev TG:=V→St→Hp→(St→Hp→Prop)→Prop
abbrev TGs:=List V→St→Hp→(St→Hp→Prop)→Prop
def PG (X:Cx) (target:Expr) (t:TG):Prop :=
 ∀ (pins:List (Addr×Obj)) (s:Shared) (σ:St) (H:Hp) (v:V) (u:Value) (Q:St→Hp→Prop),Inv X pins σ H s→RelV v u→t v σ H Q →
  wpAny (model X.prog X.w) X.A (assign target X.env u) (fun _ s'=>∃ σ' H',Inv X pins σ' H' s'∧Q σ' H') X.xe s
def PGs (X:Cx) (ts:List Expr) (t:TGs):Prop :=
 ∀ (pins:List (Addr×Obj)) (s:Shared) (σ:St) (H:Hp) (vs:List V) (us:List Value) (Q:St→Hp→Prop),Inv X pins σ H s→Vals vs us→t vs σ H Q →
  wpAny (model X.prog X.w) X.A (assignInOrder ((assignEach ts X.env).map (·.2)) us) (fun _ s'=>∃ σ' H',Inv X pins σ' H' s'∧Q σ' H') X.xe s
abbrev TSet:=V→V→V→Hp→(Hp→Prop)→Prop
def PSet (X:Cx) (t:TSet):Prop :=
 ∀ (pins:List (Addr×Obj)) (s:Shared) (σ:St) (H:Hp) (o i v:V) (ov iv u:Value) (Q:Hp→Prop),Inv X pins σ H s→RelV o ov→RelV i iv→RelV v u→t o i v H Q →
  wpAny (model X.prog X.w) X.A (setItem ov iv u) (fun _ s'=>∃ H',Inv X pins σ H' s'∧Q H') X.xe s
abbrev TIp:=V→V→Hp→VK→Prop
def PIp (X:Cx) (op:Operator) (t:TIp):Prop :=
 ∀ (pins:List (Addr×Obj)) (s:Shared) (σ:St) (H:Hp) (x y:V) (v u:Value) (Q:VK),Inv X pins σ H s→RelV x v→RelV y u→t x y H Q →
  wpAny (model X.prog X.w) X.A (inplaceOp op v u) (EP X pins σ Q) X.xe s
section
variable {X:Cx} {pos:Pos}
def gName (i:Nat):TG:=fun v σ H Q=>Q (σ.set i (some v)) H
theorem pg_name {i:Nat} {x:Str} (hN:X.N.Nodup) (hi:X.N[i]?=some x) (hx:Loc X.env.scope x) (hf:X.fn x=true∨X.env.scope.names.lookup x=some .local:=by first | exact .inl rfl | exact .inr rfl | assumption):PG X (.Name x pos) (gName i):=by
 intro pins s σ H v u Q I r h
 exact wpAny_assign_Name (store_ok I hN hi hx r (fun s' I'=>⟨_,H,I',h⟩) hf)
def gNil:TGs:=fun vs σ H Q=>vs=[]∧Q σ H
def gCons (t:TG) (u:TGs):TGs:=fun vs σ H Q=>∃ v r,vs=v :: r∧t v σ H fun σ' H'=>u r σ' H' Q
theorem pgs_nil:PGs X [] gNil:=by
 intro pins s σ H vs us Q I r h
 obtain ⟨e,h⟩:=h
 subst e
 cases r
 exact assignInOrder_nil ⟨σ,H,I,h⟩
theorem pgs_cons {e:Expr} {es:List Expr} {t:TG} {u:TGs} (h1:PG X e t) (h2:PGs X es u)
  (hs:(assignEach (e :: es) X.env).map (·.2)=assign e X.env :: (assignEach es X.env).map (·.2):=by rfl):PGs X (e :: es) (gCons t u):=by
 intro pins s σ H vs us Q I r h
 obtain ⟨v,vr,e1,h⟩:=h
 subst e1
 cases r with
 | cons r rr =>
  rw [hs]
  refine assignInOrder_cons (thn (h1 pins s σ H _ _ _ I r h) fun _ s1 ⟨σ1,H1,I1,q1⟩=>?_)
  exact h2 pins s1 σ1 H1 _ _ Q I1 rr q1
def gTup (K:PySem.W.Frag) (n:Nat) (t:TGs):TG:=fun v σ H Q=>∃ a xs,v=.ref a∧SqT K H a xs∧xs.length=n∧t xs σ H Q
theorem pg_tup {es:List Expr} {k:Nat} {t:TGs} {n:Nat} (hc:X.calm=true) (h:PGs X es t)
  (hn:(assignEach es X.env).length=n:=by rfl) (hst:(assignEach es X.env).findIdx? (·.1)=none:=by rfl):PG X (.Tuple es k pos) (gTup X.K n t):=by
 intro pins s σ H v u Q I r hw
 obtain ⟨a,xs,e1,hq,hl,hw⟩:=hw
 subst e1
 cases r
 obtain ⟨its,rv,ht,hz⟩:=I.tuple hq
 refine assign_Tuple_tuple (I.ok.hd hc) ht (by simp [hn,← hl,rv.length]) hst fun h' hx=>?_
 have I1:Inv X pins σ H { s with heap:=h' }:=I.kept (t':=s.toks) fun b o e=>hx b o (Nat.ne_of_lt (Heap.lt_size e)) e
 exact h pins _ σ H xs _ Q I1 (by simpa using rv) hw
def gSub (to ti:TE) (t:TSet):TG:=fun v σ H Q=>to σ H fun o H1=>ti σ H1 fun i H2=>t o i v H2 fun H3=>Q σ H3
theorem pg_sub {o i:Expr} {to ti:TE} {t:TSet} (ho:PE X o to) (hi:PE X i ti) (hs:PSet X t)
  (ha:∀ v,assign (.Subscript o i pos) X.env v=(do
   let ov ← holding [v] (eval o X.env)
   let iv ← holding [v,ov] (eval i X.env)
   standAt pos
   holding [v,ov,iv] (setItem ov iv v)
   release [v,ov,iv] []):=by intro _; rfl):PG X (.Subscript o i pos) (gSub to ti t):=by
 intro pins s σ H v u Q I r h
 rw [ha]
 refine wpAny_bind (wpAny_holding (thn (ho pins s σ H _ I h) fun ov s1 ⟨x,H1,I1,r1,q1⟩=>?_))
 refine wpAny_bind (wpAny_holding (thn (hi pins s1 σ H1 _ I1 q1) fun iv s2 ⟨y,H2,I2,r2,q2⟩=>?_))
 refine wpAny_bind (wpAny_standAt (wpAny_bind (wpAny_holding (thn (hs pins s2 σ H2 x y v ov iv u _ I2 r1 r2 r q2) fun _ s3 ⟨H3,I3,q3⟩=>?_))))
 exact wpAny_release ⟨σ,H3,I3,q3⟩
def tAsg (te:TE) (g:TG):TS:=fun D σ H=>te σ H fun x H1=>g x σ H1 D.nx
theorem ps_asg {tg e:Expr} {te:TE} {g:TG} (he:PE X e te) (hg:PG X tg g) (hs:swapsWithSole [tg] e pos.line X.env=pure false:=by rfl) (hw:swappedStores [tg] e X.env=pure none:=by rfl)
  (h1:(assignEach [tg] X.env).map (·.2)=[assign tg X.env]:=by rfl):PS X (.Assign [tg] e pos) (tAsg te g):=by
 intro pins s σ H D I h
 refine wpAny_Assign_stores (thn (he pins s σ H _ I h) fun v s1 ⟨x,H1,I1,r1,q1⟩=>?_) hs hw
 rw [h1]
 exact thn (hg pins s1 σ H1 x v _ I1 r1 q1) fun _ s2 q=>q
theorem ps_set {i:Nat} {x:Str} {e:Expr} {te:TE} {pos':Pos} (hN:X.N.Nodup) (hi:X.N[i]?=some x) (hx:Loc X.env.scope x) (he:PE X e te) (hs:swapsWith e (some (.Name x pos')) pos.line X.env=pure false:=by rfl) (hf:X.fn x=true∨X.env.scope.names.lookup x=some .local:=by first | exact .inl rfl | exact .inr rfl | assumption) :
  PS X (.Assign [.Name x pos'] e pos) (tAsg te (gName i)):=by
 intro pins s σ H D I h
 refine wpAny_Assign_Name (thn (he pins s σ H _ I h) fun v s1 ⟨y,H1,I1,r1,q1⟩=>?_) hs
 exact store_ok I1 hN hi hx r1 (fun s2 I2=>⟨_,H1,I2,q1⟩) hf
def tPar (i j:Nat) (ta:TA):TS:=fun D σ H=>ta σ H fun vs H1=>∃ v w,vs=[v,w]∧D.nx ((σ.set i (some v)).set j (some w)) H1
theorem ps_par {i j:Nat} {x y:Str} {a b:Expr} {ta:TA} {px py pt:Pos} {kt k2 pt2} (hc:X.calm=true) (hN:X.N.Nodup) (hi:X.N[i]?=some x) (hj:X.N[j]?=some y) (hij:i≠j)
  (hx:X.env.scope.names.lookup x=some .local) (hy:X.env.scope.names.lookup y=some .local) (ha:PA X [a,b] ta)
  (hw:swappedStores [.Tuple [.Name x px,.Name y py] kt pt] (.Tuple [a,b] k2 pt2) X.env=pure (some [x,y]))
  (hs:swapsWithSole [.Tuple [.Name x px,.Name y py] kt pt] (.Tuple [a,b] k2 pt2) pos.line X.env=pure false:=by rfl) :
  PS X (.Assign [.Tuple [.Name x px,.Name y py] kt pt] (.Tuple [a,b] k2 pt2) pos) (tPar i j ta):=by
 intro pins s σ H D I h
 rw [exec_Assign_arm]
 refine wpAny_bind (wpAny_standAt ?_)
 rw [hs]
 refine wpAny_bind (wpAny_pure ?_)
 rw [if_neg (by decide)]
 refine wpAny_bind (Tuple_ (thn (ha _ pins s σ H _ I h) fun us s1 ⟨vs,H1,I1,r1,q1⟩=>?_))
 obtain ⟨v,w,e1,q1⟩:=q1
 subst e1
 obtain ⟨u1,u2,rfl,rv,rw'⟩:∃ u1 u2,us=[u1,u2]∧RelV v u1∧RelV w u2:=by
  cases r1 with
  | cons p q =>
   cases q with
   | cons p' q' =>
    cases q'
    exact ⟨_,_,rfl,p,p'⟩
 refine wpAny_newObj_type ?_ (by show 2≤sizeLine; decide)
 have I2:Inv X pins σ H1 { s1 with heap:=s1.heap.push { cls:=.type "tuple", data:=.seq [u1,u2].toArray } }:=I1.kept (t':=s1.toks) fun b o e=>Heap.get?_push_of_some _ e
 rw [hw]
 refine wpAny_bind (wpAny_pure ?_)
 show wpAny (model X.prog X.w) X.A (do rule "assign.swapped-stores"; let items ← unpackItems (.ref s1.heap.objs.size) 2 none; assignInOrder [fun v=>bindName X.env y v,fun v=>bindName X.env x v] items.reverse; pure Flow.next) _ _ _
 refine wpAny_bind (wpAny_rule (wpAny_bind (unpackItems_tuple (items := #[u1,u2]) (I.ok.hd hc) (IsTup.new s1.heap _) fun h' hx'=>?_)))
 have I3:=I2.kept (h':=h') (t':=s1.toks) fun b o e=>hx' b o (Nat.ne_of_lt (Heap.lt_size e)) e
 show wpAny _ _ (assignInOrder [fun v=>bindName X.env y v,fun v=>bindName X.env x v] [u2,u1] >>= fun _=>pure Flow.next) _ _ _
 refine wpAny_bind (assignInOrder_cons (wpAny_bindName (store_ok I3 hN hj (.inl hy) rw' (fun s2 I4=>?_) (.inr hy))))
 refine assignInOrder_cons (wpAny_bindName (store_ok I4 hN hi (.inl hx) rv (fun s3 I5=>assignInOrder_nil (wpAny_pure ?_)) (.inr hx)))
 rw [List.set_comm _ _ (Ne.symm hij)] at I5
 exact ⟨_,H1,I5,q1⟩
def tAug (i:Nat) (te:TE) (ti:TIp):TS:=fun D σ H=>∃ x,σ[i]?=some (some x)∧te σ H fun y H1=>ti x y H1 fun z H2=>D.nx (σ.set i (some z)) H2
theorem ps_aug {i:Nat} {x:Str} {e:Expr} {te:TE} {op:Operator} {ti:TIp} {pos':Pos} (hN:X.N.Nodup) (hi:X.N[i]?=some x) (hx:Loc X.env.scope x) (he:PE X e te) (ho:PIp X op ti) (hf:X.fn x=true∨X.env.scope.names.lookup x=some .local:=by first | exact .inl rfl | exact .inr rfl | assumption) :
  PS X (.AugAssign (.Name x pos') op e pos) (tAug i te ti):=by
 intro pins s σ H D I h
 obtain ⟨v,e1,h⟩:=h
 obtain ⟨m,hn,hl⟩:=I.loc
 have vis:Vis X.env.scope x:=by rcases hx with k | k; exact .inl k; exact .inr (.inl k)
 obtain ⟨u,r,l⟩:=hl i x v hi e1 vis
 refine wpAny_AugAssign_Name ?_
 have go:wpAny (model X.prog X.w) X.A (eval e X.env) (fun w s₂=>wpAny (model X.prog X.w) X.A (inplaceOp op u w) (fun r s₃=>wpAny (model X.prog X.w) X.A (storeName X.env x r) (fun _=>SP X pins D .next) X.xe s₃) X.xe s₂) X.xe s:=by
  refine thn (he pins s σ H _ I h) fun w s1 ⟨y,H1,I1,r1,q1⟩=>?_
  refine thn (ho pins s1 σ H1 v y u w _ I1 r r1 q1) fun z s2 ⟨zv,H2,I2,r2,q2⟩=>?_
  exact store_ok I2 hN hi hx r2 (fun s3 I3=>⟨_,H2,I3,q2⟩) hf
 rcases l with ⟨hk,hm⟩ | ⟨hk,c,hc,hcell⟩
 ·exact wpAny_loadName_local I.ok.kind hk hn hm go
 ·rcases hk with hk | hk
  ·exact wpAny_loadName_cell I.ok.kind hk hc hcell go
  ·rcases hx with k | k
   ·have:X.env.scope.names.lookup x=some .free:=hk
    rw [k] at this; cases this
   ·have:X.env.scope.names.lookup x=some .free:=hk
    rw [k] at this; cases this
def ipI (f:Int→Int→Int):TIp:=fun x y H Q=>∃ i j,x=.int i∧y=.int j∧Q (.int (f i j)) H
theorem ip_add:PIp X .Add (ipI fun i j=>i + j):=by
 intro pins s σ H x y v u Q I r1 r2 h
 obtain ⟨i,j,e1,e2,q⟩:=h
 subst e1; subst e2
 obtain ⟨t,rfl⟩:=r1
 obtain ⟨t',rfl⟩:=r2
 exact iadd_int ⟨.int _,H,I.tok _,⟨_,rfl⟩,q⟩
end
section
variable {X:Cx} {pos:Pos}
def tWhile (c:TT) (tb:TS):TS:=fun D σ H=>∃ W:Nat→St→Hp→Prop,(∃ m,W m σ H)∧∀ m σ H,W m σ H →
 c σ H fun b H1=>if b=true then ∃ N:St→Hp→Prop,(∀ σ' H',N σ' H'→∃ m',m' < m∧W m' σ' H')∧tb { D with nx:=N,ct:=N,bk:=D.nx } σ H1 else D.nx σ H1
theorem ps_while {c:Expr} {body:List Stmt} {tc:TT} {tb:TS} (hp:PassesOwn (model X.prog X.w) X.A X.env X.xe) (hc:PT X c tc) (hb:PSs X body tb):PS X (.While c body [] pos) (tWhile tc tb):=by
 intro pins s σ H D I h
 obtain ⟨W,⟨m0,w0⟩,turn⟩:=h
 refine wpAny_While (codeAny_whileLoop (fun n s'=>∃ σ' H',Inv X pins σ' H' s'∧W n σ' H') ?_ m0 ⟨σ,H,I,w0⟩)
 rintro n s1 ⟨σ1,H1,I1,w1⟩
 refine wpAny_passesOwn hp (thn (hc pins s1 σ1 H1 _ I1 (turn n σ1 H1 w1)) fun b s2 ⟨H2,I2,q2⟩=>?_)
 cases b with
 | true =>
  obtain ⟨N,hN,q2⟩:=q2
  rw [if_pos rfl]
  refine wpAny_passesOwn hp (thn (hb pins s2 σ1 H2 _ I2 q2) fun f s3 q3=>?_)
  cases f with
  | next =>
   obtain ⟨σ3,H3,I3,n3⟩:=q3
   obtain ⟨m',hm,w3⟩:=hN σ3 H3 n3
   exact ⟨m',hm,σ3,H3,I3,w3⟩
  | cont =>
   obtain ⟨σ3,H3,I3,n3⟩:=q3
   obtain ⟨m',hm,w3⟩:=hN σ3 H3 n3
   exact ⟨m',hm,σ3,H3,I3,w3⟩
  | brk=>exact q3
  | ret v=>exact q3
 | false =>
  rw [if_neg Bool.false_ne_true]
  exact wpAny_execs_nil ⟨σ1,H2,I2,q2⟩
end
structure It where
 go:Nat→Hp→Prop
 yld:Nat→Hp→V→Hp→Prop
 stop:Nat→Hp→Prop
def FpOk (X:Cx) (pins:List (Addr×Obj)) (H:Hp) (b:Addr):Prop :=
 H b=none∧b≠X.env.locals∧b ∉ X.fs∧(b∈X.ex∨X.s₀.heap.objs.size≤b)∧(∀ x c,X.env.cells.lookup x=some c→c≠b)∧∀ p∈X.pn ++ pins,p.1≠b
theorem Inv.fpOk {X:Cx} {pins:List (Addr×Obj)} {σ:St} {H H':Hp} {s:Shared} {b:Addr} (I:Inv X pins σ H s) (hb:s.heap.objs.size≤b) (hn:H' b=none):FpOk X pins H' b:=by
 refine ⟨hn,Nat.ne_of_gt (Nat.lt_of_lt_of_le I.lt hb),I.nofs hb,.inr (Nat.le_trans I.sz hb),fun x c e z=>?_,fun p hp z=>?_⟩
 ·obtain ⟨v,q⟩:=I.cell x c e
  exact absurd (Nat.lt_of_lt_of_le q.lt (by rw [z]; exact hb)) (Nat.lt_irrefl _)
 ·exact absurd (Nat.lt_of_lt_of_le (Heap.lt_size (I.pin p hp).1) (by rw [z]; exact hb)) (Nat.lt_irrefl _)
structure Turn (P:Program) (w:World) (K:PySem.W.Frag) (tg:Expr) (J:It) (fp:List Addr) (it:Addr) (tn:Nat→Heap→Prop):Prop where
 mem:it∈fp
 obj:∀ i h,tn i h→∀ b∈fp,∃ o,h.get? b=some o∧∀ v,o.data≠.cell v
 keep:∀ i h h',tn i h→(∀ b∈fp,∀ o,h.get? b=some o→h'.get? b=some o)→tn i h'
 item:∀ (X:Cx),X.prog=P→X.w=w→X.K=K→X.calm=true→∀ (i:Nat) (pins:List (Addr×Obj)) (s:Shared) (σ:St) (H:Hp) (E:Value→Shared→Prop),Inv X pins σ H s→(∀ b∈fp,FpOk X pins H b)→tn i s.heap→J.go i H →
  wpAny (model P w) X.A (pyNext (.ref it)) (fun r s1=>∃ u,r=some u ∧
   wpAny (model P w) X.A (letOwnedTupleGo tg (.ref it) u) (fun _ s2=>∃ x H',Inv X pins σ H' s2∧RelV x u∧J.yld i H x H'∧tn (i + 1) s2.heap∧∀ b∈fp,H' b=none) E s1) E s
 done:∀ (X:Cx),X.prog=P→X.w=w→X.K=K→X.calm=true→∀ (i:Nat) (pins:List (Addr×Obj)) (s:Shared) (σ:St) (H:Hp) (E:Value→Shared→Prop),Inv X pins σ H s→(∀ b∈fp,FpOk X pins H b)→tn i s.heap→J.stop i H →
  wpAny (model P w) X.A (pyNext (.ref it)) (fun r s1=>r=none∧Inv X pins σ H s1) E s
 self:∀ (A:Around) (i:Nat) (s:Shared) (Q:Value→Shared→Prop) (E:Value→Shared→Prop),tn i s.heap→Q (.ref it) s→wpAny (model P w) A (pyIter (.ref it)) Q E s
abbrev TI:=St→Hp→(It→Hp→Prop)→Prop
def PIE (X:Cx) (pins:List (Addr×Obj)) (σ:St) (tg:Expr) (R:It→Hp→Prop) (itv:Value) (s2:Shared):Prop :=
 ∃ (it:Addr) (fp:List Addr) (tn:Nat→Heap→Prop) (J:It) (H':Hp),itv=.ref it∧Inv X pins σ H' s2∧Turn X.prog X.w X.K tg J fp it tn∧tn 0 s2.heap∧(∀ b∈fp,FpOk X pins H' b)∧R J H'
def PI (X:Cx) (tg iter:Expr) (wi:TI):Prop :=
 ∀ (pins:List (Addr×Obj)) (s:Shared) (σ:St) (H:Hp) (R:It→Hp→Prop),Inv X pins σ H s→wi σ H R →
  wpAny (model X.prog X.w) X.A (eval iter X.env) (fun v s1=>wpAny (model X.prog X.w) X.A (pyIter v) (PIE X pins σ tg R) X.xe s1) X.xe s
theorem go_of {M : Model} {A : Around} {E : Value → Shared → Prop} {s : Shared} {tg : Expr} {it : Addr} {u : Value} {o : Obj} {n : String} {vs : Array Value} {Q : Unit → Shared → Prop} (ho : s.heap.get? it = some o) (hc : o.cls = .type n) (hd : o.data = .fields vs)
    (hn : ["enumerate", "zip", "dict_itemiterator", "dict_reverseitemiterator", "odict_iterator", "itertools.zip_longest", "itertools.pairwise"].contains n = false) (hQ : Q () s) : wpAny M A (letOwnedTupleGo tg (.ref it) u) Q E s := by
  unfold letOwnedTupleGo
  cases tg <;> first
    | exact wpAny_pure hQ
    | (cases u <;> first
        | exact wpAny_pure hQ
        | (refine wpAny_bind (wpAny_load ho ?_)
           rw [hc, hd]
           show wpAny M A (if (["enumerate", "zip", "dict_itemiterator", "dict_reverseitemiterator", "odict_iterator", "itertools.zip_longest", "itertools.pairwise"].contains n && vs[0]? == some (rawInt _)) = true then _ else _) Q E s
           rw [if_neg (by intro h; rw [hn, Bool.false_and] at h; cases h)]
           exact wpAny_pure hQ))
def Itl (K:PySem.W.Frag) (a:Addr):It :=
 ⟨fun i H=>∃ xs x,SqL K H a xs∧xs[i]?=some x,fun i H x H'=>H'=H∧∀ xs,SqL K H a xs→xs[i]?=some x,fun i H=>∃ xs,SqL K H a xs∧xs.length≤i⟩
def Itt (K:PySem.W.Frag) (a:Addr):It :=
 ⟨fun i H=>∃ xs x,SqT K H a xs∧xs[i]?=some x,fun i H x H'=>H'=H∧∀ xs,SqT K H a xs→xs[i]?=some x,fun i H=>∃ xs,SqT K H a xs∧xs.length≤i⟩
def Itr (lo:Int) (n:Nat):It:=⟨fun i _=>i < n,fun i H x H'=>H'=H∧x=.int (lo + i),fun i _=>n≤i⟩
theorem turn_list {P:Program} {w:World} {K:PySem.W.Frag} {tg:Expr} (a it:Addr):Turn P w K tg (Itl K a) [it] it (fun i h=>h.IsListIter it a i) where
 mem:=by simp
 obj:=fun i h st b hb=>by
  have e:b=it:=by simpa using hb
  subst e
  obtain ⟨o,e,c,d⟩:=st
  exact ⟨o,e,fun v z=>by rw [d] at z; cases z⟩
 keep:=fun i h h' st k=>st.at fun o e=>k it (by simp) o e
 item:=by
  intro X hP hw hK hc i pins s σ H E I hf st hg
  subst hP hw hK
  obtain ⟨xs,x,hq,hx⟩:=hg
  obtain ⟨its,rv,p,hz⟩:=I.list hq
  obtain ⟨u,hu,ru⟩:=rv.get hx
  obtain ⟨f0,f1,f2,f3,f4,f5⟩:=hf it (by simp)
  refine wpAny_pyNext_list_item st p.isList (x:=u) (by simpa using hu) fun h' st' sb=>?_
  have I1:Inv X pins σ H { s with heap:=h' }:=I.turned (t':=s.toks) (fun b o hb e=>(sb.2 b hb).trans e) f0 f1 f3 f4 f5
  obtain ⟨o,e,c,d⟩:=id st'
  exact ⟨u,rfl,go_of (s:={ s with heap:=h' }) e c d (by decide) ⟨x,H,I1,ru,⟨rfl,fun ys hy=>by rw [I.list_inj hy hq]; exact hx⟩,st',fun b hb=>(hf b hb).1⟩⟩
 done:=by
  intro X hP hw hK hc i pins s σ H E I hf st hg
  subst hP hw hK
  obtain ⟨xs,hq,hx⟩:=hg
  obtain ⟨its,rv,p,hz⟩:=I.list hq
  obtain ⟨f0,f1,f2,f3,f4,f5⟩:=hf it (by simp)
  have hl:=rv.length
  exact wpAny_pyNext_list_end (I.ok.hd hc) st p.isList (by simp; omega) fun h' eb=>⟨rfl,I.turned (t':=s.toks) (fun b o hb e=>eb b o hb e) f0 f1 f3 f4 f5⟩
 self:=fun _ _ _ _ _ st h=>wpAny_pyIter_listiter st h
theorem turn_tuple {P:Program} {w:World} {K:PySem.W.Frag} {tg:Expr} (a it:Addr):Turn P w K tg (Itt K a) [it] it (fun i h=>h.IsTupleIter it a i) where
 mem:=by simp
 obj:=fun i h st b hb=>by
  have e:b=it:=by simpa using hb
  subst e
  obtain ⟨o,e,c,d⟩:=st
  exact ⟨o,e,fun v z=>by rw [d] at z; cases z⟩
 keep:=fun i h h' st k=>st.at fun o e=>k it (by simp) o e
 item:=by
  intro X hP hw hK hc i pins s σ H E I hf st hg
  subst hP hw hK
  obtain ⟨xs,x,hq,hx⟩:=hg
  obtain ⟨its,rv,p,hz⟩:=I.tuple hq
  obtain ⟨u,hu,ru⟩:=rv.get hx
  obtain ⟨f0,f1,f2,f3,f4,f5⟩:=hf it (by simp)
  refine wpAny_pyNext_tuple_item st (show s.heap.IsTuple a its.toArray from p) (x:=u) (by simpa using hu) fun h' st' sb=>?_
  have I1:Inv X pins σ H { s with heap:=h' }:=I.turned (t':=s.toks) (fun b o hb e=>(sb.2 b hb).trans e) f0 f1 f3 f4 f5
  obtain ⟨o,e,c,d⟩:=id st'
  exact ⟨u,rfl,go_of (s:={ s with heap:=h' }) e c d (by decide) ⟨x,H,I1,ru,⟨rfl,fun ys hy=>by rw [I.tuple_inj hy hq]; exact hx⟩,st',fun b hb=>(hf b hb).1⟩⟩
 done:=by
  intro X hP hw hK hc i pins s σ H E I hf st hg
  subst hP hw hK
  obtain ⟨xs,hq,hx⟩:=hg
  obtain ⟨its,rv,p,hz⟩:=I.tuple hq
  obtain ⟨f0,f1,f2,f3,f4,f5⟩:=hf it (by simp)
  have hl:=rv.length
  exact wpAny_pyNext_tuple_end (I.ok.hd hc) st (show s.heap.IsTuple a its.toArray from p) (by simp; omega) fun h' eb=>⟨rfl,I.turned (t':=s.toks) (fun b o hb e=>eb b o hb e) f0 f1 f3 f4 f5⟩
 self:=fun _ _ _ _ _ st h=>wpAny_pyIter_tupleiter st h
theorem turn_range {P:Program} {w:World} {K:PySem.W.Frag} {tg:Expr} (it:Addr) (lo:Int) (n:Nat):Turn P w K tg (Itr lo n) [it] it (fun i h=>IsRangeIter h it (lo + (i:Nat) * 1) ((n:Int) - (i:Nat)) 1) where
 mem:=by simp
 obj:=fun i h st b hb=>by
  have e:b=it:=by simpa using hb
  subst e
  exact ⟨_,st,fun v z=>by
   have z':Data.fields _=Data.cell v:=z
   cases z'⟩
 keep:=fun i h h' st k=>k it (by simp) _ st
 item:=by
  intro X hP hw hK hc i pins s σ H E I hf st hg
  subst hP hw hK
  obtain ⟨f0,f1,f2,f3,f4,f5⟩:=hf it (by simp)
  have W:=Walks.range (prog:=X.prog) (w:=X.w) (I.ok.hd hc) it lo 1 n
  refine W.item i s _ _ hg st fun v h' tk hv st' kk=>?_
  obtain ⟨t,rfl⟩:=hv
  have I1:Inv X pins σ H { s with heap:=h',toks:=tk }:=I.turned (fun b o hb e=>kk b o (by simpa using hb) e) f0 f1 f3 f4 f5
  refine ⟨_,rfl,go_of (s:={ s with heap:=h',toks:=tk }) (n := "range_iterator") st' rfl rfl (by decide) ⟨.int (lo + i),H,I1,⟨t,?_⟩,⟨rfl,rfl⟩,st',fun b hb=>(hf b hb).1⟩⟩
  rw [Int.mul_one]
 done:=by
  intro X hP hw hK hc i pins s σ H E I hf st hg
  subst hP hw hK
  obtain ⟨f0,f1,f2,f3,f4,f5⟩:=hf it (by simp)
  exact wpAny_pyNext_range_end (I.ok.hd hc) st (by have:n≤i:=hg; omega) fun h' eb=>⟨rfl,I.turned (t':=s.toks) (fun b o hb e=>eb b o hb e) f0 f1 f3 f4 f5⟩
 self:=fun _ _ _ _ _ st h=>wpAny_pyIter_rangeiter st h
end L2
namespace L2
open PySem PySem.Spec PyProof.Rows
section
variable {X:Cx} {tg:Expr}
def iList (K:PySem.W.Frag) (tl:TE):TI:=fun σ H R=>tl σ H fun x H1=>∃ a,x=.ref a∧(∃ xs,SqL K H1 a xs)∧R (Itl K a) H1
def iTup (K:PySem.W.Frag) (tl:TE):TI:=fun σ H R=>tl σ H fun x H1=>∃ a,x=.ref a∧(∃ xs,SqT K H1 a xs)∧R (Itt K a) H1
theorem pi_list {l:Expr} {tl:TE} (hl:PE X l tl):PI X tg l (iList X.K tl):=by
 intro pins s σ H R I h
 refine thn (hl pins s σ H _ I h) fun v s1 ⟨x,H1,I1,r1,q1⟩=>?_
 obtain ⟨a,e,⟨xs,hq⟩,q⟩:=q1
 subst e
 cases r1
 obtain ⟨its,rv,p,hz⟩:=I1.list hq
 refine wpAny_pyIter_list p.isList ?_
 refine ⟨s1.heap.objs.size,[s1.heap.objs.size],_,_,H1,rfl,I1.kept (t':=s1.toks) fun b o e=>Heap.get?_push_of_some _ e,turn_list a _,⟨_,Heap.get?_push_size _ rfl,rfl,rfl⟩,fun b hb=>?_,q⟩
 have e:b=s1.heap.objs.size:=by simpa using hb
 subst e
 exact I1.fpOk (Nat.le_refl _) (I1.hok.fresh (Nat.le_refl _))
theorem pi_tup {l:Expr} {tl:TE} (hl:PE X l tl):PI X tg l (iTup X.K tl):=by
 intro pins s σ H R I h
 refine thn (hl pins s σ H _ I h) fun v s1 ⟨x,H1,I1,r1,q1⟩=>?_
 obtain ⟨a,e,⟨xs,hq⟩,q⟩:=q1
 subst e
 cases r1
 obtain ⟨its,rv,p,hz⟩:=I1.tuple hq
 refine wpAny_pyIter_tuple (show s1.heap.IsTuple a its.toArray from p) ?_
 refine ⟨s1.heap.objs.size,[s1.heap.objs.size],_,_,H1,rfl,I1.kept (t':=s1.toks) fun b o e=>Heap.get?_push_of_some _ e,turn_tuple a _,⟨_,Heap.get?_push_size _ rfl,rfl,rfl⟩,fun b hb=>?_,q⟩
 have e:b=s1.heap.objs.size:=by simpa using hb
 subst e
 exact I1.fpOk (Nat.le_refl _) (I1.hok.fresh (Nat.le_refl _))
theorem range_it {pins:List (Addr×Obj)} {σ:St} {H:Hp} {s:Shared} {R:It→Hp→Prop} {E:Value→Shared→Prop} {lo hi:Int} {t u v:Tok} {tk:Nat} (I:Inv X pins σ H s) (h1 : -(2 ^ 62)≤lo) (h2:lo < 2 ^ 62) (h3 : -(2 ^ 62)≤hi) (h4:hi < 2 ^ 62)
  (q:R (Itr lo (hi - lo).toNat) H):wpAny (model X.prog X.w) X.A (pyIter (.ref s.heap.objs.size)) (PIE X pins σ tg R) E { s with heap:=s.heap.push { cls:=.type "range", data:=.fields #[.int lo t,.int hi u,.int 1 v] },toks:=tk }:=by
 refine wpAny_pyIter_range (IsRange.new ..) (small_one h1 h2 h3 h4) ?_
 have I1:Inv X pins σ H { s with heap:=s.heap.push { cls:=.type "range", data:=.fields #[.int lo t,.int hi u,.int 1 v] },toks:=tk }:=I.kept fun b o e=>Heap.get?_push_of_some _ e
 refine ⟨(s.heap.push { cls:=.type "range", data:=.fields #[.int lo t,.int hi u,.int 1 v] }).objs.size,[(s.heap.push { cls:=.type "range", data:=.fields #[.int lo t,.int hi u,.int 1 v] }).objs.size],_,_,H,rfl,
  I1.kept (t':=tk) fun b o e=>Heap.get?_push_of_some _ e,turn_range _ lo (hi - lo).toNat,?_,fun b hb=>?_,q⟩
 ·have e1:lo + ((0:Nat):Int) * 1=lo:=by simp
  have e2:(((hi - lo).toNat:Nat):Int) - ((0:Nat):Int)=Builtin.Range.rangeSize lo hi 1:=by rw [rangeSize_one]; split <;> omega
  show IsRangeIter _ _ (lo + ((0:Nat):Int) * 1) ((((hi - lo).toNat:Nat):Int) - ((0:Nat):Int)) 1
  rw [e1,e2]
  exact Heap.get?_push_size _ rfl
 ·have e:b=(s.heap.push { cls:=.type "range", data:=.fields #[.int lo t,.int hi u,.int 1 v] }).objs.size:=by simpa using hb
  subst e
  exact I1.fpOk (Nat.le_refl _) (I1.hok.fresh (Nat.le_refl _))
def iRng1 (ta:TA):TI:=fun σ H R=>ta σ H fun vs H1=>∃ j:Int,vs=[.int j] ∧ -(2 ^ 62)≤j∧j < 2 ^ 62∧R (Itr 0 j.toNat) H1
def iRng2 (ta:TA):TI:=fun σ H R=>ta σ H fun vs H1=>∃ i j:Int,vs=[.int i,.int j]∧(-(2 ^ 62)≤i∧i < 2 ^ 62 ∧ -(2 ^ 62)≤j∧j < 2 ^ 62)∧R (Itr i (j - i).toNat) H1
theorem pi_range1 {a:Expr} {ta:TA} {p pos:Pos} (hg:Gl X "range") (hm:X.mg "range" = none) (ha:PA X [a] ta) (hs:starEach [a] X.env=[(false,eval a X.env)]:=by rfl):PI X tg (.Call (.Name "range" p) [a] [] pos) (iRng1 ta):=by
 intro pins s σ H R I h
 refine Call_ (ld_blt I hg hm boot_range (PyProof.Rows.callWith_type1 (thn (ha pos pins s σ H _ I h) fun us s1 ⟨vs,H1,I1,r1,q1⟩=>?_) hs rfl))
 obtain ⟨j,e,q1,q2,q⟩:=q1
 subst e
 cases r1 with
 | cons r rr =>
  cases rr
  obtain ⟨t,rfl⟩:=r
  exact call_range_1 (range_it I1 (by omega) (by omega) q1 q2 (by simpa using q))
theorem pi_range2 {a b:Expr} {ta:TA} {p pos:Pos} (hg:Gl X "range") (hm:X.mg "range" = none) (ha:PA X [a,b] ta) (hs:starEach [a,b] X.env=[(false,eval a X.env),(false,eval b X.env)]:=by rfl) (hs2:starEach [b] X.env=[(false,eval b X.env)]:=by rfl) :
  PI X tg (.Call (.Name "range" p) [a,b] [] pos) (iRng2 ta):=by
 intro pins s σ H R I h
 refine Call_ (ld_blt I hg hm boot_range (PyProof.Rows.callWith_type1 (thn (ha pos pins s σ H _ I h) fun us s1 ⟨vs,H1,I1,r1,q1⟩=>?_) (by rw [hs,hs2]) (by rw [hs2]; rfl)))
 obtain ⟨i,j,e,⟨q1,q2,q3,q4⟩,q⟩:=q1
 subst e
 cases r1 with
 | cons r rr =>
  cases rr with
  | cons r' rr =>
   cases rr
   obtain ⟨t,rfl⟩:=r
   obtain ⟨t',rfl⟩:=r'
   exact call_range_2 (range_it I1 q1 q2 q3 q4 q)
def tFor (wi:TI) (g:TG) (tb:TS):TS:=fun D σ H=>wi σ H fun J H1=>∃ W:Nat→Nat→St→Hp→Prop,(∃ m,W 0 m σ H1)∧∀ i m σ H,W i m σ H →
 (J.stop i H∧D.nx σ H)∨(J.go i H∧∃ N:St→Hp→Prop,(∀ σ' H',N σ' H'→∃ m',m' < m∧W (i + 1) m' σ' H')∧∀ x H',J.yld i H x H'→g x σ H' fun σ2 H2=>tb { D with nx:=N,ct:=N,bk:=D.nx } σ2 H2)
def pinsAt (fp:List Addr) (h:Heap):List (Addr×Obj):=fp.filterMap fun b=>(h.get? b).map fun o=>(b,o)
theorem mem_pinsAt {fp:List Addr} {h:Heap} {b:Addr} {o:Obj} (hb:b∈fp) (e:h.get? b=some o):(b,o)∈pinsAt fp h:=List.mem_filterMap.mpr ⟨b,hb,by rw [e]; rfl⟩
theorem of_pinsAt {fp:List Addr} {h:Heap} {p:Addr×Obj} (hp:p∈pinsAt fp h):p.1∈fp∧h.get? p.1=some p.2:=by
 obtain ⟨b,hb,e⟩:=List.mem_filterMap.mp hp
 cases q:h.get? b with
 | none=>rw [q] at e; cases e
 | some o =>
  rw [q] at e
  have e':(b,o)=p:=Option.some.inj e
  subst e'
  exact ⟨hb,q⟩
theorem Inv.pinned {pins:List (Addr×Obj)} {σ:St} {H:Hp} {s:Shared} {fp:List Addr} (I:Inv X pins σ H s) (hf:∀ b∈fp,FpOk X pins H b) (ho:∀ b∈fp,∃ o,s.heap.get? b=some o∧∀ v,o.data≠.cell v):Inv X (pins ++ pinsAt fp s.heap) σ H s :=
 I.pins_of fun p hp=>(List.mem_append.mp hp).elim (fun z=>I.pin p (List.mem_append_right _ z)) fun z=>by
  obtain ⟨hb,e⟩:=of_pinsAt z
  obtain ⟨f0,f1,f2,_⟩:=hf p.1 hb
  obtain ⟨o,e',d⟩:=ho p.1 hb
  rw [e] at e'; cases e'
  exact ⟨e,f0,f1,f2,d⟩
theorem Inv.unpinned {pins pl:List (Addr×Obj)} {σ:St} {H:Hp} {s:Shared} (I:Inv X (pins ++ pl) σ H s):Inv X pins σ H s:=I.pins_of fun p hp=>I.pin p (List.mem_append_right _ (List.mem_append_left _ hp))
theorem ps_for {iter:Expr} {body:List Stmt} {wi:TI} {g:TG} {tb:TS} {pos:Pos} (hp:PassesOwn (model X.prog X.w) X.A X.env X.xe) (hc:X.calm=true) (hi:PI X tg iter wi) (hg:PG X tg g) (hb:PSs X body tb)
  (hs:∀ x,foldedSetIterable iter X.env x=pure x:=by intro _; rfl):PS X (.For tg iter body [] pos) (tFor wi g tb):=by
 intro pins s σ H D I h
 refine wpAny_For (thn (hi pins s σ H _ I h) fun v s1 h1=>thn h1 fun itv s2 h2=>?_) hs
 obtain ⟨it,fp,tn,J,H2,e,I2,T,st2,f2,W,⟨m0,w0⟩,turn⟩:=h2
 subst e
 have stat:∀ {H':Hp},(∀ b∈fp,H' b=none)→∀ b∈fp,FpOk X pins H' b:=fun hn b hb=>⟨hn b hb,(f2 b hb).2⟩
 refine codeAny_forLoop_any (fun n s'=>∃ i σ' H',Inv X pins σ' H' s'∧tn i s'.heap∧(∀ b∈fp,H' b=none)∧W i n σ' H') ?_ m0 ⟨0,σ,H2,I2,st2,fun b hb=>(f2 b hb).1,w0⟩
 rintro n s3 ⟨i,σ3,H3,I3,st3,fr3,w3⟩
 rcases turn i n σ3 H3 w3 with ⟨stop,qn⟩ | ⟨go,N,hN,step⟩
 ·refine wpAny_passesOwn hp (thn (T.done X rfl rfl rfl hc i pins s3 σ3 H3 X.xe I3 (stat fr3) st3 stop) fun r s4 ⟨hr,I4⟩=>?_)
  subst hr
  exact wpAny_execs_nil ⟨σ3,H3,I4,qn⟩
 ·refine wpAny_passesOwn hp (thn (T.item X rfl rfl rfl hc i pins s3 σ3 H3 X.xe I3 (stat fr3) st3 go) fun r s4 ⟨u,hr,h4⟩=>?_)
  subst hr
  refine wpAny_passesOwn hp (thn h4 fun _ s5 ⟨x,H5,I5,r5,y5,st5,fr5⟩=>?_)
  have I5':=I5.pinned (stat fr5) (T.obj _ _ st5)
  refine wpAny_passesOwn hp (thn (hg _ s5 σ3 H5 x u _ I5' r5 (step x H5 y5)) fun _ s6 ⟨σ6,H6,I6,q6⟩=>?_)
  refine wpAny_passesOwn hp (thn (hb _ s6 σ6 H6 _ I6 q6) fun f s7 q7=>?_)
  have again:∀ {σ7:St} {H7:Hp},Inv X (pins ++ pinsAt fp s5.heap) σ7 H7 s7→N σ7 H7→∃ m,m < n∧∃ i σ' H',Inv X pins σ' H' s7∧tn i s7.heap∧(∀ b∈fp,H' b=none)∧W i m σ' H':=fun {σ7 H7} I7 n7=>by
   obtain ⟨m',hm,w7⟩:=hN σ7 H7 n7
   refine ⟨m',hm,i + 1,σ7,H7,I7.unpinned,T.keep _ _ _ st5 fun b hb o e=>(I7.pin (b,o) (List.mem_append_right _ (List.mem_append_right _ (mem_pinsAt hb e)))).1,fun b hb=>?_,w7⟩
   obtain ⟨o,e,d⟩:=T.obj _ _ st5 b hb
   exact (I7.pin (b,o) (List.mem_append_right _ (List.mem_append_right _ (mem_pinsAt hb e)))).2.1
  cases f with
  | next=>obtain ⟨σ7,H7,I7,n7⟩:=q7; exact again I7 n7
  | cont=>obtain ⟨σ7,H7,I7,n7⟩:=q7; exact again I7 n7
  | brk=>obtain ⟨σ7,H7,I7,q7⟩:=q7; exact ⟨σ7,H7,I7.unpinned,q7⟩
  | ret v=>obtain ⟨x7,σ7,H7,I7,r7,q7⟩:=q7; exact ⟨x7,σ7,H7,I7.unpinned,r7,q7⟩
end
end L2
namespace L2
open PySem PySem.Spec PyProof.Rows
abbrev R2:=V→V→Hp→VK→Prop
def OpR (X:Cx) (f:Value→Value→Sem Value) (r:R2):Prop :=
 ∀ (pins:List (Addr×Obj)) (s:Shared) (σ:St) (H:Hp) (x y:V) (v u:Value) (Q:VK),Inv X pins σ H s→RelV x v→RelV y u→r x y H Q →
  wpAny (model X.prog X.w) X.A (f v u) (EP X pins σ Q) X.xe s
def UnR (X:Cx) (f:Value→Sem Value) (r:V→Hp→VK→Prop):Prop :=
 ∀ (pins:List (Addr×Obj)) (s:Shared) (σ:St) (H:Hp) (x:V) (v:Value) (Q:VK),Inv X pins σ H s→RelV x v→r x H Q →
  wpAny (model X.prog X.w) X.A (f v) (EP X pins σ Q) X.xe s
def CallR (X:Cx) (f:Value) (r:List V→Hp→VK→Prop):Prop :=
 ∀ (pins:List (Addr×Obj)) (s:Shared) (σ:St) (H:Hp) (xs:List V) (us:List Value) (Q:VK),Inv X pins σ H s→Vals xs us→r xs H Q →
  wpAny (model X.prog X.w) X.A (call f us) (EP X pins σ Q) X.xe s
def TruR (X:Cx) (r:V→Hp→(Bool→Hp→Prop)→Prop):Prop :=
 ∀ (pins:List (Addr×Obj)) (s:Shared) (σ:St) (H:Hp) (x:V) (v:Value) (Q:Bool→Hp→Prop),Inv X pins σ H s→RelV x v→r x H Q →
  wpAny (model X.prog X.w) X.A (truthy v) (TP X pins σ Q) X.xe s
def tOp (r:R2) (ta tb:TE):TE:=fun σ H Q=>ta σ H fun x H1=>tb σ H1 fun y H2=>r x y H2 Q
def tUn (r:V→Hp→VK→Prop) (ta:TE):TE:=fun σ H Q=>ta σ H fun x H1=>r x H1 Q
def rI (C:Int→Int→Prop) (g:Int→Int→V):R2:=fun x y H Q=>∃ i j,x=.int i∧y=.int j∧C i j∧Q (g i j) H
def rI0 (g:Int→Int→V):R2:=fun x y H Q=>∃ i j,x=.int i∧y=.int j∧Q (g i j) H
def rU (g:Int→V):V→Hp→VK→Prop:=fun x H Q=>∃ i,x=.int i∧Q (g i) H
section
variable {X:Cx} {a b c:Expr} {ta tb tc:TE} {pos:Pos}
theorem binT (ha:PE X a ta) (hb:PE X b tb) {pins:List (Addr×Obj)} {s:Shared} {σ:St} {H:Hp} {R:V→V→Hp→Prop} (I:Inv X pins σ H s)
  (h:ta σ H fun x H1=>tb σ H1 fun y H2=>R x y H2) {Q:Value→Shared→Prop} {f:Value→Value→Sem Value}
  (hf:∀ v u s2 x y H2,Inv X pins σ H2 s2→RelV x v→RelV y u→R x y H2→wpAny (model X.prog X.w) X.A (f v u) Q X.xe s2) :
  wpAny (model X.prog X.w) X.A (eval a X.env) (fun v s₁=>wpAny (model X.prog X.w) X.A (eval b X.env) (fun u s₂=>wpAny (model X.prog X.w) X.A (f v u) Q X.xe s₂) X.xe s₁) X.xe s:=by
 refine thn (ha pins s σ H _ I h) fun v s1 ⟨x,H1,I1,r1,q1⟩=>?_
 refine thn (hb pins s1 σ H1 _ I1 q1) fun u s2 ⟨y,H2,I2,r2,q2⟩=>?_
 exact hf v u s2 x y H2 I2 r1 r2 q2
theorem pe_op {op:Operator} {r:R2} (ho:OpR X (binaryOp op) r) (ha:PE X a ta) (hb:PE X b tb):PE X (.BinOp a op b pos) (tOp r ta tb):=by
 intro pins s σ H Q I h
 exact wpAny_BinOp (binT ha hb I h fun v u s2 x y H2 I2 rx ry q=>ho pins s2 σ H2 x y v u Q I2 rx ry q)
theorem pe_un {op:UnaryOp} {r:V→Hp→VK→Prop} (ho:UnR X (unaryOp op) r) (ha:PE X a ta):PE X (.UnaryOp op a pos) (tUn r ta):=by
 intro pins s σ H Q I h
 exact UnaryOp_ (thn (ha pins s σ H _ I h) fun v s1 ⟨x,H1,I1,r1,q1⟩=>ho pins s1 σ H1 x v Q I1 r1 q1)
theorem opI {f:Value→Value→Sem Value} {C:Int→Int→Prop} {g:Int→Int→Int}
  (rule:∀ (i j:Int) (t u:Tok) (s:Shared) (Q:Value→Shared→Prop) (E:Value→Shared→Prop),C i j→Q (.int (g i j) s.toks) { s with toks:=s.toks + 1 }→wpAny (model X.prog X.w) X.A (f (.int i t) (.int j u)) Q E s) :
  OpR X f (rI C fun i j=>.int (g i j)):=by
 intro pins s σ H x y v u Q I rx ry h
 obtain ⟨i,j,rfl,rfl,hc,q⟩:=h
 obtain ⟨t,rfl⟩:=rx
 obtain ⟨t',rfl⟩:=ry
 exact rule i j t t' s _ _ hc ⟨.int (g i j),H,I.tok _,⟨_,rfl⟩,q⟩
theorem opI0 {f:Value→Value→Sem Value} {g:Int→Int→Int}
  (rule:∀ (i j:Int) (t u:Tok) (s:Shared) (Q:Value→Shared→Prop) (E:Value→Shared→Prop),Q (.int (g i j) s.toks) { s with toks:=s.toks + 1 }→wpAny (model X.prog X.w) X.A (f (.int i t) (.int j u)) Q E s) :
  OpR X f (rI0 fun i j=>.int (g i j)):=by
 intro pins s σ H x y v u Q I rx ry h
 obtain ⟨i,j,rfl,rfl,q⟩:=h
 obtain ⟨t,rfl⟩:=rx
 obtain ⟨t',rfl⟩:=ry
 exact rule i j t t' s _ _ ⟨.int (g i j),H,I.tok _,⟨_,rfl⟩,q⟩
theorem opB0 {f:Value→Value→Sem Value} {g:Int→Int→Bool}
  (rule:∀ (i j:Int) (t u:Tok) (s:Shared) (Q:Value→Shared→Prop) (E:Value→Shared→Prop),Q (.bool (g i j)) s→wpAny (model X.prog X.w) X.A (f (.int i t) (.int j u)) Q E s) :
  OpR X f (rI0 fun i j=>.bl (g i j)):=by
 intro pins s σ H x y v u Q I rx ry h
 obtain ⟨i,j,rfl,rfl,q⟩:=h
 obtain ⟨t,rfl⟩:=rx
 obtain ⟨t',rfl⟩:=ry
 exact rule i j t t' s _ _ ⟨.bl (g i j),H,I,rfl,q⟩
def CPow (i j:Int):Prop:=0≤j∧j≤1000000∧i.natAbs < 2 ^ 64
theorem op_add:OpR X (binaryOp .Add) (rI0 fun i j=>.int (i + j)):=opI0 fun _ _ _ _ _ _ _ q=>add_int q
theorem op_sub:OpR X (binaryOp .Sub) (rI0 fun i j=>.int (i - j)):=opI0 fun _ _ _ _ _ _ _ q=>sub_int q
theorem op_mod:OpR X (binaryOp .Mod) (rI (fun _ j=>0 < j) fun i j=>.int (i % j)):=opI fun i j _ _ _ _ _ hc q=>by
 have h1:(0:Int) < j:=hc
 exact mod_int' (by omega) (by rw [Int.fmod_eq_emod_of_nonneg i (by omega)]; exact q)
theorem op_pow:OpR X (binaryOp .Pow) (rI CPow fun i j=>.int (i ^ j.toNat)):=opI fun _ _ _ _ _ _ _ hc q=>pow_int_small hc.1 hc.2.1 hc.2.2 q
theorem unI {f:Value→Sem Value} {g:Int→Int}
  (rule:∀ (i:Int) (t:Tok) (s:Shared) (Q:Value→Shared→Prop) (E:Value→Shared→Prop),Q (.int (g i) s.toks) { s with toks:=s.toks + 1 }→wpAny (model X.prog X.w) X.A (f (.int i t)) Q E s) :
  UnR X f (rU fun i=>.int (g i)):=by
 intro pins s σ H x v Q I rx h
 obtain ⟨i,rfl,q⟩:=h
 obtain ⟨t,rfl⟩:=rx
 exact rule i t s _ _ ⟨.int (g i),H,I.tok _,⟨_,rfl⟩,q⟩
theorem un_neg:UnR X (unaryOp .USub) (rU fun i=>.int (-i)):=unI fun _ _ _ _ _ q=>neg_int q
end
section
variable {X:Cx} {a b c:Expr} {ta tb tc:TE} {pos:Pos}
theorem op_lt:OpR X (compareOp .Lt) (rI0 fun i j=>.bl (decide (i < j))):=opB0 fun _ _ _ _ _ _ _ q=>lt_int q
theorem op_le:OpR X (compareOp .LtE) (rI0 fun i j=>.bl (decide (i≤j))):=opB0 fun _ _ _ _ _ _ _ q=>le_int q
theorem op_gt:OpR X (compareOp .Gt) (rI0 fun i j=>.bl (decide (j < i))):=opB0 fun _ _ _ _ _ _ _ q=>gt_int q
theorem op_ge:OpR X (compareOp .GtE) (rI0 fun i j=>.bl (decide (j≤i))):=opB0 fun _ _ _ _ _ _ _ q=>ge_int q
theorem nomark (b:Expr) {op:CmpOp} (h:op≠.In:=by decide) (h2:op≠.NotIn:=by decide):behindInMarks op b=false:=by
 have e1:(op == CmpOp.In)=false:=by cases op <;> first | rfl | exact absurd rfl h
 have e2:(op == CmpOp.NotIn)=false:=by cases op <;> first | rfl | exact absurd rfl h2
 cases b <;> simp [behindInMarks,e1,e2]
theorem pe_cmpR {op:CmpOp} {r:R2} (ho:OpR X (compareOp op) r) (ha:PE X a ta) (hb:PE X b tb) (hm:behindInMarks op b=false):PE X (.Compare a [op] [b] pos) (tOp r ta tb):=by
 intro pins s σ H Q I h
 exact wpAny_Compare1 (binT ha hb I h fun v u s2 x y H2 I2 rx ry q=>ho pins s2 σ H2 x y v u Q I2 rx ry q) hm
def tTest (t:TE):TT:=fun σ H Q=>t σ H fun x H'=>∃ k,x=.bl k∧Q k H'
theorem pt_cmpR {op:CmpOp} {r:R2} (ho:OpR X (compareOp op) r) (ha:PE X a ta) (hb:PE X b tb) (hm:behindInMarks op b=false):PT X (.Compare a [op] [b] pos) (tTest (tOp r ta tb)):=by
 intro pins s σ H Q I h
 refine wpAny_isTrue_Compare1 (thn (ha pins s σ H _ I h) fun v s1 ⟨x,H1,I1,r1,q1⟩=>thn (hb pins s1 σ H1 _ I1 q1) fun u s2 ⟨y,H2,I2,r2,q2⟩ =>
  thn (ho pins s2 σ H2 x y v u _ I2 r1 r2 q2) fun c s3 ⟨z,H3,I3,r3,k,e,q3⟩=>?_) hm
 subst e
 cases r3
 exact wpAny_truthy_bool ⟨H3,I3,q3⟩
def TruV (K:PySem.W.Frag) (x:V) (H:Hp) (k:Bool):Prop :=
 match x with
 | .non=>k=false
 | .bl b=>k=b
 | .int i=>k=(i != 0)
 | .str y=>y.length≤sizeLine∧k=((y.length:Int) != 0)
 | .byt y=>y.size≤sizeLine∧k=((y.size:Int) != 0)
 | .ref p=>(∃ xs,SqL K H p xs∧k = !xs.isEmpty)∨(∃ xs,SqT K H p xs∧k = !xs.isEmpty)∨∃ kvs,H p=some (.dK kvs)∧k = !kvs.isEmpty
 | _=>False
theorem isEmpty_kv {κ:Type} {kvs:List (κ×V)} {vs:List (κ×Value)} (r:KV kvs vs):(!vs.isEmpty) = !kvs.isEmpty:=by
 cases r <;> rfl
theorem isEmpty_of {xs:List V} {its:List Value} (r:Vals xs its):(!its.toArray.isEmpty) = !xs.isEmpty:=by
 cases r <;> simp
theorem line63:(sizeLine:Nat) < 2 ^ 63:=by rw [sizeLine_eq]; decide
theorem tru_ok:TruR X (fun x H Q=>∃ k,TruV X.K x H k∧Q k H):=by
 intro pins s σ H x v Q I rx h
 obtain ⟨k,e,q⟩:=h
 have hl:=line63
 have hs:sizeLine=16777216:=sizeLine_eq
 cases x with
 | non =>
  cases rx
  have e':k=false:=e
  subst e'
  exact truthy_none ⟨H,I,q⟩
 | bl b =>
  cases rx
  have e':k=b:=e
  subst e'
  exact wpAny_truthy_bool ⟨H,I,q⟩
 | int i =>
  obtain ⟨t,rfl⟩:=rx
  have e':k=(i != 0):=e
  subst e'
  exact PySem.P.truthy_int ⟨H,I,q⟩
 | str y =>
  obtain ⟨t,rfl⟩:=rx
  obtain ⟨hy,e'⟩:y.length≤sizeLine∧k=((y.length:Int) != 0):=e
  subst e'
  exact PySem.P.truthy_str (by omega) ⟨H,I.tok _,q⟩
 | byt y =>
  obtain ⟨t,rfl⟩:=rx
  obtain ⟨hy,e'⟩:y.size≤sizeLine∧k=((y.size:Int) != 0):=e
  subst e'
  exact PySem.W.truthy_bytes (by omega) ⟨H,I.tok _,q⟩
 | ref p =>
  cases rx
  have e':(∃ xs,SqL X.K H p xs∧k = !xs.isEmpty)∨(∃ xs,SqT X.K H p xs∧k = !xs.isEmpty)∨∃ kvs,H p=some (.dK kvs)∧k = !kvs.isEmpty:=e
  rcases e' with ⟨xs,hx,e'⟩ | ⟨xs,hx,e'⟩ | ⟨kvs,hx,e'⟩
  ·subst e'
   obtain ⟨its,r,pl,hz⟩:=I.list hx
   have hlen:=r.length
   exact wpAny_truthy_list pl.isList (by simp only [List.size_toArray]; omega) ⟨H,I.tok _,by rw [isEmpty_of r]; exact q⟩
  ·subst e'
   obtain ⟨its,r,pl,hz⟩:=I.tuple hx
   have hlen:=r.length
   exact truthy_tuple pl (by simp only [List.size_toArray]; omega) ⟨H,I.tok _,by rw [isEmpty_of r]; exact q⟩
  ·subst e'
   obtain ⟨hz,hS,vs,r,m⟩:kvs.length≤sizeLine∧(p == sysModules)=false∧∃ vs,KV kvs vs∧s.heap.DictOf (mixKind X.prog X.w) p vs:=I.hok p _ hx
   have hlen:kvs.length=vs.length:=Paired.length r
   exact wpAny_truthy_dict hS m (by omega) ⟨H,I.tok _,by rw [isEmpty_kv r]; exact q⟩
 | _=>exact (show False from e).elim
theorem pt_truth (ha:PE X a ta) (he:∀ whole,isTrue a X.env whole=(do let v ← whole; standAt a.pos; holding [v] (truthy v))) :
  PT X a (fun σ H Q=>ta σ H fun x H'=>∃ k,TruV X.K x H' k∧Q k H'):=by
 intro pins s σ H Q I h
 exact isTrue_plain (thn (ha pins s σ H _ I h) fun v s1 ⟨x,H1,I1,r1,q1⟩=>tru_ok pins s1 σ H1 x v Q I1 r1 q1) (he _)
theorem vals1 {x:V} {us:List Value} (r:Vals [x] us):∃ u,us=[u]∧RelV x u:=by
 cases r with
 | cons r1 r2=>cases r2; exact ⟨_,rfl,r1⟩
theorem vals2 {x y:V} {us:List Value} (r:Vals [x,y] us):∃ u w',us=[u,w']∧RelV x u∧RelV y w':=by
 cases r with
 | cons r1 r2 =>
  cases r2 with
  | cons r3 r4=>cases r4; exact ⟨_,_,rfl,r1,r3⟩
theorem call_abs:CallR X (.builtin "abs") (fun xs H Q=>∃ i,xs=[.int i]∧Q (.int (if i < 0 then -i else i)) H):=by
 intro pins s σ H xs us Q I r h
 obtain ⟨i,rfl,q⟩:=h
 obtain ⟨u,rfl,t,rfl⟩:=vals1 r
 exact call_abs_int fun u tk=>⟨.int (if i < 0 then -i else i),H,I.tok _,⟨_,rfl⟩,q⟩
theorem call_int1:CallR X (.type "int") (fun xs H Q=>(∃ i,xs=[.int i]∧Q (.int i) H)∨∃ k,xs=[.bl k]∧Q (.int (if k then 1 else 0)) H):=by
 intro pins s σ H xs us Q I r h
 rcases h with ⟨i,rfl,q⟩ | ⟨k,rfl,q⟩
 ·obtain ⟨u,rfl,t,rfl⟩:=vals1 r
  exact call_int_int ⟨.int i,H,I,⟨_,rfl⟩,q⟩
 ·obtain ⟨u,rfl,r1⟩:=vals1 r
  cases r1
  exact call_int_bool ⟨.int (if k then 1 else 0),H,I.tok _,⟨_,rfl⟩,q⟩
end
end L2
namespace L2
open PySem PySem.Spec PyProof.Rows
structure ObjM (h:Heap) (x dx C:Addr) (mA:Str→Option Value):Prop where
 obj:h.get? x=some (PySem.W.instObj C dx)
 ns:h.Ns1 dx mA
 ne:dx≠x
theorem lookIn_ns {h:Heap} {dx:Addr} {mA:Str→Option Value} (n:h.Ns1 dx mA):∃ od,h.get? dx=some od∧∀ name,PySem.W.lookIn name od=some (mA name):=by
 obtain ⟨o,es,ep,ho,hd,hk,_,hm⟩:=n
 refine ⟨o,ho,fun name=>?_⟩
 have e:=hm name
 unfold nsFind findBy at e
 rw [← Array.find?_toList] at e
 unfold PySem.W.lookIn
 rw [hd]
 dsimp only
 split
 ·rename_i y q
  rw [q] at e
  exact congrArg some e
 ·rename_i q
  rw [q] at e
  have a:es.toList.any (·.refKey)=false:=by
   rw [List.any_eq_false]
   intro y hy
   obtain ⟨z,t,hkey⟩:=hk y (Array.mem_toList_iff.mp hy)
   simp [DictEntry.refKey,hkey]
  have a':¬ es.toList.any (·.refKey)=true:=by rw [a]; exact Bool.false_ne_true
  rw [if_neg a']
  exact congrArg some e
theorem ObjM.look {h:Heap} {x dx C:Addr} {mA:Str→Option Value} (I:ObjM h x dx C mA):∃ od,PySem.W.InstAt h x (PySem.W.instObj C dx) C (some od)∧∀ name,PySem.W.lookIn name od=some (mA name) :=
 let ⟨od,ho,hl⟩:=lookIn_ns I.ns
 ⟨od,⟨I.obj,rfl,rfl,ho⟩,hl⟩
section
variable {prog:Program} {w:World} {A:Around} {E:Value→Shared→Prop} {s:Shared} {K:PySem.W.Frag} {x dx C f:Addr} {mA:Str→Option Value} {name:Str} {v:Value}
end
theorem RelO.some_of {v:V} {o:Option Value} (r:RelO (some v) o):∃ u,o=some u∧RelV v u:=by
 cases o with
 | none=>exact (show False from r).elim
 | some u=>exact ⟨u,rfl,r⟩
section
variable {P:Program} {w:World} {H H':Hp} {h h':Heap} {a C dx:Addr} {fs fs':List (Str×V)}
theorem ins_get (hok:HOk P w H h) (e:H a=some (.ins C dx fs)):∃ mA,ObjM h a dx C mA∧(∀ f,RelO (fs.lookup f) (mA f))∧PySem.Within mA (fs.map (·.1))∧fs.length≤1000∧H dx=some (.own a):=by
 obtain ⟨d,z,ne,ob,mA,n,r,q⟩:=(show ObjOk P w H h a (.ins C dx fs) from hok a _ e)
 exact ⟨mA,⟨ob,n,ne⟩,r,q,z,d⟩
end
structure Cls (K:PySem.W.Frag) (C:Addr):Prop where
 pg:PySem.W.plainGet K C Str.empty=true
 hd:PySem.W.hasDictIn K C=true
 po:PySem.W.plainOver K C=true
 sa:PySem.W.findIn K (.ref C) "__setattr__" = some (some (.builtin "object.__setattr__"))
theorem Cls.get {K:PySem.W.Frag} {C:Addr} (c:Cls K C) (f:Str):PySem.W.plainGet K C f=true:=c.pg
section
variable {X:Cx} {pins:List (Addr×Obj)} {σ:St} {H:Hp} {s:Shared} {a C dx:Addr} {fs:List (Str×V)} {f:Str} {v:V} {A:Around} {E:Value→Shared→Prop}
end
section
variable {X:Cx} {o e value:Expr} {f:Str} {pos pos' tpos:Pos} {ta tv:TE}
end
section
variable {X:Cx} {pins:List (Addr×Obj)} {σ:St} {H:Hp} {s:Shared} {A:Around} {E:Value→Shared→Prop} {Q:Value→Shared→Prop} {c:Value} {b:Bool}
inductive TyOf (K:PySem.W.Frag) (H:Hp):V→Value→Prop where
 | non:TyOf K H .non (.type "NoneType")
 | bl (x:Bool):TyOf K H (.bl x) (.type "bool")
 | int (i:Int):TyOf K H (.int i) (.type "int")
 | str (x:Str):TyOf K H (.str x) (.type "str")
 | flt (x:UInt64):TyOf K H (.flt x) (.type "float")
 | lst {a:Addr} {xs:List V} (e:H a=some (.lst xs)):TyOf K H (.ref a) (.type "list")
 | frz {a:Addr} {o:Obj} {xs:List V} (e:H a=some (.frz o (.lst xs))):TyOf K H (.ref a) (.type "list")
 | tup {a:Addr} {xs:List V} (e:H a=some (.tup xs)):TyOf K H (.ref a) (.type "tuple")
 | dK {a:Addr} {kvs:List (Key×V)} (e:H a=some (.dK kvs)):TyOf K H (.ref a) (.type "dict")
 | dT {a:Addr} {kvs:List (List Key×V)} (e:H a=some (.dT kvs)):TyOf K H (.ref a) (.type "dict")
 | ins {a C dx:Addr} {fs:List (Str×V)} (e:H a=some (.ins C dx fs)) (cl:Cls K C) (ha:PySem.W.findIn K (.ref C) "__class__" = some (some (.builtin "object.__class__")))
   (hn:PySem.W.specialIn K (.builtin "object.__class__") "__get__" = some (some (.builtin "getset_descriptor.__get__"))) (htk:PySem.W.takesIn K (.builtin "object.__class__")=some true)
   (hm:PySem.W.mroIn K C (.type "object")=some true):TyOf K H (.ref a) (.ref C)
theorem isinst_ok {x:V} {u t:Value} (I:Inv X pins σ H s) (rx:RelV x u) (ty:TyOf X.K H x t) (e:PySem.W.kitOne X.K t c=some b) (h:∀ tk,Q (.bool b) { s with toks:=tk }) :
  wpAny (model X.prog X.w) A (call (.builtin "isinstance") [u,c]) Q E s:=by
 cases ty with
 | non=>cases (show u=Value.none from rx); exact PySem.W.kia_one PySem.W.kitx_none I.kIn True.intro e (fun z=>nomatch z) h
 | bl y=>cases (show u=Value.bool y from rx); exact PySem.W.kia_one PySem.W.kitx_bool I.kIn True.intro e (fun z=>nomatch z) h
 | int i=>obtain ⟨t,q⟩:=(show ∃ t,u=Value.int i t from rx); cases q; exact PySem.W.kia_one PySem.W.kitx_int I.kIn True.intro e (fun z=>nomatch z) h
 | str y=>obtain ⟨t,q⟩:=(show ∃ t,u=Value.str y t from rx); cases q; exact PySem.W.kia_one PySem.W.kitx_str I.kIn True.intro e (fun z=>nomatch z) h
 | flt y=>obtain ⟨t,q⟩:=(show ∃ t,u=Value.float y t from rx); cases q; exact PySem.W.kia_one PySem.W.kitx_float I.kIn True.intro e (fun z=>nomatch z) h
 | @lst a xs ea =>
  cases (show u=Value.ref a from rx)
  obtain ⟨_,_,n,_,h1⟩:=(show ObjOk X.prog X.w H s.heap a (.lst xs) from I.hok a _ ea)
  exact PySem.W.kia_one PySem.W.kitx_list I.kIn ⟨_,h1,rfl⟩ e (fun z=>nomatch z) h
 | @frz a ob xs ea =>
  cases (show u=Value.ref a from rx)
  obtain ⟨_,_,_,n,_,h1⟩:=(show ObjOk X.prog X.w H s.heap a (.frz ob (.lst xs)) from I.hok a _ ea)
  exact PySem.W.kia_one PySem.W.kitx_list I.kIn ⟨_,h1,rfl⟩ e (fun z=>nomatch z) h
 | @tup a xs ea =>
  cases (show u=Value.ref a from rx)
  obtain ⟨_,_,_,p⟩:=(show ObjOk X.prog X.w H s.heap a (.tup xs) from I.hok a _ ea)
  obtain ⟨o,h1,h2,_⟩:=p
  exact PySem.W.kia_one PySem.W.kitx_tuple I.kIn ⟨o,h1,h2⟩ e (fun z=>nomatch z) h
 | @dK a kvs ea =>
  cases (show u=Value.ref a from rx)
  obtain ⟨_,_,vs,_,p⟩:=(show ObjOk X.prog X.w H s.heap a (.dK kvs) from I.hok a _ ea)
  obtain ⟨o,es,ep,h1,h2,_⟩:=p
  exact PySem.W.kia_one PySem.W.kitx_dict I.kIn ⟨o,h1,h2.1⟩ e (fun z=>nomatch z) h
 | @dT a kvs ea =>
  cases (show u=Value.ref a from rx)
  obtain ⟨_,_,xs,_,o,es,ep,h1,h2,_⟩:=(show ObjOk X.prog X.w H s.heap a (.dT kvs) from I.hok a _ ea)
  exact PySem.W.kia_one PySem.W.kitx_dict I.kIn ⟨o,h1,h2.1⟩ e (fun z=>nomatch z) h
 | @ins a C dx fs ea cl ha hn htk hm =>
  cases (show u=Value.ref a from rx)
  obtain ⟨mA,O,_⟩:=ins_get I.hok ea
  obtain ⟨od,J,_⟩:=O.look
  exact PySem.W.kia_one (PySem.W.kitx_own (cl.get _) cl.hd ha hn htk hm) I.kIn J e (fun z=>nomatch z) h
end
end L2
namespace L2
open PySem PySem.Spec PyProof.Rows
structure Room (k:Nat) (A:Around):Prop where
 hd:A.handled=none
 dp:A.depth + 3 * k + 5 < recursionLimit
 un:A.units + 16 * k + 200 < cLine
theorem Room.mono {j k:Nat} {A:Around} (r:Room k A) (h:j≤k):Room j A:=⟨r.hd,by have:=r.dp; omega,by have:=r.un; omega⟩
theorem Room.deeper {k:Nat} {A:Around} (r:Room (k + 1) A) (env:Env):Room k (A.deeper env) :=
 ⟨r.hd,by have:=r.dp; show A.depth + 1 + 3 * k + 5 < _; omega,by have:=r.un; show A.units + 3 + 16 * k + 200 < _; omega⟩
theorem Room.depth {k:Nat} {A:Around} (r:Room k A):A.depth < recursionLimit:=by have:=r.dp; omega
theorem Room.units {k:Nat} {A:Around} (r:Room k A):A.units + 64 < cLine:=by have:=r.un; omega
def tNil:TA:=fun _ H Q=>Q [] H
def tCons (ta:TE) (tr:TA):TA:=fun σ H Q=>ta σ H fun x H1=>tr σ H1 fun xs H2=>Q (x :: xs) H2
section
variable {X:Cx} {e:Expr} {es:List Expr} {te:TE} {t:TA} {pos:Pos}
theorem pa_nil:PA X [] tNil:=fun _ _ _ _ H Q I h=>Calls.spliced_nil ⟨[],H,I,.nil,h⟩
theorem pa_cons (ha:PE X e te) (hr:PA X es t) (hs:starEach (e :: es) X.env=(false,eval e X.env) :: starEach es X.env:=by rfl):PA X (e :: es) (tCons te t):=by
 intro pos pins s σ H Q I h
 rw [hs]
 show wpAny _ _ (spliced ((false,eval e X.env) :: backTo pos (starEach es X.env))) _ _ s
 refine Calls.spliced_cons (thn (ha pins s σ H _ I h) fun u s1 ⟨x,H1,I1,r1,q1⟩=>?_)
 exact thn (hr pos pins s1 σ H1 _ I1 q1) fun us s2 ⟨xs,H2,I2,r2,q2⟩=>⟨x :: xs,H2,I2,.cons r1 r2,q2⟩
def tTup (t:TA):TE:=fun σ H Q=>t σ H fun xs H1=>xs.length≤sizeLine∧∀ p,H1 p=none→Q (.ref p) (upd H1 p (.tup xs))
def tLst (t:TA):TE:=fun σ H Q=>t σ H fun xs H1=>xs.length≤sizeLine∧∀ p,H1 p=none→Q (.ref p) (upd H1 p (.lst xs))
theorem pe_tup {x1} (h:PA X es t):PE X (.Tuple es x1 pos) (tTup t):=by
 intro pins s σ H Q I hq
 refine wpAny_Tuple_spliced (thn (h pos pins s σ H _ I hq) fun us s1 ⟨xs,H1,I1,r,z,q⟩=>⟨by rw [← r.length]; exact z,?_⟩)
 have hf:H1 s1.heap.objs.size=none:=I1.hok.fresh (Nat.le_refl _)
 refine ⟨.ref s1.heap.objs.size,upd H1 s1.heap.objs.size (.tup xs),I1.laid (t':=s1.toks) (fun b u e=>Heap.get?_push_of_some _ e) (Nat.le_refl _) ?_,rfl,q _ hf⟩
 exact ⟨z,us,r,⟨_,Heap.get?_push_size _ rfl,rfl,_,rfl⟩⟩
theorem pe_lst (h:PA X es t):PE X (.List es pos) (tLst t):=by
 intro pins s σ H Q I hq
 refine wpAny_List_spliced (thn (h pos pins s σ H _ I hq) fun us s1 ⟨xs,H1,I1,r,z,q⟩=>⟨by rw [← r.length]; exact z,?_⟩)
 have hf:H1 s1.heap.objs.size=none:=I1.hok.fresh (Nat.le_refl _)
 refine ⟨.ref s1.heap.objs.size,upd H1 s1.heap.objs.size (.lst xs),I1.laid (t':=s1.toks) (fun b u e=>Heap.get?_push_of_some _ e) (Nat.le_refl _) ?_,rfl,q _ hf⟩
 exact ⟨z,us,0,r,Heap.get?_push_size _ rfl⟩
end
abbrev Sp:=List V→Hp→VK→XK→Prop
abbrev CXT:=List Env→Hp→Shared→XK→Value→Shared→Prop
structure Env0 (P:Program) (w:World) (K:PySem.W.Frag) (mg:Str→Option Value) (base:Heap) (A:Around) (outer:List Env) (s:Shared) (H:Hp):Prop where
 frames:A.frames=some outer
 mod:Mod K mg base
 bs:∀ b o,base.get? b=some o→s.heap.get? b=some o∧H b=none
 bsz:base.objs.size≤s.heap.objs.size
 funs:s.heap.FunFrames base outer
 frf:∀ b∈frs outer,H b=none
 hok:HOk P w H s.heap
 bare:AllBare s.gens
def CE (outer:List Env) (P:Program) (w:World) (H:Hp) (s:Shared) (Q:VK) (u:Value) (s':Shared):Prop :=
 ∃ v H',s'.os=s.os∧AllBare s'.gens∧Un (frs outer) [] H H' s.heap s'.heap∧HOk P w H' s'.heap∧RelV v u∧Q v H'
def CR (CX:CXT) (outer:List Env) (P:Program) (w:World) (H:Hp) (s:Shared) (Q:VK) (E:XK) (r:Result) (s':Shared):Prop :=
 match r with
 | .ok (.ret u)=>CE outer P w H s Q u s'
 | .ok _=>False
 | .error e=>CX outer H s E e s'
structure FnOk (P:Program) (w:World) (K:PySem.W.Frag) (mg:Str→Option Value) (base:Heap) (CX:CXT) (k:Nat) (f:Addr) (fd:FuncData) (ps:List Str) (sp:Sp):Prop where
 len:∀ vs H Q E,sp vs H Q E→vs.length=ps.length
 run:∀ (A:Around) (outer:List Env) (s:Shared) (H:Hp) (args:Args) (us:List Value) (vs:List V) (Q:VK) (E:XK),Room k A→Env0 P w K mg base A outer s H→BindsTo s fd args (ps.zip us)→Vals vs us→sp vs H Q E →
  codeAny (model P w) A (.call (.ref f) args) (CR CX outer P w H s Q E) s
theorem FnOk.imp {P:Program} {w:World} {K:PySem.W.Frag} {mg:Str→Option Value} {base:Heap} {CX:CXT} {k:Nat} {f:Addr} {fd:FuncData} {ps:List Str} {sp sp':Sp} (F:FnOk P w K mg base CX k f fd ps sp)
  (h:∀ vs H Q E,sp' vs H Q E→sp vs H Q E):FnOk P w K mg base CX k f fd ps sp' :=
 ⟨fun vs H Q E q=>F.len vs H Q E (h _ _ _ _ q),fun A outer s H args us vs Q E hr he hb hv hs=>F.run A outer s H args us vs Q E hr he hb hv (h _ _ _ _ hs)⟩
section
variable {X:Cx} {pins:List (Addr×Obj)} {σ:St} {H:Hp} {s s':Shared}
theorem Inv.env0 (I:Inv X pins σ H s):Env0 X.prog X.w X.K X.mg X.base X.A X.stack s H :=
 ⟨I.ok.frames,I.ok.mod,I.bs,Nat.le_trans I.ok.bsz I.sz,I.stack,I.stkFree,I.hok,I.bare⟩
theorem Inv.after {Q:VK} {u:Value} (I:Inv X pins σ H s) (h:CE X.stack X.prog X.w H s Q u s'):EP X pins σ Q u s':=by
 obtain ⟨v,H',os,bare,un,hok,r,q⟩:=h
 obtain ⟨hh,g,d,t,os'⟩:=s'
 obtain rfl:os'=s.os:=os
 exact ⟨v,H',I.call (h':=hh) (g':=g) (d':=d) (t':=t) (ch:=[]) un hok bare (fun b z=>absurd z (by simp)),r,q⟩
end
def tCall (sp:Sp) (dvs:List V) (E:XK) (t:TA):TE:=fun σ H Q=>t σ H fun vs H1=>sp (vs ++ dvs) H1 Q E
def Binds (K:PySem.W.Frag) (fd:FuncData) (ps:List Str) (ds:List Value):Prop :=
 ∀ (s:Shared) (us:List Value),K.In s.heap→(us ++ ds).length=ps.length→BindsTo s fd ⟨us,[]⟩ (ps.zip (us ++ ds))
theorem Binds.all {K:PySem.W.Frag} {fd:FuncData} {ps:List Str} (h:∀ us:List Value,us.length=ps.length→bindArgs fd ⟨us,[]⟩=pure (ps.zip us)):Binds K fd ps []:=fun s us _ hl=>by
 rw [List.append_nil] at hl ⊢
 exact .of_eq (h us hl)
def Passes (CX:CXT) (X:Cx) (E:XK):Prop:=∀ (pins:List (Addr×Obj)) (σ:St) (H:Hp) (s:Shared) (e:Value) (s':Shared),Inv X pins σ H s→CX X.stack H s E e s'→X.xe e s'
section
variable {X:Cx} {CX:CXT} {k:Nat} {f C:Addr} {fd:FuncData} {ps:List Str} {sp:Sp} {dvs:List V} {ds:List Value} {E:XK} {x m:Str} {p pos apos:Pos} {e o:Expr} {es:List Expr} {ta:TE} {t:TA}
theorem run_fn {pins:List (Addr×Obj)} {σ:St} {H:Hp} {s:Shared} {Q:VK} {us:List Value} {vs:List V} (F:FnOk X.prog X.w X.K X.mg X.base CX k f fd ps sp) (hr:Room k X.A) (hb:Binds X.K fd ps ds) (hd:Vals dvs ds) (hx:Passes CX X E)
  (I:Inv X pins σ H s) (r:Vals vs us) (h:sp (vs ++ dvs) H Q E):wpAny (model X.prog X.w) X.A (call (.ref f) us) (EP X pins σ Q) X.xe s:=by
 have r2:Vals (vs ++ dvs) (us ++ ds):=r.append hd
 have hl:(us ++ ds).length=ps.length:=by rw [← r2.length]; exact F.len _ _ _ _ h
 refine wpAny_call (codeAny_mono (F.run X.A X.stack s H ⟨us,[]⟩ (us ++ ds) (vs ++ dvs) Q E hr I.env0 (hb s us I.kIn hl) r2 h) fun r s' hq=>?_)
 cases r with
 | error e=>exact hx pins σ H s e s' I hq
 | ok fl =>
  cases fl with
  | ret u=>exact I.after hq
  | next=>exact False.elim hq
  | brk=>exact False.elim hq
  | cont=>exact False.elim hq
theorem pe_call (F:FnOk X.prog X.w X.K X.mg X.base CX k f fd ps sp) (hr:Room k X.A) (hg:Gl X x) (hm:X.mg x=some (.ref f)) (hk:PySem.W.keepIn X.K (.ref f)=true) (hb:Binds X.K fd ps ds) (hd:Vals dvs ds) (hx:Passes CX X E)
  (ha:PA X (e :: es) t) (hdb:(x == ("__debug__" : Str))=false:=by decide) (he:starEach (e :: es) X.env=(false,eval e X.env) :: starEach es X.env:=by rfl) (hpl:(backTo pos (starEach es X.env)).any (·.1)=false:=by rfl) :
  PE X (.Call (.Name x p) (e :: es) [] pos) (tCall sp dvs E t):=by
 intro pins s σ H Q I h
 refine wpAny_Call_Name_kw (ld_glob I hg hm ?_ hdb)
 refine PySem.W.callWith_K (h₀:=X.base) I.ok.mod.kin hk (thn (ha pos pins s σ H _ I h) fun us s1 ⟨vs,H1,I1,r,q⟩=>⟨I1.kIn,?_⟩) he hpl
 exact run_fn F hr hb hd hx I1 r q
end
section
variable {X:Cx} {CX:CXT} {k:Nat} {f C:Addr} {fd:FuncData} {ps ks:List Str} {sp:Sp} {E:XK} {x m:Str} {p pos apos kpos:Pos} {e o:Expr} {es:List Expr} {kws:List Keyword} {te ta:TE} {t tk:TA} {nm:Option Str}
variable {g:List Value→List Value→List Value} {gV:List V→List V→List V}
end
structure FnScope (N P:List Str) (sc:Scope):Prop where
 kind:sc.kind=.function
 co:sc.isCoroutine=false
 gen:sc.isGenerator=false
 nd:N.Nodup
 pre:N.take P.length=P
 par:∀ x∈P,sc.names.lookup x=some .local∨sc.names.lookup x=some .cell
 nofree:∀ y∈sc.names,y.2≠.free
theorem bindL_out {kindOf:Str→Option NameKind} {x:Str}:∀ {binds:List (Str×Value)} {m:Str→Option Value},(∀ v,(x,v) ∉ binds)→bindL kindOf binds m x=m x
 | [],_,_=>rfl
 | (n,v) :: r,m,h=>by
  unfold bindL
  rw [bindL_out fun w hw=>h w (List.mem_cons_of_mem _ hw)]
  split
  ·have:x≠n:=by rintro rfl; exact h v List.mem_cons_self
   simp [this]
  ·rfl
theorem bindC_out {kindOf:Str→Option NameKind} {x:Str}:∀ {binds:List (Str×Value)} {m:Str→Option Value},(∀ v,(x,v) ∉ binds)→bindC kindOf binds m x=m x
 | [],_,_=>rfl
 | (n,v) :: r,m,h=>by
  unfold bindC
  rw [bindC_out fun w hw=>h w (List.mem_cons_of_mem _ hw)]
  split
  ·rfl
  ·have:x≠n:=by rintro rfl; exact h v List.mem_cons_self
   simp [this]
theorem bindL_get {kindOf:Str→Option NameKind} {x:Str} {v:Value}:∀ {P:List Str} {vs:List Value} {i:Nat} {m:Str→Option Value},P.Nodup→P[i]?=some x→vs[i]?=some v→kindOf x=some .local →
  bindL kindOf (P.zip vs) m x=some v
 | [],_,_,_,_,h,_,_=>by simp at h
 | _ :: _,[],_,_,_,_,h,_=>by simp at h
 | p :: P,w :: vs,0,m,nd,h1,h2,hk=>by
  simp at h1 h2; subst h1; subst h2
  show bindL kindOf ((p,w) :: P.zip vs) m p=_
  unfold bindL
  rw [bindL_out fun v hv=>(List.nodup_cons.mp nd).1 (List.of_mem_zip hv).1,if_pos hk]
  simp
 | p :: P,w :: vs,i + 1,m,nd,h1,h2,hk=>by
  show bindL kindOf ((p,w) :: P.zip vs) m x=_
  unfold bindL
  exact bindL_get (i:=i) (List.nodup_cons.mp nd).2 (by simpa using h1) (by simpa using h2) hk
theorem bindC_get {kindOf:Str→Option NameKind} {x:Str} {v:Value}:∀ {P:List Str} {vs:List Value} {i:Nat} {m:Str→Option Value},P.Nodup→P[i]?=some x→vs[i]?=some v→kindOf x≠some .local →
  bindC kindOf (P.zip vs) m x=some v
 | [],_,_,_,_,h,_,_=>by simp at h
 | _ :: _,[],_,_,_,_,h,_=>by simp at h
 | p :: P,w :: vs,0,m,nd,h1,h2,hk=>by
  simp at h1 h2; subst h1; subst h2
  show bindC kindOf ((p,w) :: P.zip vs) m p=_
  unfold bindC
  rw [bindC_out fun v hv=>(List.nodup_cons.mp nd).1 (List.of_mem_zip hv).1,if_neg hk]
  simp
 | p :: P,w :: vs,i + 1,m,nd,h1,h2,hk=>by
  show bindC kindOf ((p,w) :: P.zip vs) m x=_
  unfold bindC
  exact bindC_get (i:=i) (List.nodup_cons.mp nd).2 (by simpa using h1) (by simpa using h2) hk
def start (N:List Str) (vs:List V):St:=vs.map some ++ List.replicate (N.length - vs.length) none
def cxOf (CX:CXT) (P:Program) (w:World) (K:PySem.W.Frag) (mg:Str→Option Value) (base:Heap) (N:List Str) (qual:Str) (scope:Scope) (f:Addr) (cd:Value) (A:Around) (outer:List Env) (s:Shared) (H:Hp) (E:XK):Cx where
 prog:=P
 w:=w
 K:=K
 mg:=mg
 base:=base
 A:=A.deeper (envOfC qual scope s.heap.objs.size f cd)
 N:=N
 s₀:=s
 H₀:=H
 env:=envOfC qual scope s.heap.objs.size f cd
 outer:=outer
 stack:=envOfC qual scope s.heap.objs.size f cd :: outer
 ex:=[]
 calm:=true
 fn:=fun _=>true
 pn:=[]
 xe:=fun e s'=>wpAny (model P w) (A.deeper (envOfC qual scope s.heap.objs.size f cd)) (leaving (envOfC qual scope s.heap.objs.size f cd) e) (fun _ s''=>CX outer H s E e s'') (fun e' s''=>CX outer H s E e' s'') s'
theorem cell_has {sc:Scope} {n:Nat} {x:Str} (h:sc.names.lookup x=some .cell):∃ c,(cellsFrom n sc.names []).lookup x=some c:=by
 have q:=PySem.W.cellsFrom_some sc.names n [] (.inl h)
 exact Option.isSome_iff_exists.mp q
theorem inv_start {CX:CXT} {P:Program} {w:World} {K:PySem.W.Frag} {mg:Str→Option Value} {base:Heap} {N ps:List Str} {qual:Str} {scope:Scope} {f:Addr} {cd:Value} {A:Around} {outer:List Env} {s s1:Shared} {H:Hp} {E:XK} {us:List Value} {vs:List V}
  (S:FnScope N ps scope) (hd:A.handled=none) (e0:Env0 P w K mg base A outer s H) (hl:vs.length=ps.length) (r:Vals vs us)
  (x:InCallC s s.heap.objs.size (bindL (envOfC qual scope s.heap.objs.size f cd).kindOf (ps.zip us) fun _=>none) (cellsFrom (s.heap.objs.size + 1) scope.names []) (bindC (envOfC qual scope s.heap.objs.size f cd).kindOf (ps.zip us) fun _=>none) s1) :
  Inv (cxOf CX P w K mg base N qual scope f cd A outer s H E) [] (start N vs) H s1:=by
 have hpl:ps.length≤N.length:=by have:=congrArg List.length S.pre; rw [List.length_take] at this; omega
 obtain ⟨h1,tk,rfl,hk⟩:=x.done
 have noA:∀ b:Addr,b ∉ (cxOf CX P w K mg base N qual scope f cd A outer s H E).ex:=fun b z=>absurd (show b∈([]:List Addr) from z) (by simp)
 refine ⟨⟨e0.mod,S.kind,rfl,rfl,Nat.le_refl _,fun y z c h1 h2=>?_,fun y hy=>?_,fun y c _ h=>?_,fun _=>hd,Around.frames_deeper e0.frames,.inr ⟨rfl,rfl⟩,fun b z=>absurd z (noA b),e0.bs,e0.bsz,fun b _ _=>noA b,fun b z=>absurd z (noA b),e0.funs,e0.frf⟩,
  rfl,e0.bare,Un.kept hk,⟨_,x.toInCall.ns,fun i y v h1 h2 h3=>?_⟩,fun y c h=>⟨_,x.cell y c h⟩,e0.hok.fresh (Nat.le_refl _),fun y c h=>?_,fun p hp=>absurd (show p∈([]:List (Addr×Obj)) from hp) (by simp),e0.hok.kept hk,?_⟩
 ·exact name_of_addr x.apart (PySem.mem_of_lookup h1) (PySem.mem_of_lookup h2)
 ·have hy:scope.names.lookup y=some .cell∨scope.names.lookup y=some .free:=hy
  rcases hy with hy | hy
  ·exact cell_has hy
  ·exact absurd rfl (S.nofree _ (PySem.mem_of_lookup hy))
 ·exact Nat.le_of_lt (x.above y c (PySem.mem_of_lookup h))
 ·have hi:i < vs.length:=by
   unfold start at h2
   by_cases hi:i < vs.length
   ·exact hi
   ·rw [List.getElem?_append_right (by simpa using hi)] at h2
    rw [List.getElem?_replicate] at h2
    split at h2 <;> cases h2
  have ha:vs[i]?=some v:=by
   unfold start at h2
   rw [List.getElem?_append_left (by simpa using hi),List.getElem?_map] at h2
   cases e:vs[i]? with
   | none=>rw [e] at h2; cases h2
   | some a=>rw [e] at h2; cases h2; rfl
  obtain ⟨u,hu,rv⟩:=r.get ha
  have hp:ps[i]?=some y:=by
   rw [← S.pre,List.getElem?_take_of_lt (by omega)]; exact h1
  have ndP:ps.Nodup:=by rw [← S.pre]; exact S.nd.sublist (List.take_sublist _ _)
  refine ⟨u,rv,?_⟩
  rcases S.par y (List.mem_of_getElem? hp) with k | k
  ·exact .inl ⟨k,bindL_get ndP hp hu k⟩
  ·obtain ⟨c,e⟩:=cell_has (n:=s.heap.objs.size + 1) k
   refine .inr ⟨.inl k,c,e,?_⟩
   have q:=x.cell y c e
   rw [bindC_get ndP hp hu (by show scope.names.lookup y≠_; rw [k]; decide)] at q
   exact q
 ·exact e0.hok.fresh (Nat.le_of_lt (x.above y c (PySem.mem_of_lookup h)))
 ·unfold start
  show _=N.length
  rw [List.length_append,List.length_map,List.length_replicate]
  omega
theorem fn_of {CX:CXT} {P:Program} {w:World} {K:PySem.W.Frag} {mg:Str→Option Value} {base:Heap} {k:Nat} {f:Addr} {name qual:Str} {params:Arguments} {body:List Stmt} {scope:Scope} {dV kV doc pm cdv ct oc:Value} {an od:Option Addr}
  {osl:Array (Option Value)} {N ps:List Str} {sp:Sp} (lk:K.lookup f=some ⟨oc,od,.func (PySem.W.fnOf name qual params body scope dV kV doc pm an cdv ct),osl⟩) (hcd:PySem.W.codeIn K cdv qual=true) (S:FnScope N ps scope)
  (len:∀ vs H Q E,sp vs H Q E→vs.length=ps.length)
  (hbody:∀ (A:Around) (outer:List Env) (s:Shared) (H:Hp) (vs:List V) (Q:VK) (E:XK),Room k (A.deeper (envOfC qual scope s.heap.objs.size f cdv))→sp vs H Q E →
   ∃ t,PSs (cxOf CX P w K mg base N qual scope f cdv A outer s H E) body t∧t { nx:=fun _ H'=>Q .non H',rt:=Q } (start N vs) H) :
  FnOk P w K mg base CX (k + 1) f (PySem.W.fnOf name qual params body scope dV kV doc pm an cdv ct) ps sp:=by
 refine ⟨len,fun A outer s H args us vs Q E hr e0 hb r hsp=>?_⟩
 have hl:=len _ _ _ _ hsp
 have KX:K.In s.heap:=e0.mod.kin.keeps fun b o e=>(e0.bs b o e).1
 have lim:s.heap.NoLimit:=e0.mod.nolimit.keeps fun b o e=>(e0.bs b o e).1
 have hkind:∀ y∈ps.zip us,scope.names.lookup y.1=some .local∨(scope.names.lookup y.1=some .cell∧((cellsFrom (s.heap.objs.size + 1) scope.names []).lookup y.1).isSome=true):=fun ⟨n,v⟩ hy=>by
  rcases S.par n (List.of_mem_zip hy).1 with q | q
  ·exact .inl q
  ·exact .inr ⟨q,PySem.W.cellsFrom_some _ _ _ (.inl q)⟩
 refine codeAny_call_function hr.depth (KX _ _ lk) rfl S.co S.gen rfl (PySem.W.codeRec_of KX hcd) (hb _ _ _ _ ?_)
 refine wpAny_newFunctionEnv_cells S.kind hkind fun env he s1 x=>?_
 subst he
 refine ⟨lim.keeps x.toInCall.keep,codeAny_func ?_⟩
 obtain ⟨t,ht,hq⟩:=hbody A outer s H vs Q E (hr.deeper _) hsp
 have I:Inv (cxOf CX P w K mg base N qual scope f cdv A outer s H E) [] (start N vs) H s1:=inv_start S hr.hd e0 hl r x
 refine wpAny_mono (ht [] s1 (start N vs) H _ I hq) (fun fl s' hs=>?_) fun e s' hs=>hs
 have fin:∀ {σ':St} {H':Hp} {v:V} {u:Value},Inv (cxOf CX P w K mg base N qual scope f cdv A outer s H E) [] σ' H' s'→RelV v u→Q v H'→CE outer P w H s Q u s' :=
  fun {σ' H' v u} J rv q=>⟨v,H',J.os,J.bare,J.base,J.hok,rv,q⟩
 cases fl with
 | ret u =>
  obtain ⟨v,σ',H',J,rv,q⟩:=hs
  exact fin J rv q
 | next =>
  obtain ⟨σ',H',J,q⟩:=hs
  exact fin (v:=V.non) (u:=Value.none) J rfl q
 | brk =>
  obtain ⟨_,_,_,q⟩:=hs
  exact False.elim q
 | cont =>
  obtain ⟨_,_,_,q⟩:=hs
  exact False.elim q
end L2
namespace L2
open PySem PySem.Spec PyProof.Rows
section
variable {X:Cx} {x:Str} {p pos:Pos} {e:Expr} {es:List Expr} {t:TA} {id T:String} {r:List V→Hp→VK→Prop}
def tCB (r:List V→Hp→VK→Prop) (t:TA):TE:=fun σ H Q=>t σ H fun vs H1=>r vs H1 Q
theorem pe_callB (hc:CallR X (.builtin id) r) (hg:Gl X x) (hm:X.mg x=none) (hv:bootBuiltins x=some (.builtin id)) (ha:PA X (e :: es) t) (hn:x ≠ "__name__" := by decide) (hdb:(x == ("__debug__" : Str))=false:=by decide)
  (he:starEach (e :: es) X.env=(false,eval e X.env) :: starEach es X.env:=by rfl) (hpl:(backTo pos (starEach es X.env)).any (·.1)=false:=by rfl):PE X (.Call (.Name x p) (e :: es) [] pos) (tCB r t):=by
 intro pins s σ H Q I h
 refine wpAny_Call_Name_kw (ld_blt I hg hm hv ?_ hn hdb)
 exact PyProof.Rows.callWith_builtin1 (thn (ha pos pins s σ H _ I h) fun us s1 ⟨vs,H1,I1,r1,q1⟩=>hc pins s1 σ H1 vs us Q I1 r1 q1) he hpl
theorem pe_callTy (hc:CallR X (.type T) r) (hg:Gl X x) (hm:X.mg x=none) (hv:bootBuiltins x=some (.type T)) (ha:PA X (e :: es) t) (hn:x ≠ "__name__" := by decide) (hdb:(x == ("__debug__" : Str))=false:=by decide)
  (he:starEach (e :: es) X.env=(false,eval e X.env) :: starEach es X.env:=by rfl) (hpl:(backTo pos (starEach es X.env)).any (·.1)=false:=by rfl):PE X (.Call (.Name x p) (e :: es) [] pos) (tCB r t):=by
 intro pins s σ H Q I h
 refine wpAny_Call_Name_kw (ld_blt I hg hm hv ?_ hn hdb)
 exact PyProof.Rows.callWith_type1 (thn (ha pos pins s σ H _ I h) fun us s1 ⟨vs,H1,I1,r1,q1⟩=>hc pins s1 σ H1 vs us Q I1 r1 q1) he hpl
end
end L2
namespace HT
open PySem PyProof.Rows
section
open PySem.SeqAt
open PySem.AutoSeq1 (wpAny_loadPart')
open PySem.MeetsSeq PySem.MeetsSeq2 PySem.MeetsSeq3
end
section
variable {prog:Program} {w:World} {A:Around} {E:Value→Shared→Prop} {s:Shared}
def sIx (n d:Nat):Option Int→Nat
 | none=>d
 | some v=>if v < 0 then (v + (n:Int)).toNat else min v.toNat n
end
end HT
namespace L2
open PySem PySem.Spec PyProof.Rows
abbrev TO:=St→Hp→(Option Int→Hp→Prop)→Prop
def PO (X:Cx) (e:Option Expr) (t:TO):Prop :=
 ∀ (pins:List (Addr×Obj)) (s:Shared) (σ:St) (H:Hp) (Q:Option Int→Hp→Prop),Inv X pins σ H s→t σ H Q →
  wpAny (model X.prog X.w) X.A (evalPart e X.env) (fun u s'=>∃ o H',Inv X pins σ H' s'∧IsPart u o∧Q o H') X.xe s
def tNoPart:TO:=fun _ H Q=>Q none H
def tPart (t:TE):TO:=fun σ H Q=>t σ H fun x H1=>∃ i,x=.int i∧Q (some i) H1
theorem intsAre_of {ns:List Int}:∀ {us:List Value},Vals (ns.map V.int) us→IntsAre us ns:=by
 induction ns with
 | nil=>intro us r; rw [List.map_nil] at r; cases r; exact .nil
 | cons n ns ih =>
  intro us r
  rw [List.map_cons] at r
  cases r with
  | cons r1 r2 =>
   obtain ⟨t,e⟩:=r1
   subst e
   exact .cons n t (ih r2)
section
variable {X:Cx} {e:Expr} {te:TE} {lo hi:Option Expr} {tl th:TO} {pos p2:Pos}
theorem po_none:PO X none tNoPart:=by
 intro pins s σ H Q I h
 rw [evalPart_none]
 exact wpAny_pure ⟨none,H,I,.none,h⟩
theorem po_some (h:PE X e te):PO X (some e) (tPart te):=by
 intro pins s σ H Q I hw
 rw [evalPart_some]
 refine thn (h pins s σ H _ I hw) fun u s1 ⟨x,H1,I1,r1,q1⟩=>?_
 obtain ⟨i,rfl,q⟩:=q1
 obtain ⟨t,rfl⟩:=r1
 exact ⟨some i,H1,I1,.int i t,q⟩
def SlR (X:Cx) (r:V→Option Int→Option Int→Hp→VK→Prop):Prop :=
 ∀ (pins:List (Addr×Obj)) (s:Shared) (σ:St) (H:Hp) (x:V) (v vl vu:Value) (lo hi:Option Int) (sl:Addr) (Q:VK),Inv X pins σ H s→RelV x v→s.heap.IsSliceOf sl vl vu .none→IsPart vl lo→IsPart vu hi→r x lo hi H Q →
  ∃ T id,typeLookup (.type T) "__getitem__" = pure (some (.builtin id))∧s.TypeIs v T∧wpAny (model X.prog X.w) X.A (getItem v (.ref sl)) (EP X pins σ Q) X.xe s
def tSl (r:V→Option Int→Option Int→Hp→VK→Prop) (te:TE) (tl th:TO):TE:=fun σ H Q=>te σ H fun x H1=>tl σ H1 fun l H2=>th σ H2 fun u H3=>r x l u H3 Q
theorem pe_slice {r:V→Option Int→Option Int→Hp→VK→Prop} (hr:SlR X r) (he:PE X e te) (hl:PO X lo tl) (hu:PO X hi th):PE X (.Subscript e (.Slice lo hi none p2) pos) (tSl r te tl th):=by
 intro pins s σ H Q I h
 refine Subscript_ (thn (he pins s σ H _ I h) fun v s1 ⟨x,H1,I1,r1,q1⟩=>?_)
 refine wpAny_Slice (thn (hl pins s1 σ H1 _ I1 q1) fun vl s2 ⟨l,H2,I2,pl,q2⟩=>thn (hu pins s2 σ H2 _ I2 q2) fun vu s3 ⟨u,H3,I3,pu,q3⟩=>?_)
 rw [evalPart_none]
 refine wpAny_pure ?_
 have I4:Inv X pins σ H3 { s3 with heap:=s3.heap.push { cls:=.type "slice", data:=.fields #[vl,vu,.none] } }:=I3.kept (t':=s3.toks) fun b ob q=>Heap.get?_push_of_some _ q
 obtain ⟨T,id,hT,ht,hg⟩:=hr pins { s3 with heap:=s3.heap.push { cls:=.type "slice", data:=.fields #[vl,vu,.none] } } σ H3 x v vl vu l u s3.heap.objs.size Q I4 r1 (Heap.IsSliceOf.new ..) pl pu q3
 show wpAny (model X.prog X.w) X.A (subscriptTail e (.Slice lo hi none p2) v (.ref s3.heap.objs.size)) (EP X pins σ Q) X.xe { s3 with heap:=s3.heap.push { cls:=.type "slice", data:=.fields #[vl,vu,.none] } }
 exact tail_any (ops:=[.ref s3.heap.objs.size,v]) ht hT hg (by with_unfolding_all rfl)
def cutV (xs:List V) (lo hi:Option Int):List V:=(xs.drop (HT.sIx xs.length 0 lo)).take (HT.sIx xs.length xs.length hi - HT.sIx xs.length 0 lo)
theorem cutV_length (xs:List V) (lo hi:Option Int):(cutV xs lo hi).length≤xs.length:=by
 unfold cutV
 rw [List.length_take,List.length_drop]
 omega
end
end L2
namespace L2
open PySem PySem.Spec PyProof.Rows
def ixN (n:Nat) (i:Int):Option Nat:=if 0≤i then (if i < n then some i.toNat else none) else if -(n:Int)≤i then some (i + n).toNat else none
def atI {α:Type} (xs:List α) (i:Int):Option α:=(ixN xs.length i).bind fun j=>xs[j]?
theorem ixN_seq {n:Nat} {i:Int} {j:Nat} (h:ixN n i=some j):seqIndex? i n=some j∧j < n ∧ -(n:Int)≤i∧i < n:=by
 unfold ixN at h
 by_cases h0:0≤i
 ·rw [if_pos h0] at h
  by_cases h1:i < n
  ·rw [if_pos h1] at h
   have e:i.toNat=j:=Option.some.inj h
   exact ⟨by rw [seqIndex_of h0 h1,e],by omega,by omega,h1⟩
  ·rw [if_neg h1] at h; cases h
 ·rw [if_neg h0] at h
  by_cases h1 : -(n:Int)≤i
  ·rw [if_pos h1] at h
   have e:(i + n).toNat=j:=Option.some.inj h
   exact ⟨by rw [seqIndex_neg (by omega) h1,e],by omega,h1,by omega⟩
  ·rw [if_neg h1] at h; cases h
theorem atI_get {α:Type} {xs:List α} {i:Int} {v:α} (h:atI xs i=some v):∃ j,seqIndex? i xs.length=some j∧xs[j]?=some v∧j < xs.length ∧ -(xs.length:Int)≤i∧i < xs.length:=by
 unfold atI at h
 cases e:ixN xs.length i with
 | none=>rw [e] at h; cases h
 | some j =>
  rw [e] at h
  obtain ⟨h1,h2,h3,h4⟩:=ixN_seq e
  exact ⟨j,h1,h,h2,h3,h4⟩
def PlainIx (b:Expr):Prop:=∀ o i,subscripted b false o i=operate [o,i] (getItem o i)
def IxR (X:Cx) (r:R2):Prop :=
 ∀ (value slice:Expr) (pins:List (Addr×Obj)) (s:Shared) (σ:St) (H:Hp) (x y:V) (v u:Value) (Q:VK),Inv X pins σ H s→RelV x v→RelV y u→r x y H Q →
  subscripted slice false v u=operate [v,u] (getItem v u)→wpAny (model X.prog X.w) X.A (subscriptTail value slice v u) (EP X pins σ Q) X.xe s
def MtR (X:Cx) (id:String) (r:V→List V→Hp→VK→Prop):Prop :=
 ∀ (pins:List (Addr×Obj)) (s:Shared) (σ:St) (H:Hp) (x:V) (xs:List V) (v:Value) (us:List Value) (Q:VK),Inv X pins σ H s→RelV x v→Vals xs us→r x xs H Q →
  wpAny (model X.prog X.w) X.A (call (.builtin id) (v :: us)) (EP X pins σ Q) X.xe s
section
variable {X:Cx} {a b:Expr} {ta tb:TE} {pos:Pos}
theorem pe_ix {r:R2} (hr:IxR X r) (ha:PE X a ta) (hb:PE X b tb) (hs:PlainIx b):PE X (.Subscript a b pos) (tOp r ta tb):=by
 intro pins s σ H Q I h
 exact Subscript_ (binT ha hb I h fun v u s2 x y H2 I2 rx ry q=>hr a b pins s2 σ H2 x y v u Q I2 rx ry q (hs _ _))
def rIxL (K:PySem.W.Frag):R2:=fun x y H Q=>∃ p xs i v,x=.ref p∧y=.int i∧SqL K H p xs∧atI xs i=some v∧Q v H
def rIxT (K:PySem.W.Frag):R2:=fun x y H Q=>∃ p xs i v,x=.ref p∧y=.int i∧SqT K H p xs∧atI xs i=some v∧Q v H
theorem ix_list:IxR X (rIxL X.K):=by
 intro value slice pins s σ H x y v u Q I rx ry h hs
 obtain ⟨p,xs,i,z,rfl,rfl,hq,he,q⟩:=h
 cases rx
 obtain ⟨t,rfl⟩:=ry
 obtain ⟨its,r,pl,hz⟩:=I.list hq
 obtain ⟨j,h1,h2,h3,h4,h5⟩:=atI_get he
 obtain ⟨w,ew,rw'⟩:=r.get h2
 have hl:=r.length
 have hn:=line63
 have fin:EP X pins σ Q w s:=⟨z,H,I,rw',q⟩
 by_cases h0:0≤i
 ·have hj:i.toNat=j:=by
   rw [seqIndex_of h0 h5] at h1
   exact Option.some.inj h1
  exact item_listR pl.isList h0 (by omega) (by rw [hj]; simpa using ew) fin hs
 ·have hj:(i + (its.toArray.size:Int)).toNat=j:=by
   rw [seqIndex_neg (by omega) h4] at h1
   rw [List.size_toArray,← hl]
   exact Option.some.inj h1
  exact subscriptTail_builtinR (x:=w) pl.isList.typeIs slot_list_getitem.lookup
   (wpAny_getItem_list_neg (Q:=fun r s'=>r=w∧EP X pins σ Q r s') pl.isList (by omega) (by rw [List.size_toArray] <;> omega) (by omega) (by rw [hj]; simpa using ew) ⟨rfl,fin⟩) hs
theorem ix_tup:IxR X (rIxT X.K):=by
 intro value slice pins s σ H x y v u Q I rx ry h hs
 obtain ⟨p,xs,i,z,rfl,rfl,hq,he,q⟩:=h
 cases rx
 obtain ⟨t,rfl⟩:=ry
 obtain ⟨its,r,pl,hz⟩:=I.tuple hq
 obtain ⟨j,h1,h2,h3,h4,h5⟩:=atI_get he
 obtain ⟨w,ew,rw'⟩:=r.get h2
 have hl:=r.length
 have hn:=line63
 have fin:EP X pins σ Q w s:=⟨z,H,I,rw',q⟩
 exact subscriptTail_builtinR (x:=w) pl.typeIs slot_tuple_getitem.lookup
  (getItem_tuple (j:=j) (Q:=fun r s'=>r=w∧EP X pins σ Q r s') pl (by omega) (by omega) (by rw [List.size_toArray,← hl]; exact h1) (by simpa using ew) ⟨rfl,fin⟩) hs
theorem mapSeq_set (its:List Value) (n j:Nat) (u:Value):Obj.mapSeq (·.setIfInBounds j u) { cls:=.type "list", data:=.seq its.toArray n }={ cls:=.type "list", data:=.seq (its.set j u).toArray n }:=by
 simp [Obj.mapSeq]
theorem Inv.lst {pins:List (Addr×Obj)} {σ:St} {H:Hp} {s:Shared} {p:Addr} {xs:List V} (I:Inv X pins σ H s) (h:H p=some (.lst xs)) :
  ∃ (its:List Value) (n:Nat),Vals xs its∧s.heap.get? p=some { cls:=.type "list", data:=.seq its.toArray n }∧xs.length≤sizeLine:=by
 obtain ⟨z,its,n,r,e⟩:=I.hok p _ h
 exact ⟨its,n,r,e,z⟩
theorem Inv.lstUpd {pins:List (Addr×Obj)} {σ:St} {H:Hp} {s:Shared} {p:Addr} {xs ys:List V} {its its':List Value} {n n':Nat} {f:Obj→Obj} (I:Inv X pins σ H s) (h:H p=some (.lst xs))
  (ho:s.heap.get? p=some { cls:=.type "list", data:=.seq its.toArray n }) (hf:f { cls:=.type "list", data:=.seq its.toArray n }={ cls:=.type "list", data:=.seq its'.toArray n' }) (r:Vals ys its') (hz:ys.length≤sizeLine) (t:Nat) :
  Inv X pins σ (upd H p (.lst ys)) { s with heap:=s.heap.update p f,toks:=t }:=by
 have e:(s.heap.update p f).get? p=some { cls:=.type "list", data:=.seq its'.toArray n' }:=by
  rw [Heap.get?_update_self f ho (by rw [hf] <;> rfl),hf]
 refine I.write (x:=p) (e:=p) (by rw [h]; trivial) (.inl rfl) (fun b u hb q=>(Heap.get?_update_other _ _ (Ne.symm hb)).trans q) ⟨_,e⟩ ?_
 exact ⟨hz,its',n',r,e⟩
def rSetL:V→V→V→Hp→(Hp→Prop)→Prop:=fun o i v H Q=>∃ p xs k j,o=.ref p∧i=.int k∧H p=some (.lst xs)∧ixN xs.length k=some j∧Q (upd H p (.lst (xs.set j v)))
theorem set_list:PSet X rSetL:=by
 intro pins s σ H o i v ov iv u Q I ro ri rv h
 obtain ⟨p,xs,k,j,rfl,rfl,hp,hj,q⟩:=h
 cases ro
 obtain ⟨t,rfl⟩:=ri
 obtain ⟨its,n,r,ho,hz⟩:=I.lst hp
 obtain ⟨h1,h2,h3,h4⟩:=ixN_seq hj
 have hl:=r.length
 have hn:=line63
 have I':Inv X pins σ (upd H p (.lst (xs.set j v))) { s with heap:=s.heap.update p (Obj.mapSeq (·.setIfInBounds j u)) } :=
  I.lstUpd hp ho (mapSeq_set its n j u) (r.set rv j) (by rw [List.length_set]; exact hz) s.toks
 by_cases h0:0≤k
 ·have hk:k.toNat=j:=by
   rw [seqIndex_of h0 h4] at h1
   exact Option.some.inj h1
  exact PySem.W.ki_setAt ho h0 (by omega) (by rw [List.size_toArray,← hl]; exact h4) (by rw [hk]; exact ⟨_,I',q⟩)
 ·have hk:(k + (its.toArray.size:Int)).toNat=j:=by
   rw [seqIndex_neg (by omega) h3] at h1
   rw [List.size_toArray,← hl]
   exact Option.some.inj h1
  exact PySem.W.ki_setBack ho (by omega) (by rw [List.size_toArray,← hl]; exact h3) (by omega) (by rw [hk]; exact ⟨_,I',q⟩)
theorem slice_bounds (lo hi:Option Int) (n:Nat):(sliceBounds lo hi none n).1=((HT.sIx n 0 lo:Nat):Int)∧(sliceBounds lo hi none n).2.1=((HT.sIx n n hi:Nat):Int)∧(sliceBounds lo hi none n).2.2=1:=by
 refine ⟨?_,?_,rfl⟩
 ·cases lo with
  | none=>simp [sliceBounds,HT.sIx]
  | some i =>
   simp only [sliceBounds,HT.sIx,Option.getD_none,show (1:Int) > 0 by decide,if_true]
   by_cases h:i < 0
   ·simp only [h,if_true] <;> omega
   ·simp only [h,if_false] <;> omega
 ·cases hi with
  | none=>simp [sliceBounds,HT.sIx]
  | some i =>
   simp only [sliceBounds,HT.sIx,Option.getD_none,show (1:Int) > 0 by decide,if_true]
   by_cases h:i < 0
   ·simp only [h,if_true] <;> omega
   ·simp only [h,if_false] <;> omega
theorem slicePick_cut (its:List Value) (lo hi:Option Int):slicePick its.toArray lo hi none=((its.drop (HT.sIx its.length 0 lo)).take (HT.sIx its.length its.length hi - HT.sIx its.length 0 lo)).toArray:=by
 obtain ⟨h1,h2,h3⟩:=slice_bounds lo hi its.toArray.size
 unfold slicePick
 rw [h1,h2,h3]
 simp only [sliceRange_one,pick_run,List.size_toArray] <;> rfl
def rSlL (K:PySem.W.Frag):V→Option Int→Option Int→Hp→VK→Prop:=fun x lo hi H Q=>∃ a xs,x=.ref a∧SqL K H a xs∧∀ p,H p=none→Q (.ref p) (upd H p (.lst (cutV xs lo hi)))
theorem sl_list:SlR X (rSlL X.K):=by
 intro pins s σ H x v vl vu lo hi sl Q I rx hs pl pu h
 obtain ⟨a,xs,rfl,hx,q⟩:=h
 cases rx
 obtain ⟨its,r,ht,hz⟩:=I.list hx
 have hlen:=r.length
 refine ⟨"list", _,slot_list_getitem.lookup,ht.isList.typeIs,?_⟩
 refine wpAny_getItem_list_slice ht.isList hs pl pu .none (by simp) ?_ (by rw [List.size_toArray] <;> omega)
 rw [slicePick_cut,← hlen]
 refine ⟨.ref s.heap.objs.size,_,I.laid (t':=s.toks) (o:=.lst (cutV xs lo hi)) (fun b ob q=>Heap.get?_push_of_some _ q) (Nat.le_refl _) ?_,rfl,q _ (I.hok.fresh (Nat.le_refl _))⟩
 exact ⟨Nat.le_trans (cutV_length xs lo hi) hz,_,0,(r.drop (HT.sIx xs.length 0 lo)).take (HT.sIx xs.length xs.length hi - HT.sIx xs.length 0 lo),Heap.get?_push_size _ rfl⟩
theorem call_len_seq:CallR X (.builtin "len") (fun xs H Q=>∃ p ys,xs=[.ref p]∧(SqL X.K H p ys∨SqT X.K H p ys)∧Q (.int ys.length) H):=by
 intro pins s σ H xs us Q I r h
 obtain ⟨p,ys,rfl,hq,q⟩:=h
 obtain ⟨u,rfl,rx⟩:=vals1 r
 cases rx
 have hn:=line63
 rcases hq with hq | hq
 ·obtain ⟨its,r',pl,hz⟩:=I.list hq
  have hlen:=r'.length
  exact Calls.call_len_list pl.isList (by simp only [List.size_toArray] <;> omega) ⟨.int ys.length,H,I.tok _,⟨s.toks + 1,by rw [List.size_toArray,hlen]⟩,q⟩
 ·obtain ⟨its,r',pl,hz⟩:=I.tuple hq
  have hlen:=r'.length
  exact len_tuple pl (by simp only [List.size_toArray] <;> omega) ⟨.int ys.length,H,I.tok _,⟨s.toks + 1,by rw [List.size_toArray,hlen]⟩,q⟩
theorem call_list_of:CallR X (.type "list") (fun xs H Q=>∃ p ys,xs=[.ref p]∧(SqL X.K H p ys∨SqT X.K H p ys)∧∀ l,H l=none→Q (.ref l) (upd H l (.lst ys))):=by
 intro pins s σ H xs us Q I r h
 obtain ⟨p,ys,rfl,hq,q⟩:=h
 obtain ⟨u,rfl,rx⟩:=vals1 r
 cases rx
 have fin:∀ (its:List Value),Vals ys its→ys.length≤sizeLine→∀ (h':Heap) (c':Nat),(∀ b o',s.heap.get? b=some o'→h'.get? b=some o') →
   h'.get? s.heap.objs.size=some { cls:=.type "list", dict:=none,data:=.seq its.toArray c',slots := #[] }→EP X pins σ Q (.ref s.heap.objs.size) { s with heap:=h' }:=fun its r' hz h' c' kp e =>
  ⟨.ref s.heap.objs.size,_,I.laid (t':=s.toks) kp (Nat.le_refl _) (show ObjOk X.prog X.w _ h' _ (.lst ys) from ⟨hz,its,c',r',e⟩),rfl,q _ (I.hok.fresh (Nat.le_refl _))⟩
 rcases hq with hq | hq
 ·obtain ⟨its,r',pl,hz⟩:=I.list hq
  have hlen:=r'.length
  obtain ⟨o,ho,hc,n,hd⟩:=pl.isList
  exact call_list_seq p (.inl rfl) ho hc hd (fun h' c' kp e=>fin its r' hz h' c' kp e) (by simp only [List.size_toArray] <;> omega)
 ·obtain ⟨its,r',pl,hz⟩:=I.tuple hq
  have hlen:=r'.length
  obtain ⟨o,ho,hc,n,hd⟩:=pl
  exact call_list_seq p (.inr rfl) ho hc hd (fun h' c' kp e=>fin its r' hz h' c' kp e) (by simp only [List.size_toArray] <;> omega)
def tyV (K:PySem.W.Frag) (T:String) (x:V) (H:Hp):Prop:=match x with
 | .str _=>T = "str"
 | .int _=>T = "int"
 | .ref p=>(T = "list" ∧ ∃ xs,SqL K H p xs)∨(T = "tuple" ∧ ∃ o,K.lookup p=some o∧o.cls=.type "tuple" ∧ o.dict=none) ∨
   (T = "dict" ∧ ((∃ kvs,H p=some (.dK kvs))∨∃ kvs,H p=some (.dT kvs)))∨(T = "set" ∧ ∃ S n,H p=some (.set S n))
 | _=>False
theorem tyV_is {pins:List (Addr×Obj)} {σ:St} {H:Hp} {s:Shared} {T:String} {x:V} {v:Value} (I:Inv X pins σ H s) (r:RelV x v) (ty:tyV X.K T x H) :
  s.TypeIs v T∧∀ a,v=.ref a→∃ ob,s.heap.get? a=some ob∧ob.dict=none:=by
 cases x with
 | str z =>
  obtain ⟨t,rfl⟩:=r
  cases (show T = "str" from ty)
  exact ⟨typeIs_str s z t,fun _ e=>nomatch e⟩
 | int i =>
  obtain ⟨t,rfl⟩:=r
  cases (show T = "int" from ty)
  exact ⟨typeIs_int s i t,fun _ e=>nomatch e⟩
 | ref p =>
  cases r
  rcases ty with ⟨rfl,xs,hq⟩ | ⟨rfl,o,hk,hc,hd⟩ | ⟨rfl,hk⟩ | ⟨rfl,S,n,hk⟩
  ·obtain ⟨its,_,pl,_⟩:=I.list hq
   refine ⟨pl.isList.typeIs,fun a e=>?_⟩
   cases e
   obtain ⟨o,n,e,c,hd,_⟩:=pl
   exact ⟨o,e,hd⟩
  ·refine ⟨⟨o,I.kIn p o hk,hc⟩,fun a e=>?_⟩
   cases e
   exact ⟨o,I.kIn _ o hk,hd⟩
  ·have z:∃ o,s.heap.get? p=some o∧o.ExactDict:=by
    rcases hk with ⟨kvs,hk⟩ | ⟨kvs,hk⟩
    ·obtain ⟨_,_,_,_,o,_,_,e,ex,_⟩:=I.hok p _ hk
     exact ⟨o,e,ex⟩
    ·obtain ⟨_,_,_,_,o,_,_,e,ex,_⟩:=I.hok p _ hk
     exact ⟨o,e,ex⟩
   obtain ⟨o,e,ex⟩:=z
   refine ⟨⟨o,e,ex.1⟩,fun a e2=>?_⟩
   cases e2
   exact ⟨o,e,ex.2.1⟩
  ·obtain ⟨o,_,_,_,e,ex,_⟩:=I.hok p _ hk
   refine ⟨⟨o,e,ex.1⟩,fun a e2=>?_⟩
   cases e2
   exact ⟨o,e,ex.2.1⟩
 | _=>exact False.elim ty
def tBM0 (K:PySem.W.Frag) (T:String) (r:V→List V→Hp→VK→Prop) (to:TE):TE:=fun σ H Q=>to σ H fun x H1=>tyV K T x H1∧r x [] H1 Q
def tBM (K:PySem.W.Frag) (T:String) (r:V→List V→Hp→VK→Prop) (to:TE) (t:TA):TE:=fun σ H Q=>to σ H fun x H1=>tyV K T x H1∧t σ H1 fun xs H2=>r x xs H2 Q
variable {o e:Expr} {es:List Expr} {to:TE} {t:TA} {name:Str} {apos cpos:Pos} {T id:String} {r:V→List V→Hp→VK→Prop}
theorem pe_bm0 (pa:PlainAttrs T) (slot:Slot T name id) (hty:typeOf (.builtin id)=pure (.type "method_descriptor")) (hm:MtR X id r) (ho:PE X o to)
  (hbase:attributeBase o name X.env (eval o X.env)=eval o X.env:=by rfl) (hline:(apos.endLine == cpos.line)=true:=by rfl):PE X (.Call (.Attribute o name apos) [] [] cpos) (tBM0 X.K T r to):=by
 intro pins s σ H Q I h
 refine wpAny_Call_method0_late hbase hline (thn (ho pins s σ H _ I h) fun v s1 ⟨x,H1,I1,r1,ty,q1⟩=>?_)
 obtain ⟨h1,h2⟩:=tyV_is I1 r1 ty
 exact ⟨T,id,pa,slot,hty,h1,h2,Calls.callWith_builtin rfl (PySem.evalArgs_none (hm pins s1 σ H1 x [] v [] Q I1 r1 .nil q1))⟩
theorem pe_bm (pa:PlainAttrs T) (slot:Slot T name id) (hty:typeOf (.builtin id)=pure (.type "method_descriptor")) (hm:MtR X id r) (ho:PE X o to) (ha:PA X (e :: es) t)
  (hbase:attributeBase o name X.env (eval o X.env)=eval o X.env:=by rfl)
  (hfew:((backTo cpos (starEach (e :: es) X.env)).all (fun x => !x.1) && (backToKw cpos (keywordEach [] X.env)).all (fun x=>x.1.isSome)
   && decide ((e :: es).length + ([]:List Keyword).length + (if ([]:List Keyword).isEmpty then 0 else 1) < 30))=true:=by rfl)
  (hline:(apos.endLine == cpos.line)=true:=by rfl) (hs:starEach (e :: es) X.env=(false,eval e X.env) :: starEach es X.env:=by rfl) (hplain:(backTo cpos (starEach es X.env)).any (·.1)=false:=by rfl) :
  PE X (.Call (.Attribute o name apos) (e :: es) [] cpos) (tBM X.K T r to t):=by
 intro pins s σ H Q I h
 refine wpAny_Call_method_late hbase hfew hline rfl (thn (ho pins s σ H _ I h) fun v s1 ⟨x,H1,I1,r1,ty,q1⟩=>?_)
 obtain ⟨h1,h2⟩:=tyV_is I1 r1 ty
 refine ⟨T,id,pa,slot,hty,h1,h2,?_⟩
 have hA:=ha cpos pins s1 σ H1 _ I1 q1
 rw [hs] at hA ⊢
 refine Calls.callWith_builtin (by show (false || (backTo cpos (starEach es X.env)).any (·.1))=false; rw [hplain] <;> rfl) (Calls.evalArgs_plain ?_)
 exact thn hA fun us s2 ⟨vs,H2,I2,r2,q2⟩=>hm pins s2 σ H2 x vs v us Q I2 r1 r2 q2
end
end L2
namespace L2
open PySem PySem.Spec PyProof.Rows
def MtM (X:Cx) (id:String) (r:V→List V→Hp→VK→Prop):Prop :=
 ∀ (pins:List (Addr×Obj)) (s:Shared) (σ:St) (H:Hp) (x:V) (xs:List V) (v:Value) (us:List Value) (Q:VK),Inv X pins σ H s→RelV x v→Vals xs us→r x xs H Q →
  wpAny (model X.prog X.w) X.A (call (.builtin id) (v :: us)) (EP X pins σ Q) X.xe s
theorem Vals.one:∀ {x:V} {us:List Value},Vals [x] us→∃ u,us=[u]∧RelV x u
 | _,_,.cons r .nil=>⟨_,rfl,r⟩
theorem Vals.zero:∀ {us:List Value},Vals [] us→us=[]
 | _,.nil=>rfl
theorem Vals.eraseIdx:∀ {xs:List V} {us:List Value} (i:Nat),Vals xs us→Vals (xs.eraseIdx i) (us.eraseIdx i)
 | _,_,_,.nil=>.nil
 | _,_,0,.cons _ t=>t
 | _,_,i + 1,.cons r t=>.cons r (Vals.eraseIdx i t)
theorem len_erase {α:Type}:∀ (l:List α) (i:Nat),(l.eraseIdx i).length≤l.length
 | [],_=>Nat.le_refl _
 | _ :: _,0=>Nat.le_succ _
 | _ :: r,i + 1=>Nat.succ_le_succ (len_erase r i)
section
variable {X:Cx} {pins:List (Addr×Obj)} {σ:St} {H:Hp} {s:Shared} {l b:Addr} {xs ys zs:List V}
theorem Inv.lset {its its':List Value} {n:Nat} {f:Array Value→Array Value} {t':Nat} (I:Inv X pins σ H s) (hH:H l=some (.lst xs))
  (e:s.heap.get? l=some { cls:=.type "list", data:=.seq its.toArray n }) (hf:f its.toArray=its'.toArray) (hv:Vals ys its') (hz:ys.length≤sizeLine) :
  Inv X pins σ (upd H l (.lst ys)) { s with heap:=s.heap.update l (Obj.mapSeq f),toks:=t' }:=by
 have q:=PySem.IsL.update e f
 rw [hf] at q
 refine I.write (x:=l) (e:=l) (by rw [hH]; exact trivial) (.inl rfl) (fun b' u hb hu=>(Heap.get?_update_other s.heap (Obj.mapSeq f) (Ne.symm hb)).trans hu) ⟨_,q⟩ ?_
 exact ⟨hz,its',_,hv,q⟩
theorem Inv.lnew {its:List Value} {t':Nat} (I:Inv X pins σ H s) (hv:Vals ys its) (hz:ys.length≤sizeLine) :
  Inv X pins σ (upd H s.heap.objs.size (.lst ys)) { s with heap:=s.heap.push { cls:=.type "list", data:=.seq its.toArray },toks:=t' } :=
 I.laid (fun _ _ q=>Heap.get?_push_of_some _ q) (Nat.le_refl _) ⟨hz,its,0,hv,Heap.get?_push_size _ rfl⟩
theorem Inv.fresh (I:Inv X pins σ H s):H s.heap.objs.size=none:=I.hok.fresh (Nat.le_refl _)
theorem Inv.lstM (I:Inv X pins σ H s) (hH:H l=some (.lst xs)):xs.length≤sizeLine∧∃ (its:List Value) (n:Nat),Vals xs its∧xs.length=its.length∧s.heap.get? l=some { cls:=.type "list", data:=.seq its.toArray n }:=by
 obtain ⟨z,its,n,r,e⟩:=I.hok l _ hH
 exact ⟨z,its,n,r,r.length,e⟩
theorem notLongL {n:Nat} (h:n≤sizeLine):Builtin.List.listTooLong n=false:=by
 unfold Builtin.List.listTooLong
 exact decide_eq_false (by omega)
end
section
variable {X:Cx}
def rAppend:V→List V→Hp→VK→Prop:=fun x vs H Q=>∃ l xs y,x=.ref l∧vs=[y]∧H l=some (.lst xs)∧xs.length < sizeLine∧Q .non (upd H l (.lst (xs ++ [y])))
theorem mt_append:MtM X "list.append" rAppend:=by
 intro pins s σ H x vs v us Q I rx rv h
 obtain ⟨l,xs,y,rfl,rfl,hH,hz,q⟩:=h
 cases rx
 obtain ⟨u,rfl,ru⟩:=rv.one
 obtain ⟨z,its,n,r,hl,e⟩:=I.lstM hH
 refine call_meets F.slot_list_append ⟨_,e,rfl⟩ F.entry_list_append (F.args_list_append_2 _ _) (PySem.list_append l its.toArray n u (by rw [List.size_toArray]; omega)) ⟨e,?_⟩
 refine ⟨.non,_,I.lset (its':=its ++ [u]) hH e (by simp) (r.append (.cons ru .nil)) ?_,rfl,q⟩
 rw [List.length_append,List.length_singleton]
 omega
def rPopAt:V→List V→Hp→VK→Prop:=fun x vs H Q=>∃ l xs i k y,x=.ref l∧vs=[.int i]∧H l=some (.lst xs) ∧ -(2 ^ 63)≤i∧i < 2 ^ 63∧seqIndex? i xs.length=some k∧xs[k]?=some y∧Q y (upd H l (.lst (xs.eraseIdx k)))
theorem mt_popAt:MtM X "list.pop" rPopAt:=by
 intro pins s σ H x vs v us Q I rx rv h
 obtain ⟨l,xs,i,k,y,rfl,rfl,hH,h1,h2,hk,hy,q⟩:=h
 cases rx
 obtain ⟨u,rfl,ru⟩:=rv.one
 obtain ⟨t,rfl⟩:=ru
 obtain ⟨z,its,n,r,hl,e⟩:=I.lstM hH
 obtain ⟨w,hw,rw'⟩:=r.get hy
 refine call_meets F.slot_list_pop ⟨_,e,rfl⟩ F.entry_list_pop (F.args_list_pop_2 _ _)
  (MeetsSeq.list_pop_at l its.toArray n i t k w (fitsIndex_both h1 h2) (by rw [List.size_toArray,← hl]; exact hk) (by rw [← Array.getElem?_toList]; exact hw) (by rw [List.size_toArray]; omega)) ⟨e,?_⟩
 refine ⟨y,_,I.lset (its':=its.eraseIdx k) hH e ?_ (r.eraseIdx k) ?_,rw',q⟩
 ·show its.toArray.eraseIdxIfInBounds k=(its.eraseIdx k).toArray
  rw [List.eraseIdxIfInBounds_toArray]
 ·have:=len_erase xs k
  omega
def rClear:V→List V→Hp→VK→Prop:=fun x vs H Q=>∃ l xs,x=.ref l∧vs=[]∧H l=some (.lst xs)∧Q .non (upd H l (.lst []))
theorem mt_clear:MtM X "list.clear" rClear:=by
 intro pins s σ H x vs v us Q I rx rv h
 obtain ⟨l,xs,rfl,rfl,hH,q⟩:=h
 cases rx
 have hus:=rv.zero
 subst hus
 obtain ⟨z,its,n,r,hl,e⟩:=I.lstM hH
 refine call_meets F.slot_list_clear ⟨_,e,rfl⟩ F.entry_list_clear (F.args_list_clear_1 _) (AutoSeq1.list_clear_list_0 l its.toArray n (by rw [List.size_toArray]; omega)) ⟨e,?_⟩
 exact ⟨.non,_,I.lset (its':=[]) (ys:=[]) hH e rfl .nil (Nat.zero_le _),rfl,q⟩
def rCat:R2:=fun x y H Q=>∃ l b xs zs,x=.ref l∧y=.ref b∧H l=some (.lst xs)∧H b=some (.lst zs)∧xs.length + zs.length≤sizeLine∧∀ p,H p=none→Q (.ref p) (upd H p (.lst (xs ++ zs)))
theorem op_cat:OpR X (binaryOp .Add) rCat:=by
 intro pins s σ H x y v u Q I rx ry h
 obtain ⟨l,b,xs,zs,rfl,rfl,hH,hB,hz,q⟩:=h
 cases rx
 cases ry
 obtain ⟨z,its,n,r,hl,e⟩:=I.lstM hH
 obtain ⟨z2,its2,n2,r2,hl2,e2⟩:=I.lstM hB
 refine PySem.P.add_list e e2 ?_ (by rw [List.size_toArray,List.size_toArray]; omega)
 have ea:its.toArray ++ its2.toArray=(its ++ its2).toArray:=by simp
 rw [ea]
 exact ⟨.ref _,_,I.lnew (t':=s.toks) (r.append r2) (by rw [List.length_append]; omega),rfl,q _ I.fresh⟩
end
section
variable {prog:Program} {w:World} {A:Around} {E:Value→Shared→Prop} {s:Shared}
set_option maxRecDepth 100000 in
end
section
variable {X:Cx}
end
end L2
namespace Att
open PySem PySem.W PySem.Calls PyProof.Rows
theorem ints_of_wellAll {P:Params} {h:Heap}:∀ (ns:List Int) (vs:List Value),WellAll P h vs (ns.map WData.int)→IntsAre vs ns:=by
 intro ns
 induction ns with
 | nil =>
  intro vs w
  rw [List.map_nil] at w
  cases w
  exact .nil
 | cons n ns ih =>
  intro vs w
  rw [List.map_cons] at w
  cases w with
  | cons a b =>
   cases a
   exact .cons _ _ (ih _ b)
theorem script_of {l:OpenLaw} {n:Nat} (hn:l.most=some n) {P:Params} {h:Heap} {args:List WData} {vals:List Value}
  (hpre:l.row.toRowW.claim.pre args=true) (hwl:WellAll P h vals args) :
  ∃ a vs ns,vals=[Value.ref a]∧args=[WData.list (ns.map WData.int)]∧h.get? a=some { cls:=.type "list", data:=.seq vs.toArray }∧IntsAre vs ns∧ns.length≤n:=by
 have hsh:WShape.hasAll [] args [.list .int]=true:=(pre_splitW hpre).1
 have hc:l.pre.holds [] { args:=args }=true:=(pre_splitW hpre).2
 obtain ⟨d,r,rfl,h1,h2⟩:=hasAllW_cons hsh
 obtain rfl:=hasAllW_nil h2
 obtain ⟨xs,rfl,h3⟩:=hasW_list h1
 obtain ⟨ns,rfl⟩:=items_int h3
 have hlen:ns.length≤n:=by
  unfold OpenLaw.pre at hc
  have h4:(WTm.not (.lt (.lit (.int (n:Int))) (.len (.arg 0)))).holds [] { args:=[.list (ns.map .int)] }=true:=by
   have h4:=(holds_andW hc).1
   rw [hn] at h4
   exact h4
  have h5:=condW_of h4 (w_not (w_lt w_lit (w_len_list (w_arg rfl))))
  rw [List.length_map] at h5
  refine Nat.le_of_not_lt fun q=>?_
  have q':(n:Int) < ((ns.length:Nat):Int):=by omega
  first
   | (rw [decide_eq_true q'] at h5; exact absurd h5 (by decide))
   | (simp at h5; omega)
 cases hwl with
 | cons w1 w2 =>
  cases w2
  cases w1 with
  | list ho hall=>exact ⟨_,_,ns,rfl,rfl,ho,ints_of_wellAll ns _ hall,hlen⟩
theorem post_true (l:OpenLaw) (args:List WData):l.row.toRowW.claim.post args (.bool true) args=true :=
 postW_of (r:=l.row.toRowW) (X:=(true == true))
  (show WShape.has [] (.bool true) .bool=true by first | rfl | decide | simp [WShape.has,WShape.arms,WShape.armsAll])
  (show (WTm.eq .res (.lit (.bool true))).value [] { args:=args,res:=some (.bool true),after:=args }=some (.bool (true == true)) from w_eq_bool (w_res rfl) w_lit) rfl
theorem attach_call {l:OpenLaw} {n:Nat} {q:Program} {loose:List Str} {XP:(Str→Option Value)→Heap→Prop} {YP:World→Heap→Prop} {d:DefRec}
  (hn:l.most=some n) (hdf:d.params.defaults=[])
  (call:∀ (w:World) (s₀ s₁:Shared) (mg mb:Str→Option Value) (fa:Addr) (o:Obj) (pm cd doc:Value) (a:Addr) (vs:List Value) (ns:List Int),
   Ground q loose [] XP w s₀ mg mb s₁.heap→YP w s₁.heap →
   s₁.heap.get? fa=some o→o.data=.func (docDef d.name d.params d.body d.scope pm cd doc)→s₁.heap.CodeRec cd d.name→mg d.name=some (.ref fa) →
   s₁.heap.get? a=some { cls:=.type "list", data:=.seq vs.toArray }→IntsAre vs ns→ns.length≤n→s₁.gens = #[] →
   codeAny (model l.prog w) callerA (.call (.ref fa) ⟨[.ref a],[]⟩) (fun r s'=>r=.ok (.ret (.bool true))∧OldK s₁.heap s'.heap∧s'.os=s₁.os∧AllBare s'.gens) s₁) :
  WalkO q loose XP YP l.row.toRowW d [] (fun f vs=>PySem.call f vs):=by
 intro w s₀ s₁ mg mb G Y fa o pm cd doc dV kV ho hd hcd hD hmg hg args vals as hpre hlay hrd hwl hlo
 obtain rfl:dV=.none:=Dflts.none hD hdf
 obtain rfl:kV=.none:=Dflts.noKw hD
 obtain ⟨a,vs,ns,rfl,rfl,hobj,hints,hlen⟩:=script_of hn hpre hwl
 refine enter_call (codeAny_mono (call w s₀ s₁ mg mb fa o pm cd doc a vs ns G Y ho (fd_plain hd) hcd hmg hobj hints hlen hg) fun r s' hq=>?_)
 obtain ⟨rfl,h2,h3,h4⟩:=hq
 exact ⟨.inl ⟨.bool true,.bool true,[],rfl,fun _=>rfl,.bool true,post_true l _,fun _=>⟨List.Pairwise.nil,fun _ hm=>(nomatch hm)⟩⟩,h2,h3,h4⟩
section
variable {prog:Program} {w:World} {A:Around} {E:Value→Shared→Prop} {s:Shared} {K:Frag}
end
end Att
namespace L2
open PySem PySem.Spec PyProof.Rows
theorem vals_ints:∀ {vs:List Value} {ns:List Int},IntsAre vs ns→Vals (ns.map V.int) vs
 | _,_,.nil=>.nil
 | _,_,.cons n t h=>.cons ⟨t,rfl⟩ (vals_ints h)
def Only (H:Hp):Prop:=∀ b,H b=none∨∃ o xs,H b=some (.frz o (.lst xs))
theorem law_call {P:Program} {w:World} {K:PySem.W.Frag} {mg mb:Str→Option Value} {CX:CXT} {k:Nat} {fa a:Addr} {fd:FuncData} {x:Str} {sp:Sp} {s₁:Shared} {vs:List Value} {ns:List Int}
  (KX:K.In s₁.heap) (hns:s₁.heap.Ns mainGlobals mg) (hb:s₁.heap.Ns builtinsNs mb) (hbb:∀ x:Str,x ≠ "__name__" → mb x=bootBuiltins x) (hlim:s₁.heap.NoLimit) (hg:s₁.gens = #[])
  (ha:s₁.heap.get? a=some { cls:=.type "list", data:=.seq vs.toArray }) (hi:IntsAre vs ns) (hl:ns.length≤sizeLine) (hr:Room k callerA)
  (F:∀ base:Heap,K.In base→base.Ns mainGlobals mg→FnOk P w K mg base CX k fa fd [x] sp) (hbind:∀ (s:Shared) (u:Value),BindsTo s fd ⟨[u],[]⟩ [(x,u)])
  (hsp:∀ H:Hp,Only H→SqL K H a (ns.map V.int)→sp [.ref a] H (fun v _=>v=.bl true) fun _ _ _=>False)
  (hCX:∀ H e s',CX [] H s₁ (fun _ _ _=>False) e s'→False) :
  codeAny (model P w) callerA (.call (.ref fa) ⟨[.ref a],[]⟩) (fun r s'=>r=.ok (.ret (.bool true))∧OldK s₁.heap s'.heap∧s'.os=s₁.os∧AllBare s'.gens) s₁:=by
 have rv:=vals_ints hi
 have lenV:=hi.length
 have core:∀ H:Hp,Only H→SqL K H a (ns.map V.int)→HOk P w H s₁.heap→(∀ b,H b≠none→b=a)→(H a≠none→K.lookup a=none) →
   codeAny (model P w) callerA (.call (.ref fa) ⟨[.ref a],[]⟩) (fun r s'=>r=.ok (.ret (.bool true))∧OldK s₁.heap s'.heap∧s'.os=s₁.os∧AllBare s'.gens) s₁:=by
  intro H hO hS hok hA hK
  have base_of:∀ {b:Addr} {o:Obj},s₁.heap.get? b=some o→H b=none→(hidT s₁.heap H).get? b=some o:=fun e n=>hidT_get e n
  have noA:∀ {b:Addr} {o:Obj} {es:Array DictEntry} {ep:Nat},s₁.heap.get? b=some o→o.data=.dict es ep→H b=none:=fun {b o es ep} e d=>by
   cases q:H b with
   | none=>rfl
   | some u =>
    have e':b=a:=hA b (by rw [q]; simp)
    subst e'
    rw [ha] at e; cases e
    have d':Data.seq vs.toArray _=Data.dict es ep:=d
    cases d'
  have nsK:∀ {b:Addr} {m:Str→Option Value},s₁.heap.Ns b m→(hidT s₁.heap H).Ns b m:=fun {b m} ⟨o,es,ep,e,d,r⟩=>⟨o,es,ep,base_of e (noA e d),d,r⟩
  have hKb:K.In (hidT s₁.heap H):=fun b o e=>base_of (KX b o e) (by
   cases q:H b with
   | none=>rfl
   | some u =>
    have e':b=a:=hA b (by rw [q]; simp)
    subst e'
    rw [hK (by rw [q]; simp)] at e; cases e)
  have hM:Mod K mg (hidT s₁.heap H):=⟨hKb,nsK hns,⟨mb,nsK hb,hbb⟩,let ⟨mc,h1,h2⟩:=hlim; ⟨mc,nsK h1,h2⟩⟩
  have e0:Env0 P w K mg (hidT s₁.heap H) callerA [] s₁ H:=⟨rfl,hM,fun b o e=>of_hidT e,Nat.le_of_eq (hidT_size _ _),trivial,fun b hb=>absurd (show b∈([]:List Addr) from hb) (by simp),hok,.of_eq hg⟩
  refine codeAny_mono ((F _ hKb (nsK hns)).run callerA [] s₁ H ⟨[.ref a],[]⟩ [.ref a] [.ref a] _ _ hr e0 (hbind s₁ (.ref a)) (.cons rfl .nil) (hsp H hO hS)) fun r s' h=>?_
  cases r with
  | error e=>exact (hCX H e s' h).elim
  | ok fl =>
   cases fl with
   | next=>exact False.elim h
   | brk=>exact False.elim h
   | cont=>exact False.elim h
   | ret u =>
    obtain ⟨v,H',os,bare,un,hok',r',q⟩:=h
    have q':v=.bl true:=q
    subst q'
    obtain rfl:u=Value.bool true:=r'
    refine ⟨rfl,OldK.of_keep fun b o e=>?_,os,bare⟩
    cases q:H b with
    | none=>exact un.keep b o e q (by intro z; exact absurd (show b∈([]:List Addr) from z) (by simp)) (by simp)
    | some u =>
     rcases hO b with z | ⟨ob,xs,z⟩
     ·rw [q] at z; cases z
     ·have z2:=un.frzs b ob _ z
      obtain ⟨e1,_⟩:=hok b _ z
      obtain ⟨e2,_⟩:=hok' b _ z2
      rw [e] at e1; cases e1
      exact e2
 cases hk:K.lookup a with
 | some o =>
  have e:=KX a o hk
  rw [ha] at e
  cases e
  refine core (fun _=>none) (fun _=>.inl rfl) (.inr ⟨_,vs.toArray,_,hk,rfl,rfl,rfl,by rw [List.size_toArray,lenV]; exact hl,by simpa using rv⟩) (fun b u z=>by have z':(none:Option HO)=some u:=z; cases z') (fun b z=>absurd rfl z) fun z=>absurd rfl z
 | none =>
  refine core (fun b=>if b=a then some (.frz { cls:=.type "list", data:=.seq vs.toArray } (.lst (ns.map V.int))) else none) (fun b=>?_) (.inl (.inr ⟨{ cls:=.type "list", data:=.seq vs.toArray },if_pos rfl⟩)) (fun b u z=>?_) (fun b z=>?_) fun _=>hk
  ·by_cases hb:b=a
   ·exact .inr ⟨_,_,if_pos hb⟩
   ·exact .inl (if_neg hb)
  ·by_cases hb:b=a
   ·have z':=(if_pos hb).symm.trans z
    cases z'
    subst hb
    exact ⟨ha,by rw [List.length_map]; exact hl,vs,_,rv,ha⟩
   ·have z':=(if_neg hb).symm.trans z
    cases z'
  ·by_cases hb:b=a
   ·exact hb
   ·exact absurd (if_neg hb) z
end L2
namespace L2
open PySem PySem.Spec PyProof.Rows
end L2
namespace L2
open PySem PySem.Spec PyProof.Rows
def defArgs (s:Stmt):Arguments:=match s with
 | .FunctionDef _ a _ _ _ _ _ _ _ _=>a
 | _=>{ posonlyargs:=[],args:=[],vararg:=none,kwonlyargs:=[],kw_defaults:=[],kwarg:=none,defaults:=[] }
def defBody (s:Stmt):List Stmt:=match s with
 | .FunctionDef _ _ b _ _ _ _ _ _ _=>b
 | _=>[]
def defScope (s:Stmt):Scope:=match s with
 | .FunctionDef _ _ _ _ _ _ sc _ _ _=>sc
 | _=>{ kind:=.function,names:=[],isGenerator:=false,isCoroutine:=false }
abbrev CX0:CXT:=fun _ _ _ _ _ _=>False
abbrev E0:XK:=fun _ _ _=>False
theorem pass0 {X:Cx}:Passes CX0 X E0:=fun _ _ _ _ _ _ _ h=>h.elim
structure Fun (K:PySem.W.Frag) (x qual:Str) (st:Stmt) (f:Addr) (fd:FuncData):Prop where
 ex:∃ (oc:Value) (od:Option Addr) (kV doc pm:Value) (an:Option Addr) (cdv ct:Value) (osl:Array (Option Value)),
  fd=PySem.W.fnOf x qual (defArgs st) (defBody st) (defScope st) .none kV doc pm an cdv ct∧K.lookup f=some ⟨oc,od,.func fd,osl⟩∧PySem.W.codeIn K cdv qual=true
 kp:PySem.W.keepIn K (.ref f)=true
section
variable {P:Program} {w:World} {K:PySem.W.Frag} {mg:Str→Option Value} {base:Heap}
theorem Fun.ok {x qual:Str} {st:Stmt} {f:Addr} {fd:FuncData} {N ps:List Str} {k:Nat} {sp:Sp} (F:Fun K x qual st f fd) (S:FnScope N ps (defScope st)) (len:∀ vs H Q E,sp vs H Q E→vs.length=ps.length)
  (hbody:∀ (cdv:Value) (A:Around) (outer:List Env) (s:Shared) (H:Hp) (vs:List V) (Q:VK) (E:XK),Room k (A.deeper (envOfC qual (defScope st) s.heap.objs.size f cdv))→sp vs H Q E →
   ∃ t,PSs (cxOf CX0 P w K mg base N qual (defScope st) f cdv A outer s H E).nox (defBody st) t∧t { nx:=fun _ H'=>Q .non H',rt:=Q } (start N vs) H):FnOk P w K mg base CX0 (k + 1) f fd ps sp:=by
 obtain ⟨oc,od,kV,doc,pm,an,cdv,ct,osl,rfl,lk,hcd⟩:=F.ex
 refine fn_of lk hcd S len fun A outer s H vs Q E hr hsp=>?_
 obtain ⟨t,h,q⟩:=hbody cdv A outer s H vs Q E hr hsp
 exact ⟨t,h.nox,q⟩
theorem Fun.binds {x qual:Str} {st:Stmt} {f:Addr} {fd:FuncData} {ps:List Str} (F:Fun K x qual st f fd)
  (h:∀ (kV doc pm:Value) (an:Option Addr) (cdv ct:Value) (us:List Value),us.length=ps.length→bindArgs (PySem.W.fnOf x qual (defArgs st) (defBody st) (defScope st) .none kV doc pm an cdv ct) ⟨us,[]⟩=pure (ps.zip us)):Binds K fd ps []:=by
 obtain ⟨oc,od,kV,doc,pm,an,cdv,ct,osl,rfl,lk,hcd⟩:=F.ex
 exact .all (h kV doc pm an cdv ct)
theorem fun_mk {x qual:Str} {st:Stmt} {f:Addr} {oc:Value} {od an:Option Addr} {osl:Array (Option Value)} {kV doc pm cdv ct:Value} (l:K.lookup f=some ⟨oc,od,.func (PySem.W.fnOf x qual (defArgs st) (defBody st) (defScope st) .none kV doc pm an cdv ct),osl⟩)
  (c:PySem.W.codeIn K cdv qual=true) (k:PySem.W.keepIn K (.ref f)=true):Fun K x qual st f (PySem.W.fnOf x qual (defArgs st) (defBody st) (defScope st) .none kV doc pm an cdv ct):=⟨⟨oc,od,kV,doc,pm,an,cdv,ct,osl,rfl,l,c⟩,k⟩
end
section
variable {X:Cx}
theorem pv (i:Nat) {x:Str} {pos:Pos} (hN:X.N[i]?=some x:=by rfl) (hv:Vis X.env.scope x:=by first | exact Or.inl rfl | exact Or.inr (Or.inl rfl) | exact Or.inr (Or.inr rfl)) (hd:(x == ("__debug__" : Str))=false:=by decide)
  (hcd:(x == ("__classdict__" : Str))=false:=by decide):PE X (.Name x pos) (tVar i):=pe_var hN hv hd hcd
end
theorem iteF {A B:Prop} (h:B):if false=true then A else B:=by
 rw [if_neg Bool.false_ne_true]
 exact h
theorem iteT {A B:Prop} (h:A):if true=true then A else B:=by
 rw [if_pos rfl]
 exact h
def Same (H H':Hp):Prop:=∀ b o,H b=some o→H' b=some o
theorem Same.refl (H:Hp):Same H H:=fun _ _ h=>h
theorem Same.trans {H H1 H2:Hp} (a:Same H H1) (b:Same H1 H2):Same H H2:=fun c o h=>b c o (a c o h)
theorem Same.free {H H':Hp} (e:Same H H') {l:Addr} (h:H' l=Option.none):H l=Option.none:=by
 cases q:H l with
 | none=>rfl
 | some o =>
  rw [e l o q] at h
  cases h
theorem Same.seq {K:PySem.W.Frag} {H H':Hp} {a:Addr} {xs:List V} (e:Same H H') (h:SqL K H a xs):SqL K H' a xs:=by
 rcases h with (h | ⟨o,h⟩) | h
 ·exact .inl (.inl (e _ _ h))
 ·exact .inl (.inr ⟨o,e _ _ h⟩)
 ·exact .inr h
end L2
set_option maxHeartbeats 4000000
namespace L2
open PySem PySem.Spec PyProof.Rows
open PySem.Builtin.Int (intBits)
def CMulB (i j:Int):Prop:=intBits i≤9000∧intBits j≤9000
def CDivB (_ j:Int):Prop:=j≠0∧intBits j≤9000
theorem noPy_bits {x y:Int} (h:intBits y≤9000):Builtin.divisionGoesByPylong x y=false:=by
 by_cases h0:y=0
 ·subst h0; exact PyProof.noPylong_small (by decide)
 ·refine PyProof.noPylong_of_log2 ?_
  have q:=intBits_le_iff.mp h
  have hn:y.natAbs≠0:=by omega
  exact (Nat.log2_lt hn).mpr q
section
variable {X:Cx} {a b:Expr} {ta tb:TE} {pos:Pos}
theorem op_mulB:OpR X (binaryOp .Mult) (rI CMulB fun i j=>.int (i * j)):=opI fun _ _ _ _ _ _ _ hc q=>mul_int q (IntMulOk.of_le hc.1 hc.2 (by decide))
theorem op_fdivB:OpR X (binaryOp .FloorDiv) (rI CDivB fun i j=>.int (i.fdiv j)):=opI fun _ _ _ _ _ _ _ hc q=>floordiv_int hc.1 q (.inl (noPy_bits hc.2))
theorem op_eqI:OpR X (compareOp .Eq) (rI0 fun i j=>.bl (decide (i=j))):=opB0 fun _ _ _ _ _ _ _ q=>eq_int (by rw [Bool.beq_eq_decide_eq]; exact q)
theorem op_neI:OpR X (compareOp .NotEq) (rI0 fun i j=>.bl (!decide (i=j))):=opB0 fun _ _ _ _ _ _ _ q=>ne_int (by rw [bne,Bool.beq_eq_decide_eq]; exact q)
def ItsAt (H:Hp) (p:Addr) (xs:List V):Prop:=H p=some (.tup xs)∨H p=some (.lst xs)
def rIxF:R2:=fun x y H Q=>∃ p xs i v,x=.ref p∧y=.int i∧ItsAt H p xs∧atI xs i=some v∧Q v H
theorem ix_any:IxR X rIxF:=by
 intro value slice pins s σ H x y v u Q I rx ry h hs
 obtain ⟨p,xs,i,z,e1,e2,hq,he,q⟩:=h
 rcases hq with hq | hq
 ·exact ix_tup value slice pins s σ H x y v u Q I rx ry ⟨p,xs,i,z,e1,e2,SqT.of hq,he,q⟩ hs
 ·exact ix_list value slice pins s σ H x y v u Q I rx ry ⟨p,xs,i,z,e1,e2,SqL.of hq,he,q⟩ hs
theorem call_isinst:CallR X (.builtin "isinstance") (fun xs H Q=>∃ x t n b,xs=[x,.ty n]∧TyOf X.K H x t∧PySem.W.kitOne X.K t (.type n)=some b∧Q (.bl b) H):=by
 intro pins s σ H xs us Q I r h
 obtain ⟨x,t,n,b,rfl,ty,e,q⟩:=h
 obtain ⟨u,w',rfl,r1,r2⟩:=vals2 r
 cases r2
 exact isinst_ok I r1 ty e fun tk=>⟨.bl b,H,I.tok _,rfl,q⟩
structure Cal (P:Program) (w:World) (K:PySem.W.Frag) (mg:Str→Option Value) (base:Heap) (x:Str) (ps:List Str) (k:Nat) (sp:Sp):Prop where
 ex:∃ f fd,mg x=some (.ref f)∧PySem.W.keepIn K (.ref f)=true∧Binds K fd ps []∧FnOk P w K mg base CX0 k f fd ps sp
structure Fnd (K:PySem.W.Frag) (mg:Str→Option Value) (x:Str) (st:Stmt) (ps:List Str):Prop where
 ex:∃ f fd,mg x=some (.ref f)∧Fun K x x st f fd∧Binds K fd ps []
theorem Cal.imp {P:Program} {w:World} {K:PySem.W.Frag} {mg:Str→Option Value} {base:Heap} {x:Str} {ps:List Str} {k:Nat} {sp sp':Sp} (c:Cal P w K mg base x ps k sp) (h:∀ vs H Q E,sp' vs H Q E→sp vs H Q E):Cal P w K mg base x ps k sp':=by
 obtain ⟨f,fd,m,kp,b,F⟩:=c.ex
 exact ⟨f,fd,m,kp,b,F.imp h⟩
theorem pe_cal {x:Str} {ps:List Str} {j k:Nat} {sp:Sp} {p:Pos} {e:Expr} {es:List Expr} {t:TA} (c:Cal X.prog X.w X.K X.mg X.base x ps j sp) (hr:Room k X.A) (hg:Gl X x) (ha:PA X (e :: es) t) (hjk:j≤k:=by decide)
  (hdb:(x == ("__debug__" : Str))=false:=by decide) (he:starEach (e :: es) X.env=(false,eval e X.env) :: starEach es X.env:=by rfl) (hpl:(backTo pos (starEach es X.env)).any (·.1)=false:=by rfl) :
  PE X (.Call (.Name x p) (e :: es) [] pos) (tCall sp [] E0 t):=by
 obtain ⟨f,fd,m,kp,b,F⟩:=c.ex
 exact pe_call F (hr.mono hjk) hg m kp b .nil pass0 ha hdb he hpl
theorem Fnd.ok {P:Program} {w:World} {K:PySem.W.Frag} {mg:Str→Option Value} {base:Heap} {x:Str} {st:Stmt} {N ps:List Str} {k:Nat} {sp:Sp} (F:Fnd K mg x st ps) (S:FnScope N ps (defScope st)) (len:∀ vs H Q E,sp vs H Q E→vs.length=ps.length)
  (hbody:∀ (f:Addr) (cdv:Value) (A:Around) (outer:List Env) (s:Shared) (H:Hp) (vs:List V) (Q:VK) (E:XK),Room k (A.deeper (envOfC x (defScope st) s.heap.objs.size f cdv))→sp vs H Q E →
   ∃ t,PSs (cxOf CX0 P w K mg base N x (defScope st) f cdv A outer s H E).nox (defBody st) t∧t { nx:=fun _ H'=>Q .non H',rt:=Q } (start N vs) H):Cal P w K mg base x ps (k + 1) sp:=by
 obtain ⟨f,fd,m,Fu,b⟩:=F.ex
 exact ⟨f,fd,m,Fu.kp,b,Fu.ok S len (hbody f)⟩
end
theorem iteD {p:Prop} [Decidable p] {A B:Prop} (h1:p→A) (h2:¬ p→B):if decide p=true then A else B:=by
 by_cases h:p
 ·rw [decide_eq_true h]; exact h1 h
 ·rw [decide_eq_false h]; exact h2 h
theorem iteDn {p:Prop} [Decidable p] {A B:Prop} (h1:¬ p→A) (h2:p→B):if (!decide p)=true then A else B:=by
 by_cases h:p
 ·rw [decide_eq_true h]; exact h2 h
 ·rw [decide_eq_false h]; exact h1 h
def Ext (b:Addr) (H H':Hp):Prop:=∀ a o,a≠b→H a=some o→H' a=some o
theorem Ext.trans {b:Addr} {H H1 H2:Hp} (e:Ext b H H1) (f:Ext b H1 H2):Ext b H H2:=fun a o n h=>f a o n (e a o n h)
theorem Ext.upd (b:Addr) (H:Hp) (o:HO):Ext b H (L2.upd H b o):=fun a u n h=>by rw [upd_ne n]; exact h
theorem same_new {H:Hp} {p:Addr} (h:H p=none) (o:HO):Same H (L2.upd H p o):=fun b u q=>by rw [upd_ne (ne_of_none q h)]; exact q
end L2
namespace L2
open PySem PySem.Spec PyProof.Rows
theorem HOk.but {P:Program} {w:World} {H:Hp} {h h':Heap} {C:Addr} (x:HOk P w H h) (n:H C=none) (k:∀ b u,b≠C→h.get? b=some u→h'.get? b=some u):HOk P w H h':=fun a o e =>
 (x a o e).stay (fun b u hb q=>k b u (by rcases hb with rfl | hb; exact ne_of_none e n; exact ne_of_none hb n) q) (fun _ q=>q) fun _ _ q=>q
theorem Un.but {fs ex:List Addr} {H H':Hp} {h h1 h2:Heap} {C:Addr} (u:Un fs ex H H' h h1) (hC:h.get? C=none) (k:∀ b u,b≠C→h1.get? b=some u→h2.get? b=some u):Un fs ex H H' h h2 where
 keep:=fun b o q n f e=>k b o (by rintro rfl; rw [hC] at q; cases q) (u.keep b o q n f e)
 slot:=fun b o q n f e=>by
  obtain ⟨sl,z⟩:=u.slot b o q n f e
  exact ⟨sl,k b _ (by rintro rfl; rw [hC] at q; cases q) z⟩
 free:=u.free
 there:=fun b o q e=>by
  obtain ⟨o',z⟩:=u.there b o q e
  exact ⟨o',k b _ (by rintro rfl; rw [hC] at q; cases q) z⟩
 tups:=u.tups
 frzs:=u.frzs
 tbls:=u.tbls
def compCx (X:Cx) (N:List Str) (scope:Scope) (cl:List (Str×Addr)) (C:Addr) (s:Shared) (H:Hp) (ex:List Addr):Cx :=
 { X with N:=N,s₀:=s,H₀:=H,env:=compEnvC scope cl C X.env,outer:=X.stack,ex:=ex,fn:=fun _=>false,pn:=[],xe:=fun _ _=>False }
def freeV (σ:St) (js:List Nat):St:=js.map fun j=>(σ[j]?).join
section
variable {X:Cx}
end
end L2
namespace L2
open PySem PySem.Spec PyProof.Rows
theorem Vals.getR:∀ {xs:List V} {us:List Value} {i:Nat} {u:Value},Vals xs us→us[i]?=some u→∃ x,xs[i]?=some x∧RelV x u
 | _,_,_,_,.nil,e=>by simp at e
 | _,_,0,_,.cons r _,e=>by simp at e; subst e; exact ⟨_,rfl,r⟩
 | _,_,i + 1,u,.cons _ t,e=>by
  obtain ⟨x,h1,h2⟩:=Vals.getR (i:=i) (u:=u) t (by simpa using e)
  exact ⟨x,by simpa using h1,h2⟩
section
variable {X:Cx}
theorem call_all (hc:X.calm=true):CallR X (.builtin "all") (fun xs H Q=>∃ l ys,xs=[.ref l]∧H l=some (.lst ys)∧(∀ y∈ys,y=.bl true)∧Q (.bl true) H):=by
 intro pins s σ H xs us Q I r h
 obtain ⟨l,ys,rfl,hl,ht,q⟩:=h
 obtain ⟨u,rfl,r1⟩:=vals1 r
 cases r1
 obtain ⟨its,rv,pl,hz⟩:=I.list (SqL.of hl)
 have hil:=pl.isList
 have hlt:l < s.heap.objs.size:=by
  obtain ⟨_,e,_⟩:=hil
  exact Heap.lt_size e
 refine call_all_walk (wpAny_pyIter_list hil ⟨s.heap.objs.size,[s.heap.objs.size,l],[s.heap.objs.size],its.toArray.size,_,_,fun _=>true,rfl,Walks.list (A:=X.A.in1) (I.ok.hd hc) _ l (Nat.ne_of_lt hlt) its.toArray,?_,?_,?_⟩)
 ·exact ⟨⟨_,Heap.get?_push_size _ rfl,rfl,rfl⟩,hil.push _⟩
 ·intro i v s' Q' E' hP hQ
  obtain ⟨y,ey,ry⟩:=rv.getR (i:=i) (u:=v) (by simpa using hP)
  have e:=ht y (List.mem_of_getElem? ey)
  subst e
  cases ry
  exact wpAny_truthy_bool hQ
 ·intro h' tk hk
  have e:((List.range its.toArray.size).all fun _=>true)=true:=by simp
  rw [e]
  refine ⟨.bl true,H,I.kept (h':=h') (t':=tk) fun b o eb=>?_,rfl,q⟩
  refine hk b o (fun hm=>?_) (Heap.get?_push_of_some _ eb)
  rw [List.mem_singleton.mp hm] at eb
  exact Nat.lt_irrefl _ (Heap.lt_size eb)
end
end L2
namespace L2
open PySem PySem.Spec PyProof.Rows PySem.W
section
variable {prog:Program} {w:World} {A:Around} {E:Value→Shared→Prop} {h:Heap} {g:Array GenState} {d:Drawn} {t:Nat} {os:OsState} {a C:Addr} {o:Obj} {K:PySem.W.Frag}
end
end L2
namespace L2
open PySem PySem.Spec PyProof.Rows PySem.W
section
variable {X:Cx}
end
end L2
namespace L2
open PySem PySem.Spec PyProof.Rows PySem.W
section
variable {X:Cx} {pins:List (Addr×Obj)} {σ:St} {H:Hp} {s:Shared}
end
end L2
namespace L2
open PySem PySem.Spec PyProof.Rows PySem.W
section
variable {X:Cx}
end
end L2
namespace L2
open PySem PySem.Spec PyProof.Rows PySem.W
section
variable {X:Cx} {pins:List (Addr×Obj)} {σ:St} {H:Hp} {s:Shared}
end
end L2
namespace Cut
open PySem
open PySem.Builtin.Int (intBits)
theorem bits_om {x:Int} (h1 : -(2 ^ 64) < x) (h2:x < 2 ^ 64):intBits x≤64:=intBits_le_64 h1 h2
theorem bits_of_abs {x t:Int} {n:Nat} (h:x.natAbs≤t.natAbs) (ht:intBits t≤n):intBits x≤n:=intBits_le_of_natAbs h ht
def Low (x y:Int):Prop:=0 < y∧Int.gcd x y=1
theorem gcd_step {x y:Int} (hx:0≤x) (hy:0 < y):Int.gcd y (x % y)=Int.gcd x y:=by
 obtain ⟨m,rfl⟩:=Int.eq_ofNat_of_zero_le hx
 obtain ⟨n,rfl⟩:=Int.eq_ofNat_of_zero_le (Int.le_of_lt hy)
 have e:((m:Int) % (n:Int))=((m % n:Nat):Int):=rfl
 rw [e]
 show Nat.gcd n (m % n)=Nat.gcd m n
 rw [Nat.gcd_comm m n,Nat.gcd_rec n m,Nat.gcd_comm]
theorem gcd_abs (a b:Int):Int.gcd (if a < 0 then -a else a) (if b < 0 then -b else b)=Int.gcd a b:=by
 have e:∀ z:Int,(if z < 0 then -z else z).natAbs=z.natAbs:=fun z=>by split <;> omega
 unfold Int.gcd
 rw [e,e]
theorem gcd_zero_left {x:Int} (h:0≤x):((Int.gcd x 0:Nat):Int)=x:=by
 rw [Int.gcd_zero_right]; omega
theorem gcd_pos {t b:Int} (hb:b≠0):0 < ((Int.gcd t b:Nat):Int):=by
 have:0 < Int.gcd t b:=Int.gcd_pos_of_ne_zero_right t hb
 omega
theorem low_of {t b g s:Int} (hb:b≠0) (hg:g=(Int.gcd t b:Nat)) (hs:s=g∧0 < b∨s = -g∧b < 0) :
  Low (t.fdiv s) (b.fdiv s)∧t.fdiv s * b=t * b.fdiv s∧(t.fdiv s).natAbs≤t.natAbs∧(b.fdiv s).natAbs≤b.natAbs:=by
 have gp:0 < g:=by rw [hg]; exact gcd_pos hb
 have d1:g ∣ t:=by rw [hg]; exact Int.gcd_dvd_left t b
 have d2:g ∣ b:=by rw [hg]; exact Int.gcd_dvd_right t b
 have s1:s ∣ t:=by rcases hs with ⟨h,_⟩ | ⟨h,_⟩ <;> rw [h]; exact d1; exact Int.neg_dvd.mpr d1
 have s2:s ∣ b:=by rcases hs with ⟨h,_⟩ | ⟨h,_⟩ <;> rw [h]; exact d2; exact Int.neg_dvd.mpr d2
 have s0:s≠0:=by rcases hs with ⟨h,_⟩ | ⟨h,_⟩ <;> omega
 obtain ⟨x,hx⟩:=s1
 obtain ⟨y,hy⟩:=s2
 have ex:t.fdiv s=x:=by rw [hx]; exact Int.mul_fdiv_cancel_left x s0
 have ey:b.fdiv s=y:=by rw [hy]; exact Int.mul_fdiv_cancel_left y s0
 have e1:(t.fdiv s).natAbs≤t.natAbs:=natAbs_fdiv_le t s
 have e2:(b.fdiv s).natAbs≤b.natAbs:=natAbs_fdiv_le b s
 refine ⟨⟨?_,?_⟩,?_,e1,e2⟩
 ·rw [ey]
  rcases hs with ⟨h,hp⟩ | ⟨h,hp⟩
  ·rw [hy,h] at hp
   exact Int.pos_of_mul_pos_right hp gp
  ·rw [hy,h] at hp
   have:0 < g * y:=by rw [Int.neg_mul] at hp; omega
   exact Int.pos_of_mul_pos_right this gp
 ·rw [ex,ey]
  have q:Int.gcd t b=s.natAbs * Int.gcd x y:=by
   rw [hx,hy,Int.gcd_mul_left]
  have sn:s.natAbs=g.toNat:=by rcases hs with ⟨h,_⟩ | ⟨h,_⟩ <;> omega
  have gn:g.toNat=Int.gcd t b:=by omega
  rw [sn,gn] at q
  have pos:0 < Int.gcd t b:=Int.gcd_pos_of_ne_zero_right t hb
  have:Int.gcd t b * Int.gcd x y=Int.gcd t b * 1:=by omega
  exact Nat.eq_of_mul_eq_mul_left pos this
 ·rw [ex,ey]
  have:x * b=x * (s * y):=by rw [← hy]
  have h2:t * y=s * x * y:=by rw [← hx]
  rw [this,h2,← Int.mul_assoc,Int.mul_comm x s]
theorem dvd_co {k n m:Int} (h:k ∣ n * m) (g:Int.gcd k n=1):k ∣ m:=by
 have q:=Int.dvd_gcd_mul_iff_dvd_mul.mpr h
 rw [g] at q
 simpa using q
theorem low_uniq {x y x' y':Int} (h:Low x y) (h':Low x' y') (e:x * y'=x' * y):x=x'∧y=y':=by
 obtain ⟨p,g⟩:=h
 obtain ⟨p',g'⟩:=h'
 have d1:y ∣ y':=by
  have:y ∣ x * y':=⟨x',by rw [e,Int.mul_comm]⟩
  exact dvd_co this (by rw [Int.gcd_comm]; exact g)
 have d2:y' ∣ y:=by
  have:y' ∣ x' * y:=⟨x,by rw [← e,Int.mul_comm]⟩
  exact dvd_co this (by rw [Int.gcd_comm]; exact g')
 have ey:y=y':=Int.dvd_antisymm (Int.le_of_lt p) (Int.le_of_lt p') d1 d2
 refine ⟨?_,ey⟩
 rw [ey] at e
 exact Int.eq_of_mul_eq_mul_right (by omega) e
end Cut
namespace Cut
end Cut
namespace Cut
def Pt (x y z:Int):Prop:=0 < z∧Int.gcd (Int.gcd x y:Nat) z=1
theorem gcd3 (a b n:Int):Int.gcd (Int.gcd a n:Nat) b=Nat.gcd (Nat.gcd a.natAbs b.natAbs) n.natAbs:=by
 show Nat.gcd (Nat.gcd a.natAbs n.natAbs) b.natAbs=_
 rw [Nat.gcd_assoc,Nat.gcd_comm n.natAbs,← Nat.gcd_assoc]
theorem gcd3' (a b n:Int):Int.gcd (Int.gcd a b:Nat) n=Nat.gcd (Nat.gcd a.natAbs b.natAbs) n.natAbs:=rfl
theorem gcd3n (a b n:Int):Int.gcd (Int.gcd n a:Nat) b=Int.gcd (Int.gcd a n:Nat) b:=by
 rw [Int.gcd_comm n a]
theorem gcd3_pos {a b n:Int} (hn:n≠0):0 < ((Int.gcd (Int.gcd a n:Nat) b:Nat):Int):=by
 rw [gcd3]
 have:0 < Nat.gcd (Nat.gcd a.natAbs b.natAbs) n.natAbs:=Nat.gcd_pos_of_pos_right _ (by omega)
 omega
theorem gcd3_dvd (a b n:Int):((Int.gcd (Int.gcd a n:Nat) b:Nat):Int) ∣ a∧((Int.gcd (Int.gcd a n:Nat) b:Nat):Int) ∣ b∧((Int.gcd (Int.gcd a n:Nat) b:Nat):Int) ∣ n:=by
 rw [gcd3]
 have h1:=Nat.gcd_dvd_left (Nat.gcd a.natAbs b.natAbs) n.natAbs
 have h2:=Nat.gcd_dvd_right (Nat.gcd a.natAbs b.natAbs) n.natAbs
 refine ⟨?_,?_,?_⟩
 ·exact Int.ofNat_dvd_left.mpr (Nat.dvd_trans h1 (Nat.gcd_dvd_left _ _))
 ·exact Int.ofNat_dvd_left.mpr (Nat.dvd_trans h1 (Nat.gcd_dvd_right _ _))
 ·exact Int.ofNat_dvd_left.mpr h2
theorem pt_of {a b n g s:Int} (hn:n≠0) (hg:g=(Int.gcd (Int.gcd a n:Nat) b:Nat)) (hs:s=g∧0 < n∨s = -g∧n < 0) :
  Pt (a.fdiv s) (b.fdiv s) (n.fdiv s)∧a.fdiv s * n=a * n.fdiv s∧b.fdiv s * n=b * n.fdiv s∧(a.fdiv s).natAbs≤a.natAbs∧(b.fdiv s).natAbs≤b.natAbs∧(n.fdiv s).natAbs≤n.natAbs:=by
 have gp:0 < g:=by rw [hg]; exact gcd3_pos hn
 obtain ⟨d1,d2,d3⟩:=gcd3_dvd a b n
 rw [← hg] at d1 d2 d3
 have s0:s≠0:=by rcases hs with ⟨h,_⟩ | ⟨h,_⟩ <;> omega
 have dv:∀ z:Int,g ∣ z→s ∣ z:=fun z hz=>by
  rcases hs with ⟨h,_⟩ | ⟨h,_⟩ <;> rw [h]
  ·exact hz
  ·exact Int.neg_dvd.mpr hz
 obtain ⟨x,hx⟩:=dv a d1
 obtain ⟨y,hy⟩:=dv b d2
 obtain ⟨z,hz⟩:=dv n d3
 have ex:a.fdiv s=x:=by rw [hx]; exact Int.mul_fdiv_cancel_left x s0
 have ey:b.fdiv s=y:=by rw [hy]; exact Int.mul_fdiv_cancel_left y s0
 have ez:n.fdiv s=z:=by rw [hz]; exact Int.mul_fdiv_cancel_left z s0
 refine ⟨⟨?_,?_⟩,?_,?_,PySem.natAbs_fdiv_le a s,PySem.natAbs_fdiv_le b s,PySem.natAbs_fdiv_le n s⟩
 ·rw [ez]
  rcases hs with ⟨h,hp⟩ | ⟨h,hp⟩
  ·rw [hz,h] at hp
   exact Int.pos_of_mul_pos_right hp gp
  ·rw [hz,h] at hp
   have:0 < g * z:=by rw [Int.neg_mul] at hp; omega
   exact Int.pos_of_mul_pos_right this gp
 ·rw [ex,ey,ez,gcd3']
  rw [gcd3,hx,hy,hz,Int.natAbs_mul,Int.natAbs_mul,Int.natAbs_mul,Nat.gcd_mul_left,Nat.gcd_mul_left] at hg
  have sn:s.natAbs=g.toNat:=by rcases hs with ⟨h,_⟩ | ⟨h,_⟩ <;> omega
  have pos:0 < s.natAbs:=by omega
  have q:s.natAbs * Nat.gcd (Nat.gcd x.natAbs y.natAbs) z.natAbs=s.natAbs * 1:=by omega
  exact Nat.eq_of_mul_eq_mul_left pos q
 ·rw [ex,ez]
  have h1:x * n=x * (s * z):=by rw [← hz]
  have h2:a * z=s * x * z:=by rw [← hx]
  rw [h1,h2,← Int.mul_assoc,Int.mul_comm x s]
 ·rw [ey,ez]
  have h1:y * n=y * (s * z):=by rw [← hz]
  have h2:b * z=s * y * z:=by rw [← hy]
  rw [h1,h2,← Int.mul_assoc,Int.mul_comm y s]
theorem pt_dvd {x y z x' y' z':Int} (g:Int.gcd (Int.gcd x y:Nat) z=1) (e1:x * z'=x' * z) (e2:y * z'=y' * z):z ∣ z':=by
 have d1:z.natAbs ∣ x.natAbs * z'.natAbs:=⟨x'.natAbs,by rw [← Int.natAbs_mul,e1,Int.natAbs_mul,Nat.mul_comm]⟩
 have d2:z.natAbs ∣ y.natAbs * z'.natAbs:=⟨y'.natAbs,by rw [← Int.natAbs_mul,e2,Int.natAbs_mul,Nat.mul_comm]⟩
 have d3:z.natAbs ∣ z.natAbs * z'.natAbs:=⟨z'.natAbs,rfl⟩
 have q:=Nat.dvd_gcd (Nat.dvd_gcd d1 d2) d3
 rw [Nat.gcd_mul_right,Nat.gcd_mul_right] at q
 rw [gcd3'] at g
 rw [g,Nat.one_mul] at q
 exact Int.natAbs_dvd_natAbs.mp q
theorem pt_uniq {x y z x' y' z':Int} (h:Pt x y z) (h':Pt x' y' z') (e1:x * z'=x' * z) (e2:y * z'=y' * z):x=x'∧y=y'∧z=z':=by
 have d1:=pt_dvd h.2 e1 e2
 have d2:=pt_dvd h'.2 e1.symm e2.symm
 have ez:z=z':=Int.dvd_antisymm (Int.le_of_lt h.1) (Int.le_of_lt h'.1) d1 d2
 subst ez
 have nz:z≠0:=Int.ne_of_gt h.1
 exact ⟨Int.eq_of_mul_eq_mul_right nz e1,Int.eq_of_mul_eq_mul_right nz e2,rfl⟩
theorem gcd3_bits {a b n:Int} {k:Nat} (hn:n≠0) (h:PySem.Builtin.Int.intBits n≤k):PySem.Builtin.Int.intBits ((Int.gcd (Int.gcd a n:Nat) b:Nat):Int)≤k:=by
 refine PySem.intBits_le_of_natAbs ?_ h
 exact Nat.le_of_dvd (by omega) (Int.natAbs_dvd_natAbs.mpr (gcd3_dvd a b n).2.2)
theorem one_ne {u v:Int} (hu:0 < u) (hv:0 < v):u * v≠0:=Int.ne_of_gt (Int.mul_pos hu hv)
end Cut
namespace Cut
theorem pt_neg {x y z:Int} (h:Pt x y z):Pt (-x) (-y) z:=by
 refine ⟨h.1,?_⟩
 have g:=h.2
 rw [gcd3'] at g ⊢
 rw [Int.natAbs_neg,Int.natAbs_neg]
 exact g
end Cut
namespace L3
open PySem L2
open PySem.Builtin.Int (intBits)
inductive D where
 | non | bl (b:Bool) | int (i:Int) | str (x:Str) | ty (n:String) | tup (xs:List D) | lst (xs:List D) | scr (ns:List Int) | ktup (xs:List D) | dct (b:Bool) (ks:List (List (List Int))) (ds:List D)
inductive Cn where
 | l (ds:List D) | d (b:Bool) (t:Option Addr) (ks:List (List (List Int))) (ds:List D)
instance:Coe (List D) Cn:=⟨Cn.l⟩
inductive Sl where
 | no | val (d:D) | own (c:Cn) | bag | new (d:D) | pin (v:V) (d:D)
def hashK (b:Bool) (k:List (List Int)):Int :=
 if b then reduceHash (Builtin.Tuple.tupleHashOf (k.map fun ks=>reduceHash (Builtin.Tuple.tupleHashOf (ks.map hashInt)))) else reduceHash (Builtin.Tuple.tupleHashOf ((k.headD []).map hashInt))
def keyD (b:Bool) (k:List (List Int)):D:=if b then .tup (k.map fun ks=>.tup (ks.map D.int)) else .tup ((k.headD []).map D.int)
def entK (b:Bool):List (List (List Int))→List Addr→List Value→List DictEntry
 | k :: ks,a :: as,u :: us=>⟨hashK b k,.ref a,u⟩ :: entK b ks as us
 | _,_,_=>[]
def DicO (b:Bool) (a:Addr) (ep:Nat) (ks:List (List (List Int))) (as:List Addr) (vs:List V):HO:=.ext fun h=>ks.length≤sizeLine∧as.length=ks.length∧vs.length=ks.length∧(a == sysModules)=false ∧
 ∃ us:List Value,Vals vs us∧∃ o es,h.get? a=some o∧o.ExactDict∧o.data=.dict es ep∧es.toList=entK b ks as us∧ks.Nodup
mutual
inductive Rep (K:PySem.W.Frag) (B:Hp):V→D→Prop where
 | non:Rep K B .non .non
 | bl (b:Bool):Rep K B (.bl b) (.bl b)
 | int (i:Int):Rep K B (.int i) (.int i)
 | str (x:Str):Rep K B (.str x) (.str x)
 | ty (n:String):Rep K B (.ty n) (.ty n)
 | tup {a:Addr} {vs:List V} {ds:List D} (h:B a=some (.tup vs)) (r:Reps K B vs ds):Rep K B (.ref a) (.tup ds)
 | lst {a:Addr} {vs:List V} {ds:List D} (h:B a=some (.lst vs)) (r:Reps K B vs ds):Rep K B (.ref a) (.lst ds)
 | scr {a:Addr} {ns:List Int} (h:SqL K B a (ns.map V.int)):Rep K B (.ref a) (.scr ns)
 | ktup {a:Addr} {vs:List V} {ds:List D} (h:SqT K B a vs) (r:Reps K B vs ds):Rep K B (.ref a) (.ktup ds)
 | dct {a:Addr} {b:Bool} {ep:Nat} {ks:List (List (List Int))} {as:List Addr} {vs:List V} {ds:List D} (h:B a=some (DicO b a ep ks as vs)) (hk:Reps K B (as.map V.ref) (ks.map (keyD b))) (hb:b=false→∀ k∈ks,∃ l,k=[l]) (r:Reps K B vs ds):Rep K B (.ref a) (.dct b ks ds)
inductive Reps (K:PySem.W.Frag) (B:Hp):List V→List D→Prop where
 | nil:Reps K B [] []
 | cons {v:V} {d:D} {vs:List V} {ds:List D} (h:Rep K B v d) (r:Reps K B vs ds):Reps K B (v :: vs) (d :: ds)
end
theorem sameT {K:PySem.W.Frag} {H H':Hp} {a:Addr} {xs:List V} (e:Same H H') (h:SqT K H a xs):SqT K H' a xs:=by
 rcases h with (h | ⟨o,h⟩) | h
 ·exact .inl (.inl (e _ _ h))
 ·exact .inl (.inr ⟨o,e _ _ h⟩)
 ·exact .inr h
section
variable {K:PySem.W.Frag} {B B':Hp}
mutual
theorem Rep.mono (s:Same B B'):∀ {v:V} {d:D},Rep K B v d→Rep K B' v d
 | _,_,.non=>.non
 | _,_,.bl b=>.bl b
 | _,_,.int i=>.int i
 | _,_,.str x=>.str x
 | _,_,.ty n=>.ty n
 | _,_,.tup h r=>.tup (s _ _ h) (Reps.mono s r)
 | _,_,.lst h r=>.lst (s _ _ h) (Reps.mono s r)
 | _,_,.scr h=>.scr (s.seq h)
 | _,_,.ktup h r=>.ktup (sameT s h) (Reps.mono s r)
 | _,_,.dct h hk hb r=>.dct (s _ _ h) (Reps.mono s hk) hb (Reps.mono s r)
theorem Reps.mono (s:Same B B'):∀ {vs:List V} {ds:List D},Reps K B vs ds→Reps K B' vs ds
 | _,_,.nil=>.nil
 | _,_,.cons h r=>.cons (Rep.mono s h) (Reps.mono s r)
end
theorem Reps.length:∀ {vs:List V} {ds:List D},Reps K B vs ds→vs.length=ds.length
 | _,_,.nil=>rfl
 | _,_,.cons _ r=>by rw [List.length_cons,List.length_cons,r.length]
theorem Reps.get:∀ {vs:List V} {ds:List D} {i:Nat} {d:D},Reps K B vs ds→ds[i]?=some d→∃ v,vs[i]?=some v∧Rep K B v d
 | _,_,_,_,.nil,e=>by simp at e
 | _,_,0,_,.cons h _,e=>by simp at e; subst e; exact ⟨_,rfl,h⟩
 | _,_,i + 1,d,.cons _ r,e=>by
  obtain ⟨v,h1,h2⟩:=Reps.get (i:=i) (d:=d) r (by simpa using e)
  exact ⟨v,by simpa using h1,h2⟩
theorem Reps.getV:∀ {vs:List V} {ds:List D} {i:Nat} {v:V},Reps K B vs ds→vs[i]?=some v→∃ d,ds[i]?=some d∧Rep K B v d
 | _,_,_,_,.nil,e=>by simp at e
 | _,_,0,_,.cons h _,e=>by simp at e; subst e; exact ⟨_,rfl,h⟩
 | _,_,i + 1,v,.cons _ r,e=>by
  obtain ⟨d,h1,h2⟩:=Reps.getV (i:=i) (v:=v) r (by simpa using e)
  exact ⟨d,by simpa using h1,h2⟩
theorem Reps.append:∀ {vs ws:List V} {ds es:List D},Reps K B vs ds→Reps K B ws es→Reps K B (vs ++ ws) (ds ++ es)
 | _,_,_,_,.nil,s=>s
 | _,_,_,_,.cons h r,s=>.cons h (Reps.append r s)
theorem Reps.take:∀ {vs:List V} {ds:List D} (n:Nat),Reps K B vs ds→Reps K B (vs.take n) (ds.take n)
 | _,_,0,_=>.nil
 | _,_,_ + 1,.nil=>.nil
 | _,_,n + 1,.cons h r=>.cons h (Reps.take n r)
theorem Reps.drop:∀ {vs:List V} {ds:List D} (n:Nat),Reps K B vs ds→Reps K B (vs.drop n) (ds.drop n)
 | _,_,0,r=>r
 | _,_,_ + 1,.nil=>.nil
 | _,_,n + 1,.cons _ r=>Reps.drop n r
theorem Reps.ints:∀ (ns:List Int),Reps K B (ns.map V.int) (ns.map D.int)
 | []=>.nil
 | n :: r=>.cons (.int n) (Reps.ints r)
end
def Bag (H:Hp) (b:Addr):Prop:=∃ x y:Int,H b=some (.lst [.int x,.int y])∧0≤x∧0≤y∧y < 2147483647
def MutAt (σ:St) (ρ:List Sl) (i:Nat) (a:Addr):Prop:=σ[i]?=some (some (.ref a))∧(ρ[i]?=some .bag∨∃ ds,ρ[i]?=some (.own ds))
structure Wd (R:Hp) (W:Addr→Prop) (B H:Hp):Prop where
 fr:∀ a o,R a=some o→¬ W a→H a=some o
 bh:Same B H
 wb:∀ a,W a→B a=none
 wh:∀ a,W a→Bag H a
 wr:∀ a,W a→R a≠none
open Classical in
noncomputable def mixB (R:Hp) (W:Addr→Prop) (B:Hp):Hp:=fun a=>match R a with
 | some (.lst vs)=>if W a then B a else some (.lst vs)
 | _=>B a
theorem mixB_mono {R:Hp} {W:Addr→Prop} {B B':Hp} (s:Same B B'):Same (mixB R W B) (mixB R W B'):=fun a o h=>by
 unfold mixB at h ⊢
 split at h
 ·split at h
  ·rename_i z; rw [if_pos z]; exact s a o h
  ·rename_i z; rw [if_neg z]; exact h
 ·exact s a o h
def CnOk (K:PySem.W.Frag) (B H:Hp) (a:Addr):Cn→Prop
 | .l ds=>∃ vs,H a=some (.lst vs)∧Reps K B vs ds
 | .d b t ks ds=>∃ ep as vs,(∀ c,t=some c→c=a)∧H a=some (DicO b a ep ks as vs)∧Reps K B (as.map V.ref) (ks.map (keyD b))∧(b=false→∀ k∈ks,∃ l,k=[l])∧Reps K B vs ds
theorem CnOk.mono {K:PySem.W.Frag} {B B' H H':Hp} {a:Addr} {c:Cn} (h:CnOk K B H a c) (s:Same B B') (e:H' a=H a):CnOk K B' H' a c:=by
 cases c with
 | l ds=>obtain ⟨vs,h1,h2⟩:=h; exact ⟨vs,by rw [e]; exact h1,h2.mono s⟩
 | d b t ks ds=>obtain ⟨ep,as,vs,h0,h1,h2,h3,h4⟩:=h; exact ⟨ep,as,vs,h0,by rw [e]; exact h1,h2.mono s,h3,h4.mono s⟩
theorem CnOk.ne {K:PySem.W.Frag} {B H:Hp} {a:Addr} {c:Cn} (h:CnOk K B H a c):H a≠none:=by
 cases c with
 | l ds=>obtain ⟨vs,h1,h2⟩:=h; rw [h1]; simp
 | d b t ks ds=>obtain ⟨ep,as,vs,_,h1,_⟩:=h; rw [h1]; simp
def SlOk (K:PySem.W.Frag) (R:Hp) (W:Addr→Prop) (B H:Hp) (o:Option V):Sl→Prop
 | .no=>True
 | .val d=>∃ v,o=some v∧Rep K B v d
 | .own c=>∃ a,o=some (.ref a)∧R a=none∧B a=none∧CnOk K B H a c
 | .bag=>∃ b,o=some (.ref b)∧(W b∨R b=none)∧B b=none∧Bag H b
 | .new d=>∃ v,o=some v∧Rep K (mixB R W B) v d
 | .pin v d=>o=some v∧Rep K (mixB R W B) v d
structure Ev (K:PySem.W.Frag) (R:Hp) (W:Addr→Prop) (B H:Hp) (σ:St) (ρ:List Sl):Prop extends Wd R W B H where
 len:σ.length=ρ.length
 ok:∀ (i:Nat) (k:Sl),ρ[i]?=some k→SlOk K R W B H (σ[i]?).join k
 sep:∀ (i j:Nat) (a:Addr),MutAt σ ρ i a→MutAt σ ρ j a→i=j
structure Grow (R B B':Hp):Prop where
 s:Same B B'
 n:∀ a o,B' a=some o→B a=some o∨R a=none
theorem Grow.refl (R B:Hp):Grow R B B:=⟨Same.refl _,fun _ _ h=>.inl h⟩
theorem Grow.trans {R B B' B'':Hp} (g:Grow R B B') (h:Grow R B' B''):Grow R B B'':=⟨g.s.trans h.s,fun a o e=>(h.n a o e).elim (g.n a o) .inr⟩
theorem Wd.fresh {R:Hp} {W:Addr→Prop} {B H:Hp} (w:Wd R W B H) {p:Addr} (h:H p=none):R p=none∧¬ W p∧B p=none:=by
 have nw:¬ W p:=fun z=>by
  obtain ⟨x,y,e,_⟩:=w.wh p z
  rw [h] at e; cases e
 refine ⟨?_,nw,w.bh.free h⟩
 cases q:R p with
 | none=>rfl
 | some o=>rw [w.fr p o q nw] at h; cases h
theorem join_some {α:Type} {o:Option (Option α)} {v:α} (h:o.join=some v):o=some (some v):=by
 cases o with
 | none=>cases h
 | some x=>exact congrArg some h
section
variable {K:PySem.W.Frag} {R:Hp} {W:Addr→Prop} {B B' H H':Hp} {σ:St} {ρ:List Sl}
theorem Ev.val (e:Ev K R W B H σ ρ) {i:Nat} {d:D} (h:ρ[i]?=some (.val d)):∃ v,σ[i]?=some (some v)∧Rep K B v d:=by
 obtain ⟨v,h1,h2⟩:=e.ok i _ h
 exact ⟨v,join_some h1,h2⟩
theorem Ev.ownAt (e:Ev K R W B H σ ρ) {i:Nat} {ds:List D} (h:ρ[i]?=some (.own ds)):∃ a vs,σ[i]?=some (some (.ref a))∧R a=none∧B a=none∧H a=some (.lst vs)∧Reps K B vs ds:=by
 obtain ⟨a,h1,h2,h3,vs,h4,h5⟩:=e.ok i _ h
 exact ⟨a,vs,join_some h1,h2,h3,h4,h5⟩
theorem Ev.ownC (e:Ev K R W B H σ ρ) {i:Nat} {c:Cn} (h:ρ[i]?=some (.own c)):∃ a,σ[i]?=some (some (.ref a))∧R a=none∧B a=none∧CnOk K B H a c:=by
 obtain ⟨a,h1,h2⟩:=e.ok i _ h
 exact ⟨a,join_some h1,h2⟩
theorem Ev.bagAt (e:Ev K R W B H σ ρ) {i:Nat} (h:ρ[i]?=some .bag):∃ b,σ[i]?=some (some (.ref b))∧(W b∨R b=none)∧B b=none∧Bag H b:=by
 obtain ⟨a,h1,h2⟩:=e.ok i _ h
 exact ⟨a,join_some h1,h2⟩
theorem Ev.mutOk (e:Ev K R W B H σ ρ) {i:Nat} {a:Addr} (m:MutAt σ ρ i a):B a=none∧H a≠none:=by
 obtain ⟨h1,h2 | ⟨ds,h2⟩⟩:=m
 ·obtain ⟨b,e1,_,e3,x,y,e4,_⟩:=e.bagAt h2
  rw [h1] at e1; cases e1
  exact ⟨e3,by rw [e4]; simp⟩
 ·obtain ⟨b,e1,_,e3,e4⟩:=e.ownC h2
  rw [h1] at e1; cases e1
  exact ⟨e3,e4.ne⟩
theorem Ev.move (e:Ev K R W B H σ ρ) (w:Wd R W B' H') (s:Same B B') (m:∀ i a,MutAt σ ρ i a→B' a=none∧(ρ[i]?=some .bag→Bag H' a)∧((∃ ds,ρ[i]?=some (.own ds))→H' a=H a)):Ev K R W B' H' σ ρ:=by
 refine ⟨w,e.len,fun i k h=>?_,e.sep⟩
 cases k with
 | no=>trivial
 | new d =>
  obtain ⟨v,h1,h2⟩:=e.ok i _ h
  exact ⟨v,h1,h2.mono (mixB_mono s)⟩
 | pin v d =>
  obtain ⟨h1,h2⟩:=e.ok i _ h
  exact ⟨h1,h2.mono (mixB_mono s)⟩
 | val d =>
  obtain ⟨v,h1,h2⟩:=e.ok i _ h
  exact ⟨v,h1,h2.mono s⟩
 | own ds =>
  obtain ⟨a,h1,h2,h3,h4⟩:=e.ok i _ h
  obtain ⟨m1,m2,m3⟩:=m i a ⟨join_some h1,.inr ⟨ds,h⟩⟩
  exact ⟨a,h1,h2,m1,h4.mono s (m3 ⟨ds,h⟩)⟩
 | bag =>
  obtain ⟨b,h1,h2,h3,h4⟩:=e.ok i _ h
  obtain ⟨m1,m2,m3⟩:=m i b ⟨join_some h1,.inl h⟩
  exact ⟨b,h1,h2,m1,m2 h⟩
theorem Bag.upd {H:Hp} {b p:Addr} {o:HO} (h:Bag H b) (n:b≠p):Bag (L2.upd H p o) b:=by
 obtain ⟨x,y,e,q⟩:=h
 exact ⟨x,y,by rw [upd_ne n]; exact e,q⟩
theorem Wd.alloc (w:Wd R W B H) {p:Addr} (h:H p=none) (o:HO):Wd R W (upd B p o) (upd H p o):=by
 obtain ⟨f1,f2,f3⟩:=w.fresh h
 refine ⟨fun a u q nw=>?_,fun a u q=>?_,fun a z=>?_,fun a z=>?_,w.wr⟩
 ·rw [upd_ne (by rintro rfl; rw [f1] at q; cases q)]; exact w.fr a u q nw
 ·unfold L2.upd at q ⊢
  split
  ·rename_i z; rw [if_pos z] at q; exact q
  ·rename_i z; rw [if_neg z] at q; exact w.bh a u q
 ·rw [upd_ne (by rintro rfl; exact f2 z)]; exact w.wb a z
 ·exact (w.wh a z).upd (by rintro rfl; exact f2 z)
theorem Wd.allocH (w:Wd R W B H) {p:Addr} (h:H p=none) (o:HO):Wd R W B (upd H p o):=by
 obtain ⟨f1,f2,f3⟩:=w.fresh h
 refine ⟨fun a u q nw=>?_,fun a u q=>?_,w.wb,fun a z=>?_,w.wr⟩
 ·rw [upd_ne (by rintro rfl; rw [f1] at q; cases q)]; exact w.fr a u q nw
 ·rw [upd_ne (by rintro rfl; rw [f3] at q; cases q)]; exact w.bh a u q
 ·exact (w.wh a z).upd (by rintro rfl; exact f2 z)
theorem Ev.notNew (e:Ev K R W B H σ ρ) {p:Addr} (h:H p=none) {i:Nat} {a:Addr} (m:MutAt σ ρ i a):a≠p:=by
 rintro rfl
 exact (e.mutOk m).2 h
theorem Ev.alloc (e:Ev K R W B H σ ρ) {p:Addr} (h:H p=none) (o:HO):Ev K R W (upd B p o) (upd H p o) σ ρ:=by
 obtain ⟨f1,f2,f3⟩:=e.toWd.fresh h
 refine e.move (e.toWd.alloc h o) (same_new f3 o) fun i a m=>?_
 have n:=e.notNew h m
 refine ⟨by rw [upd_ne n]; exact (e.mutOk m).1,fun z=>?_,fun _=>upd_ne n⟩
 obtain ⟨b,e1,_,_,e4⟩:=e.bagAt z
 rw [m.1] at e1; cases e1
 exact e4.upd n
theorem Ev.allocH (e:Ev K R W B H σ ρ) {p:Addr} (h:H p=none) (o:HO):Ev K R W B (upd H p o) σ ρ:=by
 refine e.move (e.toWd.allocH h o) (Same.refl _) fun i a m=>?_
 have n:=e.notNew h m
 refine ⟨(e.mutOk m).1,fun z=>?_,fun _=>upd_ne n⟩
 obtain ⟨b,e1,_,_,e4⟩:=e.bagAt z
 rw [m.1] at e1; cases e1
 exact e4.upd n
theorem Ev.grow (e:Ev K R W B H σ ρ) {p:Addr} (h:H p=none) (o:HO):Grow R B (upd B p o):=by
 obtain ⟨f1,f2,f3⟩:=e.toWd.fresh h
 refine ⟨same_new f3 o,fun a u q=>?_⟩
 by_cases z:a=p
 ·subst z; exact .inr f1
 ·rw [upd_ne z] at q; exact .inl q
theorem Ev.freezeO (e:Ev K R W B H σ ρ) {a:Addr} {o:HO} (h:H a=some o) (hr:R a=none) (hb:B a=none) (hm:∀ i,¬ MutAt σ ρ i a):Ev K R W (upd B a o) H σ ρ∧Grow R B (upd B a o):=by
 have nw:¬ W a:=fun z=>e.wr a z hr
 refine ⟨e.move ⟨e.fr,fun b u q=>?_,fun b z=>?_,e.wh,e.wr⟩ (same_new hb _) (fun i b m=>?_),⟨same_new hb _,fun b u q=>?_⟩⟩
 ·by_cases z:b=a
  ·subst z; rw [upd_same] at q; cases q; exact h
  ·rw [upd_ne z] at q; exact e.bh b u q
 ·rw [upd_ne (by rintro rfl; exact nw z)]; exact e.wb b z
 ·have n:b≠a:=by rintro rfl; exact hm i m
  refine ⟨by rw [upd_ne n]; exact (e.mutOk m).1,fun z=>?_,fun _=>rfl⟩
  obtain ⟨c,e1,_,_,e4⟩:=e.bagAt z
  rw [m.1] at e1; cases e1
  exact e4
 ·by_cases z:b=a
  ·subst z; exact .inr hr
  ·rw [upd_ne z] at q; exact .inl q
theorem Ev.freeze (e:Ev K R W B H σ ρ) {a:Addr} {vs:List V} (h:H a=some (.lst vs)) (hr:R a=none) (hb:B a=none) (hm:∀ i,¬ MutAt σ ρ i a):Ev K R W (upd B a (.lst vs)) H σ ρ∧Grow R B (upd B a (.lst vs)):=e.freezeO h hr hb hm
theorem getElem?_set_some {α:Type} {l:List α} {i j:Nat} {x y:α} (h:(l.set i x)[j]?=some y):(j=i∧y=x)∨(j≠i∧l[j]?=some y):=by
 by_cases e:i=j
 ·subst e
  rw [List.getElem?_set_self'] at h
  cases q:l[i]? with
  | none=>rw [q] at h; cases h
  | some z=>rw [q] at h; exact .inl ⟨rfl,(Option.some.inj h).symm⟩
 ·rw [List.getElem?_set_ne e] at h
  exact .inr ⟨fun z=>e z.symm,h⟩
theorem mut_set {i j:Nat} {v:V} {k:Sl} {a:Addr} (m:MutAt (σ.set i (some v)) (ρ.set i k) j a):(j=i∧v=.ref a∧(k=.bag∨∃ ds,k=.own ds))∨(j≠i∧MutAt σ ρ j a):=by
 obtain ⟨h1,h2⟩:=m
 rcases getElem?_set_some h1 with ⟨e,h1⟩ | ⟨e,h1⟩
 ·refine .inl ⟨e,(Option.some.inj h1).symm,?_⟩
  rcases h2 with h2 | ⟨ds,h2⟩
  ·rcases getElem?_set_some h2 with ⟨_,h2⟩ | ⟨n,_⟩
   ·exact .inl h2.symm
   ·exact absurd e n
  ·rcases getElem?_set_some h2 with ⟨_,h2⟩ | ⟨n,_⟩
   ·exact .inr ⟨ds,h2.symm⟩
   ·exact absurd e n
 ·refine .inr ⟨e,h1,?_⟩
  rcases h2 with h2 | ⟨ds,h2⟩
  ·rcases getElem?_set_some h2 with ⟨n,_⟩ | ⟨_,h2⟩
   ·exact absurd n e
   ·exact .inl h2
  ·rcases getElem?_set_some h2 with ⟨n,_⟩ | ⟨_,h2⟩
   ·exact absurd n e
   ·exact .inr ⟨ds,h2⟩
theorem Ev.set (e:Ev K R W B H σ ρ) (i:Nat) {v:V} {k:Sl} (hk:SlOk K R W B H (some v) k) (hm:∀ a,v=.ref a→(k=.bag∨∃ ds,k=.own ds)→∀ j,j≠i→¬ MutAt σ ρ j a):Ev K R W B H (σ.set i (some v)) (ρ.set i k):=by
 refine ⟨e.toWd,by rw [List.length_set,List.length_set]; exact e.len,fun j k' h=>?_,fun x y a hx hy=>?_⟩
 ·rcases getElem?_set_some h with ⟨rfl,rfl⟩ | ⟨n,h⟩
  ·have lt:j < σ.length:=by
    rw [e.len]
    by_cases z:j < ρ.length
    ·exact z
    ·rw [List.getElem?_eq_none (by rw [List.length_set]; omega)] at h; cases h
   have q:((σ.set j (some v))[j]?).join=some v:=by rw [List.getElem?_set_self lt]; rfl
   rw [q]; exact hk
  ·rw [List.getElem?_set_ne (fun z=>n z.symm)]
   exact e.ok j k' h
 ·rcases mut_set hx with ⟨e1,v1,k1⟩ | ⟨n1,m1⟩
  ·rcases mut_set hy with ⟨e2,_⟩ | ⟨n2,m2⟩
   ·rw [e1,e2]
   ·exact absurd m2 (hm a v1 k1 y n2)
  ·rcases mut_set hy with ⟨e2,v2,k2⟩ | ⟨n2,m2⟩
   ·exact absurd m1 (hm a v2 k2 x n1)
   ·exact e.sep x y a m1 m2
theorem Ev.setV (e:Ev K R W B H σ ρ) (i:Nat) {v:V} {d:D} (r:Rep K B v d):Ev K R W B H (σ.set i (some v)) (ρ.set i (.val d)) :=
 e.set i ⟨v,rfl,r⟩ fun _ _ z=>by rcases z with z | ⟨_,z⟩ <;> cases z
theorem Ev.setO (e:Ev K R W B H σ ρ) (i:Nat) {a:Addr} {vs:List V} {ds:List D} (hr:R a=none) (hb:B a=none) (hh:H a=some (.lst vs)) (r:Reps K B vs ds) (hm:∀ j,j≠i→¬ MutAt σ ρ j a):Ev K R W B H (σ.set i (some (.ref a))) (ρ.set i (.own ds)) :=
 e.set i ⟨a,rfl,hr,hb,vs,hh,r⟩ fun b z _=>by cases z; exact hm
theorem Ev.setC (e:Ev K R W B H σ ρ) (i:Nat) {a:Addr} {c:Cn} (hr:R a=none) (hb:B a=none) (hh:CnOk K B H a c) (hm:∀ j,j≠i→¬ MutAt σ ρ j a):Ev K R W B H (σ.set i (some (.ref a))) (ρ.set i (.own c)) :=
 e.set i ⟨a,rfl,hr,hb,hh⟩ fun b z _=>by cases z; exact hm
theorem Ev.writeC (e:Ev K R W B H σ ρ) {i:Nat} {a:Addr} {c c':Cn} {o:HO} (h:σ[i]?=some (some (.ref a))) (ho:ρ[i]?=some (.own c)) (r:CnOk K B (upd H a o) a c'):Ev K R W B (upd H a o) σ (ρ.set i (.own c')):=by
 obtain ⟨a',e1,e2,e3,e4⟩:=e.ownC ho
 rw [h] at e1; cases e1
 have nw:¬ W a:=fun z=>e.wr a z e2
 have me:MutAt σ ρ i a:=⟨h,.inr ⟨c,ho⟩⟩
 refine ⟨⟨fun b u q z=>?_,fun b u q=>?_,e.wb,fun b z=>?_,e.wr⟩,by rw [List.length_set]; exact e.len,fun j k q=>?_,fun x y b hx hy=>?_⟩
 ·rw [upd_ne (by rintro rfl; rw [e2] at q; cases q)]; exact e.fr b u q z
 ·rw [upd_ne (by rintro rfl; rw [e3] at q; cases q)]; exact e.bh b u q
 ·exact (e.wh b z).upd (by rintro rfl; exact nw z)
 ·rcases getElem?_set_some q with ⟨rfl,rfl⟩ | ⟨n,q⟩
  ·exact ⟨a,by rw [h]; rfl,e2,e3,r⟩
  ·have z:=e.ok j k q
   cases k with
   | no=>trivial
   | new d=>exact z
   | pin v d=>exact z
   | val d=>exact z
   | own es =>
    obtain ⟨b,z1,z2,z3,z4⟩:=z
    exact ⟨b,z1,z2,z3,z4.mono (Same.refl _) (upd_ne (by rintro rfl; exact n (e.sep j i b ⟨join_some z1,.inr ⟨es,q⟩⟩ me)))⟩
   | bag =>
    obtain ⟨b,z1,z2,z3,z4⟩:=z
    exact ⟨b,z1,z2,z3,z4.upd (by rintro rfl; exact n (e.sep j i b ⟨join_some z1,.inl q⟩ me))⟩
 ·have back:∀ x,MutAt σ (ρ.set i (.own c')) x b→MutAt σ ρ x b:=fun x m=>by
   obtain ⟨m1,m2⟩:=m
   by_cases z:x=i
   ·subst z; exact ⟨m1,.inr ⟨c,ho⟩⟩
   ·refine ⟨m1,?_⟩
    rw [List.getElem?_set_ne (fun w=>z w.symm)] at m2
    exact m2
  exact e.sep x y b (back x hx) (back y hy)
theorem Ev.write (e:Ev K R W B H σ ρ) {i:Nat} {a:Addr} {ds ds':List D} {vs:List V} (h:σ[i]?=some (some (.ref a))) (ho:ρ[i]?=some (.own ds)) (r:Reps K B vs ds'):Ev K R W B (upd H a (.lst vs)) σ (ρ.set i (.own ds')) :=
 e.writeC h ho ⟨vs,upd_same,r⟩
theorem Ev.fz (e:Ev K R W B H σ ρ) {i:Nat} {ds:List D} (ho:ρ[i]?=some (.own ds)):∃ B',Ev K R W B' H σ (ρ.set i (.val (.lst ds)))∧Grow R B B':=by
 obtain ⟨a,vs,e1,e2,e3,e4,e5⟩:=e.ownAt ho
 have me:MutAt σ ρ i a:=⟨e1,.inr ⟨ds,ho⟩⟩
 have f:=(e.setV (d:=.non) i (v:=.non) .non)
 have f2:=f.freeze e4 e2 e3 (fun j m=>by
  rcases mut_set m with ⟨_,z,_⟩ | ⟨n,m⟩
  ·cases z
  ·exact n (e.sep j i a m me))
 refine ⟨_,?_,f2.2⟩
 have g:=f2.1.setV i (v:=.ref a) (d:=.lst ds) (.lst upd_same (e5.mono f2.2.s))
 rw [List.set_set,List.set_set] at g
 have q:σ.set i (some (.ref a))=σ:=by
  apply List.ext_getElem?
  intro j
  by_cases z:i=j
  ·subst z
   have lt:i < σ.length:=by
    by_cases z:i < σ.length
    ·exact z
    ·rw [List.getElem?_eq_none (by omega)] at e1; cases e1
   rw [List.getElem?_set_self lt,e1]
  ·rw [List.getElem?_set_ne z]
 rw [q] at g
 exact g
theorem Ev.fzD (e:Ev K R W B H σ ρ) {i:Nat} {b:Bool} {t:Option Addr} {ks:List (List (List Int))} {ds:List D} (ho:ρ[i]?=some (.own (.d b t ks ds))):∃ B',Ev K R W B' H σ (ρ.set i (.val (.dct b ks ds)))∧Grow R B B':=by
 obtain ⟨a,e1,e2,e3,ep,as,vs,_,e4,e5,e6,e7⟩:=e.ownC ho
 have me:MutAt σ ρ i a:=⟨e1,.inr ⟨_,ho⟩⟩
 have f:=(e.setV (d:=.non) i (v:=.non) .non)
 have f2:=f.freezeO e4 e2 e3 (fun j m=>by
  rcases mut_set m with ⟨_,z,_⟩ | ⟨n,m⟩
  ·cases z
  ·exact n (e.sep j i a m me))
 refine ⟨_,?_,f2.2⟩
 have g:=f2.1.setV i (v:=.ref a) (d:=.dct b ks ds) (.dct upd_same (e5.mono f2.2.s) e6 (e7.mono f2.2.s))
 rw [List.set_set,List.set_set] at g
 have q:σ.set i (some (.ref a))=σ:=by
  apply List.ext_getElem?
  intro j
  by_cases z:i=j
  ·subst z
   have lt:i < σ.length:=by
    by_cases z:i < σ.length
    ·exact z
    ·rw [List.getElem?_eq_none (by omega)] at e1; cases e1
   rw [List.getElem?_set_self lt,e1]
  ·rw [List.getElem?_set_ne z]
 rw [q] at g
 exact g
end
end L3
namespace L3
open PySem L2
open PySem.Builtin.Int (intBits)
abbrev UE:=List Sl→(D→Prop)→Prop
abbrev UL:=List Sl→(List D→Prop)→Prop
abbrev UT:=List Sl→(Bool→Prop)→Prop
inductive Arg where
 | val (d:D) | bag (i:Nat)
abbrev UA:=List Sl→(List Arg→Prop)→Prop
structure UEnds where
 nx:List Sl→Prop
 rt:Sl→Prop
 bk:List Sl→Prop:=fun _=>False
 ct:List Sl→Prop:=fun _=>False
abbrev US:=UEnds→List Sl→Prop
abbrev UG:=D→List Sl→(List Sl→Prop)→Prop
abbrev UGs:=List D→List Sl→(List Sl→Prop)→Prop
section
variable (K:PySem.W.Frag)
def RefE (t:TE) (u:UE):Prop:=∀ (ρ:List Sl) (k:D→Prop),u ρ k→∀ (R:Hp) (W:Addr→Prop) (B H:Hp) (σ:St) (Q:VK),Ev K R W B H σ ρ →
 (∀ d v B' H',k d→Ev K R W B' H' σ ρ→Grow R B B'→Rep K B' v d→Q v H')→t σ H Q
def RefO (t:TE) (u:UL):Prop:=∀ (ρ:List Sl) (k:List D→Prop),u ρ k→∀ (R:Hp) (W:Addr→Prop) (B H:Hp) (σ:St) (Q:VK),Ev K R W B H σ ρ →
 (∀ ds a vs B' H',k ds→Ev K R W B' H' σ ρ→Grow R B B'→R a=none→B' a=none→H' a=some (.lst vs)→Reps K B' vs ds→(∀ i,¬ MutAt σ ρ i a)→Q (.ref a) H')→t σ H Q
def RefT (t:TT) (u:UT):Prop:=∀ (ρ:List Sl) (k:Bool→Prop),u ρ k→∀ (R:Hp) (W:Addr→Prop) (B H:Hp) (σ:St) (Q:Bool→Hp→Prop),Ev K R W B H σ ρ →
 (∀ b B' H',k b→Ev K R W B' H' σ ρ→Grow R B B'→Q b H')→t σ H Q
def RefL (t:TA) (u:UL):Prop:=∀ (ρ:List Sl) (k:List D→Prop),u ρ k→∀ (R:Hp) (W:Addr→Prop) (B H:Hp) (σ:St) (Q:List V→Hp→Prop),Ev K R W B H σ ρ →
 (∀ ds vs B' H',k ds→Ev K R W B' H' σ ρ→Grow R B B'→Reps K B' vs ds→Q vs H')→t σ H Q
inductive ArgsOk (B:Hp) (σ:St) (ρ:List Sl):List V→List Arg→Prop where
 | nil:ArgsOk B σ ρ [] []
 | val {v:V} {d:D} {vs:List V} {as:List Arg} (h:Rep K B v d) (r:ArgsOk B σ ρ vs as):ArgsOk B σ ρ (v :: vs) (.val d :: as)
 | bag {v:V} {i:Nat} {vs:List V} {as:List Arg} (h:σ[i]?=some (some v)) (hb:ρ[i]?=some .bag) (r:ArgsOk B σ ρ vs as):ArgsOk B σ ρ (v :: vs) (.bag i :: as)
def RefA (t:TA) (u:UA):Prop:=∀ (ρ:List Sl) (k:List Arg→Prop),u ρ k→∀ (R:Hp) (W:Addr→Prop) (B H:Hp) (σ:St) (Q:List V→Hp→Prop),Ev K R W B H σ ρ →
 (∀ as vs B' H',k as→Ev K R W B' H' σ ρ→Grow R B B'→ArgsOk K B' σ ρ vs as→Q vs H')→t σ H Q
def newL (R B:Hp):Hp:=fun a=>match B a with
 | some (.lst vs)=>if (R a).isNone then some (.lst vs) else none
 | o=>o
def ResOk (R:Hp) (B H:Hp) (v:V):Sl→Prop
 | .no=>False
 | .val d=>Rep K B v d
 | .own c=>∃ a,v=.ref a∧R a=none∧B a=none∧CnOk K B H a c
 | .bag=>∃ b,v=.ref b∧R b=none∧B b=none∧Bag H b
 | .new d=>Rep K (newL R B) v d
 | .pin _ _=>False
structure Sim (R:Hp) (W:Addr→Prop) (B:Hp) (U:UEnds) (D:Ends):Prop where
 nx:∀ ρ σ B' H',U.nx ρ→Ev K R W B' H' σ ρ→Grow R B B'→D.nx σ H'
 bk:∀ ρ σ B' H',U.bk ρ→Ev K R W B' H' σ ρ→Grow R B B'→D.bk σ H'
 ct:∀ ρ σ B' H',U.ct ρ→Ev K R W B' H' σ ρ→Grow R B B'→D.ct σ H'
 rt:∀ r v B' H',U.rt r→Wd R W B' H'→Grow R B B'→ResOk K R B' H' v r→D.rt v H'
def RefS (t:TS) (u:US):Prop:=∀ (U:UEnds) (ρ:List Sl),u U ρ→∀ (R:Hp) (W:Addr→Prop) (B H:Hp) (σ:St) (D:Ends),Ev K R W B H σ ρ→Sim K R W B U D→t D σ H
def RefG (g:TG) (u:UG):Prop:=∀ (d:D) (ρ:List Sl) (k:List Sl→Prop),u d ρ k→∀ (R:Hp) (W:Addr→Prop) (B H:Hp) (σ:St) (v:V) (Q:St→Hp→Prop),Ev K R W B H σ ρ→Rep K B v d →
 (∀ ρ' σ',k ρ'→Ev K R W B H σ' ρ'→(∀ j a,MutAt σ' ρ' j a→MutAt σ ρ j a)→Q σ' H)→g v σ H Q
def RefGs (g:TGs) (u:UGs):Prop:=∀ (ds:List D) (ρ:List Sl) (k:List Sl→Prop),u ds ρ k→∀ (R:Hp) (W:Addr→Prop) (B H:Hp) (σ:St) (vs:List V) (Q:St→Hp→Prop),Ev K R W B H σ ρ→Reps K B vs ds →
 (∀ ρ' σ',k ρ'→Ev K R W B H σ' ρ'→(∀ j a,MutAt σ' ρ' j a→MutAt σ ρ j a)→Q σ' H)→g vs σ H Q
def ItOk (B:Hp) (J:It) (ds:List D):Prop:=∀ (H:Hp),Same B H→∀ i,(i < ds.length→J.go i H)∧(ds.length≤i→J.stop i H)∧∀ x H',i < ds.length→J.yld i H x H'→H'=H∧∃ d,ds[i]?=some d∧Rep K B x d
def RefI (t:TI) (u:UL):Prop:=∀ (ρ:List Sl) (k:List D→Prop),u ρ k→∀ (R:Hp) (W:Addr→Prop) (B H:Hp) (σ:St) (Q:It→Hp→Prop),Ev K R W B H σ ρ →
 (∀ ds J B' H',k ds→Ev K R W B' H' σ ρ→Grow R B B'→ItOk K B' J ds→Q J H')→t σ H Q
end
theorem newL_sub {R B:Hp}:Same (newL R B) B:=fun a o h=>by
 unfold newL at h
 split at h
 ·rename_i vs e
  split at h
  ·rw [e]; exact h
  ·cases h
 ·exact h
theorem newL_mono {R B B':Hp} (s:Same B B'):Same (newL R B) (newL R B'):=fun a o h=>by
 have hB:=s a o (newL_sub a o h)
 unfold newL at h ⊢
 rw [hB]
 split at h
 ·rename_i vs e
  split at h
  ·rename_i z
   have:=Option.some.inj h
   subst this
   dsimp only
   rw [if_pos z]
  ·cases h
 ·rename_i ne
  cases o with
  | lst vs=>exact absurd h (ne vs)
  | _=>rfl
theorem newL_weak {R R' B:Hp} (w:∀ a,R' a=none→R a=none):Same (newL R' B) (newL R B):=fun a o h=>by
 have hB:=newL_sub a o h
 unfold newL at h ⊢
 rw [hB] at h ⊢
 cases o with
 | lst vs =>
  dsimp only at h ⊢
  split at h
  ·rename_i z
   rw [if_pos (by rw [Option.isNone_iff_eq_none] at z ⊢; exact w a z)]
  ·cases h
 | _=>rfl
theorem newL_at {R B:Hp} {a:Addr} {vs:List V} (h:B a=some (.lst vs)) (n:R a=none):newL R B a=some (.lst vs):=by
 unfold newL
 rw [h]
 dsimp only
 rw [if_pos (by rw [n]; rfl)]
theorem newL_out {R B:Hp} {a:Addr} {vs:List V} (h:newL R B a=some (.lst vs)):B a=some (.lst vs)∧R a=none:=by
 have hB:=newL_sub a _ h
 refine ⟨hB,?_⟩
 unfold newL at h
 rw [hB] at h
 dsimp only at h
 split at h
 ·rename_i z; rw [Option.isNone_iff_eq_none] at z; exact z
 ·cases h
theorem Sim.grow {K:PySem.W.Frag} {R:Hp} {W:Addr→Prop} {B B':Hp} {U:UEnds} {D:Ends} (s:Sim K R W B U D) (g:Grow R B B'):Sim K R W B' U D :=
 ⟨fun ρ σ C H h e q=>s.nx ρ σ C H h e (g.trans q),fun ρ σ C H h e q=>s.bk ρ σ C H h e (g.trans q),fun ρ σ C H h e q=>s.ct ρ σ C H h e (g.trans q),fun r v C H h e q z=>s.rt r v C H h e (g.trans q) z⟩
section
variable (X:Cx)
def PE3 (e:Expr) (u:UE):Prop:=∃ t,PE X e t∧RefE X.K t u
def PO3 (e:Expr) (u:UL):Prop:=∃ t,PE X e t∧RefO X.K t u
def PT3 (e:Expr) (u:UT):Prop:=∃ t,PT X e t∧RefT X.K t u
def PW3 (e:Expr) (u:UT):Prop:=∃ t,PW X e t∧RefT X.K t u
def PL3 (es:List Expr) (u:UL):Prop:=∃ t,PA X es t∧RefL X.K t u
def PA3 (es:List Expr) (u:UA):Prop:=∃ t,PA X es t∧RefA X.K t u
def PS3 (s:Stmt) (u:US):Prop:=∃ t,PS X s t∧RefS X.K t u
def PSs3 (s:List Stmt) (u:US):Prop:=∃ t,PSs X s t∧RefS X.K t u
def PG3 (e:Expr) (u:UG):Prop:=∃ t,PG X e t∧RefG X.K t u
def PGs3 (e:List Expr) (u:UGs):Prop:=∃ t,PGs X e t∧RefGs X.K t u
def PI3 (tg e:Expr) (u:UL):Prop:=∃ t,PI X tg e t∧RefI X.K t u
end
def uVar (i:Nat):UE:=fun ρ k=>∃ d,ρ[i]?=some (.val d)∧k d
def uC (d:D):UE:=fun _ k=>k d
def uI (C:Int→Int→Prop) (g:Int→Int→D) (ua ub:UE):UE:=fun ρ k=>ua ρ fun x=>ub ρ fun y=>∃ i j,x=.int i∧y=.int j∧C i j∧k (g i j)
def uI0 (g:Int→Int→D) (ua ub:UE):UE:=fun ρ k=>ua ρ fun x=>ub ρ fun y=>∃ i j,x=.int i∧y=.int j∧k (g i j)
def uNeg (ua:UE):UE:=fun ρ k=>ua ρ fun x=>∃ i,x=.int i∧k (.int (-i))
section
variable {K:PySem.W.Frag} {X:Cx}
theorem refVar (i:Nat):RefE K (tVar i) (uVar i):=by
 intro ρ k h R W B H σ Q e q
 obtain ⟨d,h,z⟩:=h
 obtain ⟨v,e1,r⟩:=e.val h
 exact ⟨v,e1,q d v B H z e (Grow.refl _ _) r⟩
theorem refC {v:V} {d:D} (h:∀ B,Rep K B v d):RefE K (tC v) (uC d):=fun ρ k z R W B H σ Q e q=>q d v B H z e (Grow.refl _ _) (h B)
theorem ref2 {ta tb:TE} {ua ub:UE} {r:R2} {f:D→D→(D→Prop)→Prop} (ha:RefE K ta ua) (hb:RefE K tb ub)
  (hr:∀ (x y:D) (k:D→Prop),f x y k→∀ (R:Hp) (W:Addr→Prop) (B H:Hp) (σ:St) (ρ:List Sl) (v w:V) (Q:VK),Ev K R W B H σ ρ→Rep K B v x→Rep K B w y→(∀ d v B' H',k d→Ev K R W B' H' σ ρ→Grow R B B'→Rep K B' v d→Q v H')→r v w H Q) :
  RefE K (tOp r ta tb) (fun ρ k=>ua ρ fun x=>ub ρ fun y=>f x y k):=by
 intro ρ k h R W B H σ Q e q
 refine ha ρ _ h R W B H σ _ e fun x v B1 H1 h1 e1 g1 r1=>?_
 refine hb ρ _ h1 R W B1 H1 σ _ e1 fun y w B2 H2 h2 e2 g2 r2=>?_
 exact hr x y k h2 R W B2 H2 σ ρ v w Q e2 (r1.mono g2.s) r2 fun d u B3 H3 h3 e3 g3 r3=>q d u B3 H3 h3 e3 ((g1.trans g2).trans g3) r3
theorem ref1 {ta:TE} {ua:UE} {r:V→Hp→VK→Prop} {f:D→(D→Prop)→Prop} (ha:RefE K ta ua)
  (hr:∀ (x:D) (k:D→Prop),f x k→∀ (R:Hp) (W:Addr→Prop) (B H:Hp) (σ:St) (ρ:List Sl) (v:V) (Q:VK),Ev K R W B H σ ρ→Rep K B v x→(∀ d v B' H',k d→Ev K R W B' H' σ ρ→Grow R B B'→Rep K B' v d→Q v H')→r v H Q) :
  RefE K (tUn r ta) (fun ρ k=>ua ρ fun x=>f x k):=by
 intro ρ k h R W B H σ Q e q
 refine ha ρ _ h R W B H σ _ e fun x v B1 H1 h1 e1 g1 r1=>?_
 exact hr x k h1 R W B1 H1 σ ρ v Q e1 r1 fun d u B3 H3 h3 e3 g3 r3=>q d u B3 H3 h3 e3 (g1.trans g3) r3
theorem Rep.intV {B:Hp} {v:V} {i:Int} (r:Rep K B v (.int i)):v=.int i:=by cases r; rfl
theorem Rep.blV {B:Hp} {v:V} {b:Bool} (r:Rep K B v (.bl b)):v=.bl b:=by cases r; rfl
theorem Rep.nonV {B:Hp} {v:V} (r:Rep K B v .non):v=.non:=by cases r; rfl
theorem Rep.tupV {B:Hp} {v:V} {ds:List D} (r:Rep K B v (.tup ds)):∃ a vs,v=.ref a∧B a=some (.tup vs)∧Reps K B vs ds:=by
 cases r with | tup h r=>exact ⟨_,_,rfl,h,r⟩
theorem Rep.lstV {B:Hp} {v:V} {ds:List D} (r:Rep K B v (.lst ds)):∃ a vs,v=.ref a∧B a=some (.lst vs)∧Reps K B vs ds:=by
 cases r with | lst h r=>exact ⟨_,_,rfl,h,r⟩
theorem Rep.scrV {B:Hp} {v:V} {ns:List Int} (r:Rep K B v (.scr ns)):∃ a,v=.ref a∧SqL K B a (ns.map V.int):=by
 cases r with | scr h=>exact ⟨_,rfl,h⟩
theorem refI {C:Int→Int→Prop} {f:Int→Int→V} {g:Int→Int→D} {ta tb:TE} {ua ub:UE} (hg:∀ B i j,Rep K B (f i j) (g i j)) (ha:RefE K ta ua) (hb:RefE K tb ub):RefE K (tOp (rI C f) ta tb) (uI C g ua ub) :=
 ref2 ha hb fun x y k h R W B H σ ρ v w Q e rx ry q=>by
  obtain ⟨i,j,rfl,rfl,hc,hk⟩:=h
  exact ⟨i,j,rx.intV,ry.intV,hc,q _ _ B H hk e (Grow.refl _ _) (hg B i j)⟩
theorem refI0 {f:Int→Int→V} {g:Int→Int→D} {ta tb:TE} {ua ub:UE} (hg:∀ B i j,Rep K B (f i j) (g i j)) (ha:RefE K ta ua) (hb:RefE K tb ub):RefE K (tOp (rI0 f) ta tb) (uI0 g ua ub) :=
 ref2 ha hb fun x y k h R W B H σ ρ v w Q e rx ry q=>by
  obtain ⟨i,j,rfl,rfl,hk⟩:=h
  exact ⟨i,j,rx.intV,ry.intV,q _ _ B H hk e (Grow.refl _ _) (hg B i j)⟩
theorem refNeg {ta:TE} {ua:UE} (ha:RefE K ta ua):RefE K (tUn (rU fun i=>.int (-i)) ta) (uNeg ua) :=
 ref1 (f:=fun x k=>∃ i,x=.int i∧k (.int (-i))) ha fun x k h R W B H σ ρ v Q e rx q=>by
  obtain ⟨i,rfl,hk⟩:=h
  exact ⟨i,rx.intV,q _ _ B H hk e (Grow.refl _ _) (.int _)⟩
variable {a b:Expr} {ua ub:UE} {pos:Pos}
theorem v3 (i:Nat) {x:Str} {pos:Pos} (hN:X.N[i]?=some x:=by rfl) (hv:Vis X.env.scope x:=by first | exact Or.inl rfl | exact Or.inr (Or.inl rfl) | exact Or.inr (Or.inr rfl)) (hd:(x == ("__debug__" : Str))=false:=by decide)
  (hcd:(x == ("__classdict__" : Str))=false:=by decide):PE3 X (.Name x pos) (uVar i):=⟨_,pe_var hN hv hd hcd,refVar i⟩
theorem e_int {i j pos}:PE3 X (.Constant (.int i) j pos) (uC (.int i)):=⟨_,pe_int,refC fun _=>.int _⟩
theorem e_bl {b j pos}:PE3 X (.Constant (.bool b) j pos) (uC (.bl b)):=⟨_,pe_bl,refC fun _=>.bl _⟩
theorem e_str {x j pos}:PE3 X (.Constant (.str x) j pos) (uC (.str x)):=⟨_,pe_str,refC fun _=>.str _⟩
theorem e_add (ha:PE3 X a ua) (hb:PE3 X b ub):PE3 X (.BinOp a .Add b pos) (uI0 (fun i j=>.int (i + j)) ua ub):=by
 obtain ⟨_,h1,r1⟩:=ha; obtain ⟨_,h2,r2⟩:=hb
 exact ⟨_,pe_op op_add h1 h2,refI0 (fun _ _ _=>.int _) r1 r2⟩
theorem e_sub (ha:PE3 X a ua) (hb:PE3 X b ub):PE3 X (.BinOp a .Sub b pos) (uI0 (fun i j=>.int (i - j)) ua ub):=by
 obtain ⟨_,h1,r1⟩:=ha; obtain ⟨_,h2,r2⟩:=hb
 exact ⟨_,pe_op op_sub h1 h2,refI0 (fun _ _ _=>.int _) r1 r2⟩
theorem e_mul (ha:PE3 X a ua) (hb:PE3 X b ub):PE3 X (.BinOp a .Mult b pos) (uI CMulB (fun i j=>.int (i * j)) ua ub):=by
 obtain ⟨_,h1,r1⟩:=ha; obtain ⟨_,h2,r2⟩:=hb
 exact ⟨_,pe_op op_mulB h1 h2,refI (fun _ _ _=>.int _) r1 r2⟩
theorem e_fdiv (ha:PE3 X a ua) (hb:PE3 X b ub):PE3 X (.BinOp a .FloorDiv b pos) (uI CDivB (fun i j=>.int (i.fdiv j)) ua ub):=by
 obtain ⟨_,h1,r1⟩:=ha; obtain ⟨_,h2,r2⟩:=hb
 exact ⟨_,pe_op op_fdivB h1 h2,refI (fun _ _ _=>.int _) r1 r2⟩
theorem e_mod (ha:PE3 X a ua) (hb:PE3 X b ub):PE3 X (.BinOp a .Mod b pos) (uI (fun _ j=>0 < j) (fun i j=>.int (i % j)) ua ub):=by
 obtain ⟨_,h1,r1⟩:=ha; obtain ⟨_,h2,r2⟩:=hb
 exact ⟨_,pe_op op_mod h1 h2,refI (fun _ _ _=>.int _) r1 r2⟩
theorem e_pow (ha:PE3 X a ua) (hb:PE3 X b ub):PE3 X (.BinOp a .Pow b pos) (uI CPow (fun i j=>.int (i ^ j.toNat)) ua ub):=by
 obtain ⟨_,h1,r1⟩:=ha; obtain ⟨_,h2,r2⟩:=hb
 exact ⟨_,pe_op op_pow h1 h2,refI (fun _ _ _=>.int _) r1 r2⟩
theorem e_neg (ha:PE3 X a ua):PE3 X (.UnaryOp .USub a pos) (uNeg ua):=by
 obtain ⟨_,h1,r1⟩:=ha
 exact ⟨_,pe_un un_neg h1,refNeg r1⟩
def Cm (op:CmpOp) (f:Int→Int→Bool) (X:Cx):Prop:=OpR X (compareOp op) (rI0 fun i j=>.bl (f i j))
theorem e_cmp {op:CmpOp} {f:Int→Int→Bool} (ho:Cm op f X) (ha:PE3 X a ua) (hb:PE3 X b ub) (hm:behindInMarks op b=false):PE3 X (.Compare a [op] [b] pos) (uI0 (fun i j=>.bl (f i j)) ua ub):=by
 obtain ⟨_,h1,r1⟩:=ha; obtain ⟨_,h2,r2⟩:=hb
 exact ⟨_,pe_cmpR ho h1 h2 hm,refI0 (fun _ _ _=>.bl _) r1 r2⟩
def uB (ua:UE):UT:=fun ρ k=>ua ρ fun x=>∃ c,x=.bl c∧k c
def uNotT (u:UT):UT:=fun ρ k=>u ρ fun c=>k (!c)
def uAndT (u w:UT):UT:=fun ρ k=>u ρ fun c=>if c=true then w ρ k else k false
def uOrT (u w:UT):UT:=fun ρ k=>u ρ fun c=>if c=true then k true else w ρ k
theorem refB {ta:TE} {ua:UE} (ha:RefE K ta ua):RefT K (tB ta) (uB ua):=by
 intro ρ k h R W B H σ Q e q
 refine ha ρ _ h R W B H σ _ e fun x v B1 H1 h1 e1 g1 r1=>?_
 obtain ⟨c,rfl,hk⟩:=h1
 exact ⟨c,r1.blV,q c B1 H1 hk e1 g1⟩
theorem t_val {e:Expr} {u:UE} (h:PE3 X e u) (he:∀ whole,isTrue e X.env whole=(do let v ← whole; standAt e.pos; holding [v] (truthy v)):=by intro _; rfl):PT3 X e (uB u):=by
 obtain ⟨_,h1,r1⟩:=h
 exact ⟨_,pt_val h1 he,refB r1⟩
theorem t_cmp {op:CmpOp} {f:Int→Int→Bool} (ho:Cm op f X) (ha:PE3 X a ua) (hb:PE3 X b ub) (hm:behindInMarks op b=false):PT3 X (.Compare a [op] [b] pos) (uB (uI0 (fun i j=>.bl (f i j)) ua ub)):=by
 obtain ⟨_,h1,r1⟩:=ha; obtain ⟨_,h2,r2⟩:=hb
 exact ⟨_,pt_cmpR ho h1 h2 hm,refB (refI0 (fun _ _ _=>.bl _) r1 r2)⟩
theorem refNotT {t:TT} {u:UT} (h:RefT K t u):RefT K (tNot t) (uNotT u):=fun ρ k z R W B H σ Q e q=>h ρ _ z R W B H σ _ e fun b B' H' h1 e1 g1=>q (!b) B' H' h1 e1 g1
theorem refAndT {t t':TT} {u u':UT} (h:RefT K t u) (h':RefT K t' u'):RefT K (tAnd t t') (uAndT u u'):=by
 intro ρ k z R W B H σ Q e q
 refine h ρ _ z R W B H σ _ e fun b B1 H1 h1 e1 g1=>?_
 cases b with
 | true =>
  rw [if_pos rfl] at h1 ⊢
  exact h' ρ _ h1 R W B1 H1 σ _ e1 fun c B2 H2 h2 e2 g2=>q c B2 H2 h2 e2 (g1.trans g2)
 | false =>
  rw [if_neg Bool.false_ne_true] at h1 ⊢
  exact q false B1 H1 h1 e1 g1
theorem refOrT {t t':TT} {u u':UT} (h:RefT K t u) (h':RefT K t' u'):RefT K (tOr t t') (uOrT u u'):=by
 intro ρ k z R W B H σ Q e q
 refine h ρ _ z R W B H σ _ e fun b B1 H1 h1 e1 g1=>?_
 cases b with
 | false =>
  rw [if_neg Bool.false_ne_true] at h1 ⊢
  exact h' ρ _ h1 R W B1 H1 σ _ e1 fun c B2 H2 h2 e2 g2=>q c B2 H2 h2 e2 (g1.trans g2)
 | true =>
  rw [if_pos rfl] at h1 ⊢
  exact q true B1 H1 h1 e1 g1
theorem t_not {u:UT} (h:PT3 X a u):PT3 X (.UnaryOp .Not a pos) (uNotT u):=by
 obtain ⟨_,h1,r1⟩:=h
 exact ⟨_,pt_not h1,refNotT r1⟩
theorem w_and1 {u:UT} (h:PT3 X a u):PW3 X (.BoolOp .And [a] pos) u:=by
 obtain ⟨_,h1,r1⟩:=h
 exact ⟨_,pw_and1 h1,r1⟩
theorem w_or1 {u:UT} (h:PT3 X a u):PW3 X (.BoolOp .Or [a] pos) u:=by
 obtain ⟨_,h1,r1⟩:=h
 exact ⟨_,pw_or1 h1,r1⟩
theorem w_and {rest:List Expr} {u u':UT} (h:PT3 X a u) (h':PW3 X (.BoolOp .And (b :: rest) pos) u'):PW3 X (.BoolOp .And (a :: b :: rest) pos) (uAndT u u'):=by
 obtain ⟨_,h1,r1⟩:=h; obtain ⟨_,h2,r2⟩:=h'
 exact ⟨_,pw_and h1 h2,refAndT r1 r2⟩
theorem w_or {rest:List Expr} {u u':UT} (h:PT3 X a u) (h':PW3 X (.BoolOp .Or (b :: rest) pos) u'):PW3 X (.BoolOp .Or (a :: b :: rest) pos) (uOrT u u'):=by
 obtain ⟨_,h1,r1⟩:=h; obtain ⟨_,h2,r2⟩:=h'
 exact ⟨_,pw_or h1 h2,refOrT r1 r2⟩
theorem w_t {u:UT} (h:PW3 X a u):PT3 X a u:=by
 obtain ⟨_,h1,r1⟩:=h
 exact ⟨_,h1.pt,r1⟩
def uAndV (u w:UE):UE:=fun ρ k=>u ρ fun x=>∃ c,x=.bl c∧if c=true then w ρ k else k (.bl false)
def uNotV (u:UE):UE:=fun ρ k=>u ρ fun x=>∃ c,x=.bl c∧k (.bl (!c))
theorem e_one {op:BoolOp} (h:PE3 X a ua):PE3 X (.BoolOp op [a] pos) ua:=by
 obtain ⟨_,h1,r1⟩:=h
 exact ⟨_,pe_one h1,r1⟩
theorem e_and {rest:List Expr} (h:PE3 X a ua) (h':PE3 X (.BoolOp .And (b :: rest) pos) ub):PE3 X (.BoolOp .And (a :: b :: rest) pos) (uAndV ua ub):=by
 obtain ⟨_,h1,r1⟩:=h; obtain ⟨_,h2,r2⟩:=h'
 refine ⟨_,pe_and h1 h2,fun ρ k z R W B H σ Q e q=>?_⟩
 refine r1 ρ _ z R W B H σ _ e fun x v B1 H1 z1 e1 g1 s1=>?_
 obtain ⟨c,rfl,z1⟩:=z1
 refine ⟨c,s1.blV,?_⟩
 cases c with
 | true =>
  rw [if_pos rfl] at z1 ⊢
  exact r2 ρ _ z1 R W B1 H1 σ _ e1 fun d w B2 H2 h2 e2 g2 s2=>q d w B2 H2 h2 e2 (g1.trans g2) s2
 | false =>
  rw [if_neg Bool.false_ne_true] at z1 ⊢
  exact q _ _ B1 H1 z1 e1 g1 (.bl _)
theorem e_not (h:PE3 X a ua):PE3 X (.UnaryOp .Not a pos) (uNotV ua):=by
 obtain ⟨_,h1,r1⟩:=h
 refine ⟨_,pe_not h1,fun ρ k z R W B H σ Q e q=>?_⟩
 refine r1 ρ _ z R W B H σ _ e fun x v B1 H1 z1 e1 g1 s1=>?_
 obtain ⟨c,rfl,z1⟩:=z1
 exact ⟨c,s1.blV,q _ _ B1 H1 z1 e1 g1 (.bl _)⟩
def uIfE (c:UT) (u w:UE):UE:=fun ρ k=>c ρ fun b=>if b=true then u ρ k else w ρ k
theorem e_ifE {c:Expr} {uc:UT} (hc:PT3 X c uc) (ha:PE3 X a ua) (hb:PE3 X b ub):PE3 X (.IfExp c a b pos) (uIfE uc ua ub):=by
 obtain ⟨_,h0,r0⟩:=hc; obtain ⟨_,h1,r1⟩:=ha; obtain ⟨_,h2,r2⟩:=hb
 refine ⟨_,pe_ifExp h0 h1 h2,fun ρ k z R W B H σ Q e q=>?_⟩
 refine r0 ρ _ z R W B H σ _ e fun c B1 H1 z1 e1 g1=>?_
 cases c with
 | true =>
  rw [if_pos rfl] at z1 ⊢
  exact r1 ρ _ z1 R W B1 H1 σ _ e1 fun d w B2 H2 h2 e2 g2 s2=>q d w B2 H2 h2 e2 (g1.trans g2) s2
 | false =>
  rw [if_neg Bool.false_ne_true] at z1 ⊢
  exact r2 ρ _ z1 R W B1 H1 σ _ e1 fun d w B2 H2 h2 e2 g2 s2=>q d w B2 H2 h2 e2 (g1.trans g2) s2
def uNil:UL:=fun _ k=>k []
def uCons (u:UE) (w:UL):UL:=fun ρ k=>u ρ fun d=>w ρ fun ds=>k (d :: ds)
variable {e:Expr} {es:List Expr} {u:UE} {w:UL}
theorem refNil:RefL K tNil uNil:=fun ρ k h R W B H σ Q e q=>q [] [] B H h e (Grow.refl _ _) .nil
theorem refCons {te:TE} {t:TA} (h1:RefE K te u) (h2:RefL K t w):RefL K (tCons te t) (uCons u w):=by
 intro ρ k h R W B H σ Q e q
 refine h1 ρ _ h R W B H σ _ e fun d v B1 H1 z1 e1 g1 r1=>?_
 refine h2 ρ _ z1 R W B1 H1 σ _ e1 fun ds vs B2 H2 z2 e2 g2 r2=>?_
 exact q _ _ B2 H2 z2 e2 (g1.trans g2) (.cons (r1.mono g2.s) r2)
theorem l_nil:PL3 X [] uNil:=⟨_,pa_nil,refNil⟩
theorem l_cons (ha:PE3 X e u) (hr:PL3 X es w) (hs:starEach (e :: es) X.env=(false,eval e X.env) :: starEach es X.env:=by rfl):PL3 X (e :: es) (uCons u w):=by
 obtain ⟨_,h1,r1⟩:=ha; obtain ⟨_,h2,r2⟩:=hr
 exact ⟨_,pa_cons h1 h2 hs,refCons r1 r2⟩
def uTup (w:UL):UE:=fun ρ k=>w ρ fun ds=>ds.length≤sizeLine∧k (.tup ds)
theorem e_tup {x1} (h:PL3 X es w):PE3 X (.Tuple es x1 pos) (uTup w):=by
 obtain ⟨_,h1,r1⟩:=h
 refine ⟨_,pe_tup h1,fun ρ k z R W B H σ Q e q=>?_⟩
 refine r1 ρ _ z R W B H σ _ e fun ds vs B1 H1 z1 e1 g1 s1=>?_
 refine ⟨by rw [s1.length]; exact z1.1,fun p hp=>?_⟩
 have g2:=e1.grow hp (.tup vs)
 exact q _ _ _ _ z1.2 (e1.alloc hp _) (g1.trans g2) (.tup upd_same (s1.mono g2.s))
def uLst (w:UL):UL:=fun ρ k=>w ρ fun ds=>ds.length≤sizeLine∧k ds
theorem o_lst (h:PL3 X es w):PO3 X (.List es pos) (uLst w):=by
 obtain ⟨_,h1,r1⟩:=h
 refine ⟨_,pe_lst h1,fun ρ k z R W B H σ Q e q=>?_⟩
 refine r1 ρ _ z R W B H σ _ e fun ds vs B1 H1 z1 e1 g1 s1=>?_
 refine ⟨by rw [s1.length]; exact z1.1,fun p hp=>?_⟩
 obtain ⟨f1,f2,f3⟩:=e1.toWd.fresh hp
 exact q ds p vs B1 _ z1.2 (e1.allocH hp _) g1 f1 f3 upd_same s1 fun i m=>e1.notNew hp m rfl
def uFr (w:UL):UE:=fun ρ k=>w ρ fun ds=>k (.lst ds)
theorem refFr {t:TE} (h:RefO K t w):RefE K t (uFr w):=by
 intro ρ k z R W B H σ Q e q
 refine h ρ _ z R W B H σ _ e fun ds a vs B1 H1 z1 e1 g1 hr hb hh rp hm=>?_
 obtain ⟨e2,g2⟩:=e1.freeze hh hr hb hm
 exact q _ _ _ _ z1 e2 (g1.trans g2) (.lst upd_same (rp.mono g2.s))
theorem o_e (h:PO3 X e w):PE3 X e (uFr w):=by
 obtain ⟨_,h1,r1⟩:=h
 exact ⟨_,h1,refFr r1⟩
def uIx (ua ub:UE):UE:=fun ρ k=>ua ρ fun x=>ub ρ fun y=>∃ ds i d,(x=.tup ds∨x=.lst ds)∧y=.int i∧atI ds i=some d∧k d
theorem atI_reps {B:Hp} {vs:List V} {ds:List D} {i:Int} {d:D} (r:Reps K B vs ds) (h:atI ds i=some d):∃ v,atI vs i=some v∧Rep K B v d:=by
 unfold atI at h ⊢
 rw [r.length]
 cases q:ixN ds.length i with
 | none=>rw [q] at h; cases h
 | some j =>
  rw [q] at h
  exact r.get h
theorem e_ix (ha:PE3 X a ua) (hb:PE3 X b ub) (hs:PlainIx b):PE3 X (.Subscript a b pos) (uIx ua ub):=by
 obtain ⟨_,h1,r1⟩:=ha; obtain ⟨_,h2,r2⟩:=hb
 refine ⟨_,pe_ix ix_any h1 h2 hs,ref2 r1 r2 fun x y k h R W B H σ ρ v w' Q e rx ry q=>?_⟩
 obtain ⟨ds,i,d,hx,rfl,ha,hk⟩:=h
 rcases hx with rfl | rfl
 ·obtain ⟨p,vs,rfl,hp,rp⟩:=rx.tupV
  obtain ⟨z,hz,rz⟩:=atI_reps rp ha
  exact ⟨p,vs,i,z,rfl,ry.intV,.inl (e.bh _ _ hp),hz,q d z B H hk e (Grow.refl _ _) rz⟩
 ·obtain ⟨p,vs,rfl,hp,rp⟩:=rx.lstV
  obtain ⟨z,hz,rz⟩:=atI_reps rp ha
  exact ⟨p,vs,i,z,rfl,ry.intV,.inr (e.bh _ _ hp),hz,q d z B H hk e (Grow.refl _ _) rz⟩
end
end L3
namespace L3
open PySem L2
open PySem.Builtin.Int (intBits)
abbrev FS:=List Sl→(Sl→Prop)→Prop
def bags:List Sl→Nat
 | []=>0
 | .bag :: r=>bags r + 1
 | _ :: r=>bags r
inductive ArgsIn (K:PySem.W.Frag) (W:Addr→Prop) (B:Hp):List V→List Sl→Prop where
 | nil:ArgsIn K W B [] []
 | val {v:V} {d:D} {vs:List V} {as:List Sl} (h:Rep K B v d) (r:ArgsIn K W B vs as):ArgsIn K W B (v :: vs) (.val d :: as)
 | bag {b:Addr} {vs:List V} {as:List Sl} (h:W b) (r:ArgsIn K W B vs as):ArgsIn K W B (.ref b :: vs) (.bag :: as)
structure Exit (K:PySem.W.Frag) (W:Addr→Prop) (B H:Hp) (v:V) (r:Sl) (B' H':Hp):Prop where
 wd:Wd H W B' H'
 g:Grow H B B'
 res:ResOk K H B' H' v r
def Con (K:PySem.W.Frag) (n:Nat) (F:FS):Sp:=fun vs H Q _=>∃ (W:Addr→Prop) (B:Hp) (as:List Sl) (k:Sl→Prop),F as k∧as.length=n∧Nat.ble (bags as) 1=true∧Same B H∧(∀ a,W a→B a=none∧Bag H a)∧ArgsIn K W B vs as ∧
 ∀ r v B' H',k r→Exit K W B H v r B' H'→Q v H'
section
variable {K:PySem.W.Frag} {R:Hp} {W:Addr→Prop} {B B' H H':Hp} {σ:St} {ρ:List Sl}
theorem ArgsIn.length:∀ {vs:List V} {as:List Sl},ArgsIn K W B vs as→vs.length=as.length
 | _,_,.nil=>rfl
 | _,_,.val _ r=>by rw [List.length_cons,List.length_cons,r.length]
 | _,_,.bag _ r=>by rw [List.length_cons,List.length_cons,r.length]
theorem ArgsIn.get:∀ {vs:List V} {as:List Sl},ArgsIn K W B vs as→∀ (i:Nat) (k:Sl),as[i]?=some k→(∃ v d,vs[i]?=some v∧k=.val d∧Rep K B v d)∨(∃ b,vs[i]?=some (.ref b)∧k=.bag∧W b)
 | _,_,.nil,i,k,e=>by simp at e
 | _,_,.val h r,0,k,e=>by simp at e; subst e; exact .inl ⟨_,_,rfl,rfl,h⟩
 | _,_,.val h r,i + 1,k,e=>by simpa using r.get i k (by simpa using e)
 | _,_,.bag h r,0,k,e=>by simp at e; subst e; exact .inr ⟨_,rfl,rfl,h⟩
 | _,_,.bag h r,i + 1,k,e=>by simpa using r.get i k (by simpa using e)
theorem bags_none:∀ {as:List Sl} {i:Nat},bags as=0→as[i]?≠some .bag
 | [],i,_=>by simp
 | .bag :: r,i,h=>by simp [bags] at h
 | .no :: r,0,h=>by simp
 | .no :: r,i + 1,h=>by simpa using bags_none (as:=r) (i:=i) h
 | .val d :: r,0,h=>by simp
 | .val d :: r,i + 1,h=>by simpa using bags_none (as:=r) (i:=i) h
 | .new d :: r,0,h=>by simp
 | .new d :: r,i + 1,h=>by simpa using bags_none (as:=r) (i:=i) h
 | .pin v d :: r,0,h=>by simp
 | .pin v d :: r,i + 1,h=>by simpa using bags_none (as:=r) (i:=i) h
 | .own d :: r,0,h=>by simp
 | .own d :: r,i + 1,h=>by simpa using bags_none (as:=r) (i:=i) h
theorem bags_one:∀ {as:List Sl} {i j:Nat},bags as≤1→as[i]?=some .bag→as[j]?=some .bag→i=j
 | [],i,j,_,e,_=>by simp at e
 | .bag :: r,0,0,_,_,_=>rfl
 | .bag :: r,0,j + 1,h,_,e=>absurd (by simpa using e) (bags_none (as:=r) (i:=j) (by simp [bags] at h; exact h))
 | .bag :: r,i + 1,_,h,e,_=>absurd (by simpa using e) (bags_none (as:=r) (i:=i) (by simp [bags] at h; exact h))
 | .no :: r,0,_,_,e,_=>by simp at e
 | .no :: r,i + 1,0,_,_,e=>by simp at e
 | .no :: r,i + 1,j + 1,h,e,e'=>by rw [bags_one (as:=r) (i:=i) (j:=j) h (by simpa using e) (by simpa using e')]
 | .val d :: r,0,_,_,e,_=>by simp at e
 | .val d :: r,i + 1,0,_,_,e=>by simp at e
 | .val d :: r,i + 1,j + 1,h,e,e'=>by rw [bags_one (as:=r) (i:=i) (j:=j) h (by simpa using e) (by simpa using e')]
 | .new d :: r,0,_,_,e,_=>by simp at e
 | .new d :: r,i + 1,0,_,_,e=>by simp at e
 | .new d :: r,i + 1,j + 1,h,e,e'=>by rw [bags_one (as:=r) (i:=i) (j:=j) h (by simpa using e) (by simpa using e')]
 | .pin v d :: r,0,_,_,e,_=>by simp at e
 | .pin v d :: r,i + 1,0,_,_,e=>by simp at e
 | .pin v d :: r,i + 1,j + 1,h,e,e'=>by rw [bags_one (as:=r) (i:=i) (j:=j) h (by simpa using e) (by simpa using e')]
 | .own d :: r,0,_,_,e,_=>by simp at e
 | .own d :: r,i + 1,0,_,_,e=>by simp at e
 | .own d :: r,i + 1,j + 1,h,e,e'=>by rw [bags_one (as:=r) (i:=i) (j:=j) h (by simpa using e) (by simpa using e')]
theorem Ev.after {W':Addr→Prop} (e:Ev K R W B H σ ρ) (hW:∀ a,W' a→∃ i:Nat,σ[i]?=some (some (.ref a))∧ρ[i]?=some .bag) (wd:Wd H W' B' H') (g:Grow H B B'):Ev K R W B' H' σ ρ∧Grow R B B':=by
 have nb:∀ a,B a=none→H a≠none→B' a=none:=fun a h1 h2=>by
  cases q:B' a with
  | none=>rfl
  | some o =>
   rcases g.n a o q with z | z
   ·rw [h1] at z; cases z
   ·exact absurd z h2
 have st:∀ a,¬ W' a→H a≠none→H' a=H a:=fun a h1 h2=>by
  cases q:H a with
  | none=>exact absurd q h2
  | some o=>exact wd.fr a o q h1
 have bagS:∀ a,Bag H a→Bag H' a:=fun a h=>by
  by_cases z:W' a
  ·exact wd.wh a z
  ·obtain ⟨x,y,e1,q⟩:=h
   exact ⟨x,y,by rw [st a z (by rw [e1]; simp)]; exact e1,q⟩
 have bagN:∀ a,Bag H a→H a≠none:=fun a ⟨x,y,e1,_⟩=>by rw [e1]; simp
 refine ⟨e.move ⟨fun a o h nw=>?_,wd.bh,fun a h=>nb a (e.wb a h) (bagN a (e.wh a h)),fun a h=>bagS a (e.wh a h),e.wr⟩ g.s (fun i a m=>⟨nb a (e.mutOk m).1 (e.mutOk m).2,fun z=>?_,fun ⟨ds,z⟩=>?_⟩),⟨g.s,fun a o h=>?_⟩⟩
 ·have h1:=e.fr a o h nw
  refine wd.fr a o h1 fun z=>?_
  obtain ⟨i,z1,z2⟩:=hW a z
  obtain ⟨b,y1,y2,_⟩:=e.bagAt z2
  rw [z1] at y1; cases y1
  rcases y2 with y2 | y2
  ·exact nw y2
  ·rw [y2] at h; cases h
 ·obtain ⟨b,y1,_,_,y4⟩:=e.bagAt z
  rw [m.1] at y1; cases y1
  exact bagS _ y4
 ·refine st a (fun q=>?_) (e.mutOk m).2
  obtain ⟨j,z1,z2⟩:=hW a q
  have:=e.sep i j a m ⟨z1,.inl z2⟩
  subst this
  rw [z] at z2; cases z2
 ·rcases g.n a o h with z | z
  ·exact .inl z
  ·exact .inr (e.toWd.fresh z).1
theorem Ev.start {N:List Str} {vs:List V} {as:List Sl} (hb:bags as≤1) (sB:Same B H) (hw:∀ a,W a→B a=none∧Bag H a) (ai:ArgsIn K W B vs as):Ev K H W B H (L2.start N vs) (as ++ List.replicate (N.length - as.length) .no):=by
 have hl:=ai.length
 have wd:Wd H W B H:=⟨fun _ _ h _=>h,sB,fun a h=>(hw a h).1,fun a h=>(hw a h).2,fun a h=>by obtain ⟨x,y,q,_⟩:=(hw a h).2; rw [q]; simp⟩
 have lo:∀ i k,as[i]?=some k→(L2.start N vs)[i]?=(vs[i]?).map some:=fun i k h=>by
  have lt:i < as.length:=by
   by_cases z:i < as.length
   ·exact z
   ·rw [List.getElem?_eq_none (by omega)] at h; cases h
  unfold L2.start
  rw [List.getElem?_append_left (by rw [List.length_map]; omega),List.getElem?_map]
 have cs:∀ (i:Nat) (k:Sl),(as ++ List.replicate (N.length - as.length) Sl.no)[i]?=some k→as[i]?=some k∨k=Sl.no:=fun i k h=>by
  by_cases z:i < as.length
  ·rw [List.getElem?_append_left z] at h; exact .inl h
  ·rw [List.getElem?_append_right (by omega)] at h
   rw [List.getElem?_replicate] at h
   split at h
   ·exact .inr (Option.some.inj h).symm
   ·cases h
 have bg:∀ i:Nat,(as ++ List.replicate (N.length - as.length) Sl.no)[i]?=some Sl.bag→as[i]?=some Sl.bag:=fun i h=>by
  rcases cs i _ h with h | h
  ·exact h
  ·cases h
 refine ⟨wd,by unfold L2.start; simp [hl],fun i k h=>?_,fun i j a m1 m2=>?_⟩
 ·rcases cs i k h with h | rfl
  ·rw [lo i k h]
   rcases ai.get i k h with ⟨v,d,h1,rfl,r⟩ | ⟨b,h1,rfl,r⟩
   ·rw [h1]; exact ⟨v,rfl,r⟩
   ·rw [h1]; exact ⟨b,rfl,.inl r,(hw b r).1,(hw b r).2⟩
  ·trivial
 ·have one:∀ i,MutAt (L2.start N vs) (as ++ List.replicate (N.length - as.length) Sl.no) i a→as[i]?=some .bag:=fun i m=>by
   rcases m.2 with z | ⟨ds,z⟩
   ·exact bg i z
   ·rcases cs i _ z with z | z
    ·rcases ai.get i _ z with ⟨v,d,_,q,_⟩ | ⟨b,_,q,_⟩ <;> cases q
    ·cases z
  exact bags_one hb (one i m1) (one j m2)
theorem def3 {P:Program} {w:World} {mg:Str→Option Value} {base:Heap} {x:Str} {st:Stmt} {N ps:List Str} {lv n:Nat} {F:FS} (Fd:Fnd K mg x st ps) (S:FnScope N ps (defScope st)) (hn:ps.length=n)
  (hbody:∀ (f:Addr) (cdv:Value) (A:Around) (outer:List PySem.Env) (s:Shared) (H:Hp) (E:XK),Room lv (A.deeper (PyProof.Rows.envOfC x (defScope st) s.heap.objs.size f cdv)) →
   ∃ u,PSs3 (cxOf CX0 P w K mg base N x (defScope st) f cdv A outer s H E).nox (defBody st) u∧∀ as k,as.length=n→F as k→u { nx:=fun _=>k (.val .non),rt:=k } (as ++ List.replicate (N.length - n) .no)):Cal P w K mg base x ps (lv + 1) (Con K n F):=by
 refine Fd.ok S (fun vs H Q E h=>?_) (fun f cdv A outer s H vs Q E hr h=>?_)
 ·obtain ⟨W,B,as,k,_,hl,_,_,_,ai,_⟩:=h
  rw [ai.length,hl,hn]
 ·obtain ⟨W,B,as,k,hF,hl,hb,sB,hw,ai,q⟩:=h
  obtain ⟨u,⟨t,ht,rt⟩,hu⟩:=hbody f cdv A outer s H E hr
  have ev:=Ev.start (N:=N) (Nat.le_of_ble_eq_true hb) sB hw ai
  rw [hl] at ev
  refine ⟨t,ht,rt _ _ (hu as k hl hF) H W B H (L2.start N vs) _ ev ⟨fun ρ σ B' H' h e g=>?_,fun _ _ _ _ h=>h.elim,fun _ _ _ _ h=>h.elim,fun r v B' H' h e g z=>q r v B' H' h ⟨e,g,z⟩⟩⟩
  exact q _ _ B' H' h ⟨e.toWd,g,.non⟩
end
def Arg.sl:Arg→Sl
 | .val d=>.val d
 | .bag _=>.bag
def fzR:Sl→(D→Prop)→Prop
 | .val d,k=>k d
 | .own (.l ds),k=>k (.lst ds)
 | .new d,k=>k d
 | _,_=>False
def uaNil:UA:=fun _ k=>k []
def uaV (u:UE) (w:UA):UA:=fun ρ k=>u ρ fun d=>w ρ fun as=>k (.val d :: as)
def uaB (i:Nat) (w:UA):UA:=fun ρ k=>ρ[i]?=some .bag∧w ρ fun as=>k (.bag i :: as)
def sh (as:List Arg) (n:Nat):Bool:=Nat.beq as.length n && Nat.ble (bags (as.map Arg.sl)) 1
def uCall (n:Nat) (F:FS) (w:UA):UE:=fun ρ k=>w ρ fun as=>sh as n=true∧F (as.map Arg.sl) fun r=>fzR r k
section
variable {K:PySem.W.Frag} {X:Cx} {e:Expr} {es:List Expr} {u:UE} {w:UA} {pos p:Pos} {n:Nat} {F:FS}
theorem a_nil:PA3 X [] uaNil:=⟨_,pa_nil,fun ρ k h R W B H σ Q e q=>q [] [] B H h e (Grow.refl _ _) .nil⟩
theorem a_val (ha:PE3 X e u) (hr:PA3 X es w) (hs:starEach (e :: es) X.env=(false,eval e X.env) :: starEach es X.env:=by rfl):PA3 X (e :: es) (uaV u w):=by
 obtain ⟨_,h1,r1⟩:=ha; obtain ⟨_,h2,r2⟩:=hr
 refine ⟨_,pa_cons h1 h2 hs,fun ρ k h R W B H σ Q e q=>?_⟩
 refine r1 ρ _ h R W B H σ _ e fun d v B1 H1 z1 e1 g1 s1=>?_
 refine r2 ρ _ z1 R W B1 H1 σ _ e1 fun as vs B2 H2 z2 e2 g2 s2=>?_
 exact q _ _ B2 H2 z2 e2 (g1.trans g2) (.val (s1.mono g2.s) s2)
theorem a_bag (i:Nat) {x:Str} {px:Pos} (hr:PA3 X es w) (hN:X.N[i]?=some x:=by rfl) (hv:Vis X.env.scope x:=by first | exact Or.inl rfl | exact Or.inr (Or.inl rfl) | exact Or.inr (Or.inr rfl)) (hd:(x == ("__debug__" : Str))=false:=by decide)
  (hcd:(x == ("__classdict__" : Str))=false:=by decide) (hs:starEach (.Name x px :: es) X.env=(false,eval (.Name x px) X.env) :: starEach es X.env:=by rfl):PA3 X (.Name x px :: es) (uaB i w):=by
 obtain ⟨_,h2,r2⟩:=hr
 refine ⟨_,pa_cons (pe_var hN hv hd hcd) h2 hs,fun ρ k h R W B H σ Q e q=>?_⟩
 obtain ⟨hb,h⟩:=h
 obtain ⟨b,b1,b2⟩:=e.bagAt hb
 refine ⟨_,b1,?_⟩
 refine r2 ρ _ h R W B H σ _ e fun as vs B2 H2 z2 e2 g2 s2=>?_
 exact q _ _ B2 H2 z2 e2 g2 (.bag b1 hb s2)
theorem ArgsOk.toIn {B:Hp} {σ:St} {ρ:List Sl} {W:Addr→Prop} {R H:Hp} {W0:Addr→Prop} (e:Ev K R W0 B H σ ρ):∀ {vs:List V} {as:List Arg},ArgsOk K B σ ρ vs as→(∀ i b,Arg.bag i∈as→σ[i]?=some (some (.ref b))→W b)→ArgsIn K W B vs (as.map Arg.sl)
 | _,_,.nil,_=>.nil
 | _,_,.val h r,hw=>.val h (ArgsOk.toIn e r fun i b m=>hw i b (List.mem_cons_of_mem _ m))
 | _,_,.bag h hb r,hw=>by
  obtain ⟨b,b1,_⟩:=e.bagAt hb
  rw [h] at b1; cases b1
  exact .bag (hw _ b List.mem_cons_self h) (ArgsOk.toIn e r fun i c m=>hw i c (List.mem_cons_of_mem _ m))
theorem ArgsOk.bagIn {B:Hp} {σ:St} {ρ:List Sl}:∀ {vs:List V} {as:List Arg} {i:Nat},ArgsOk K B σ ρ vs as→Arg.bag i∈as→ρ[i]?=some .bag
 | _,_,_,.nil,m=>by simp at m
 | _,_,_,.val h r,m=>by
  rcases List.mem_cons.mp m with m | m
  ·cases m
  ·exact r.bagIn m
 | _,_,_,.bag h hb r,m=>by
  rcases List.mem_cons.mp m with m | m
  ·cases m; exact hb
  ·exact r.bagIn m
theorem call_ok {R:Hp} {W:Addr→Prop} {B H:Hp} {σ:St} {ρ:List Sl} {vs:List V} {as:List Arg} {k:Sl→Prop} {Q:VK} {E:XK} (e:Ev K R W B H σ ρ) (ok:ArgsOk K B σ ρ vs as) (hs:sh as n=true) (hF:F (as.map Arg.sl) k)
  (q:∀ r v B' H',k r→Ev K R W B' H' σ ρ→Grow R B B'→ResOk K H B' H' v r→Q v H'):Con K n F vs H Q E:=by
 rw [sh,Bool.and_eq_true] at hs
 have h1:as.length=n:=Nat.eq_of_beq_eq_true hs.1
 have hW:∀ a,(∃ i:Nat,Arg.bag i∈as∧σ[i]?=some (some (.ref a)))→∃ i:Nat,σ[i]?=some (some (.ref a))∧ρ[i]?=some .bag:=fun a ⟨i,m,z⟩=>⟨i,z,ok.bagIn m⟩
 refine ⟨fun a=>∃ i:Nat,Arg.bag i∈as∧σ[i]?=some (some (.ref a)),B,as.map Arg.sl,k,hF,by rw [List.length_map]; exact h1,hs.2,e.bh,fun a h=>?_,ok.toIn e fun i b m z=>⟨i,m,z⟩,fun r v B' H' hk ex=>?_⟩
 ·obtain ⟨i,z1,z2⟩:=hW a h
  obtain ⟨b,b1,_,b3,b4⟩:=e.bagAt z2
  rw [z1] at b1; cases b1
  exact ⟨b3,b4⟩
 ·obtain ⟨e2,g2⟩:=e.after hW ex.wd ex.g
  exact q r v B' H' hk e2 g2 ex.res
theorem e_call {x:Str} {ps:List Str} {j lv:Nat} (c:Cal X.prog X.w X.K X.mg X.base x ps j (Con X.K n F)) (hr:Room lv X.A) (hg:Gl X x) (ha:PA3 X (e :: es) w) (hjk:j≤lv:=by decide)
  (hdb:(x == ("__debug__" : Str))=false:=by decide) (he:starEach (e :: es) X.env=(false,eval e X.env) :: starEach es X.env:=by rfl) (hpl:(backTo pos (starEach es X.env)).any (·.1)=false:=by rfl) :
  PE3 X (.Call (.Name x p) (e :: es) [] pos) (uCall n F w):=by
 obtain ⟨_,h1,r1⟩:=ha
 refine ⟨_,pe_cal c hr hg h1 hjk hdb he hpl,fun ρ k h R W B H σ Q e q=>?_⟩
 refine r1 ρ _ h R W B H σ _ e fun as vs B1 H1 z1 e1 g1 s1=>?_
 rw [List.append_nil]
 refine call_ok e1 s1 z1.1 z1.2 fun r v B2 H2 hk e2 g2 res=>?_
 cases r with
 | no=>exact hk.elim
 | bag=>exact hk.elim
 | pin v d=>exact hk.elim
 | val d=>exact q d v B2 H2 hk e2 (g1.trans g2) res
 | new d=>exact q d v B2 H2 hk e2 (g1.trans g2) (Rep.mono newL_sub res)
 | own c =>
  cases c with
  | d _ _ _ _=>exact hk.elim
  | l ds =>
  obtain ⟨a,rfl,f1,f2,us,f3,f4⟩:=res
  obtain ⟨e3,g3⟩:=e2.freeze f3 (e1.toWd.fresh f1).1 f2 fun i m=>absurd f1 (by
   have m1:MutAt σ ρ i a:=m
   exact (e1.mutOk m1).2)
  exact q _ _ _ _ hk e3 ((g1.trans g2).trans g3) (.lst upd_same (f4.mono g3.s))
end
def lenD:D→Option Nat
 | .tup ds=>some ds.length
 | .lst ds=>some ds.length
 | .scr ns=>some ns.length
 | _=>none
def uLen (u:UE):UE:=fun ρ k=>u ρ fun x=>∃ n,lenD x=some n∧k (.int n)
def uLenO (i:Nat):UE:=fun ρ k=>∃ ds:List D,ρ[i]?=some (.own ds)∧k (.int ds.length)
def uAbs (u:UE):UE:=fun ρ k=>u ρ fun x=>∃ i,x=.int i∧k (.int (if i < 0 then -i else i))
def uInt (u:UE):UE:=fun ρ k=>u ρ fun x=>(∃ i,x=.int i∧k (.int i))∨∃ c,x=.bl c∧k (.int (if c then 1 else 0))
def tyD:D→Option String
 | .int _=>some "int"
 | .bl _=>some "bool"
 | .tup _=>some "tuple"
 | .lst _=>some "list"
 | .non=>some "NoneType"
 | .str _=>some "str"
 | _=>none
def uIsi (u:UE) (n:String):UE:=fun ρ k=>u ρ fun x=>∃ t b,tyD x=some t∧(∀ K,PySem.W.kitOne K (.type t) (.type n)=some b)∧k (.bl b)
section
variable {K:PySem.W.Frag} {X:Cx} {e:Expr} {es:List Expr} {u:UE} {pos p:Pos} {n:Nat}
theorem refCB1 {te:TE} {r:List V→Hp→VK→Prop} {f:D→(D→Prop)→Prop} (ha:RefE K te u)
  (hr:∀ (x:D) (k:D→Prop),f x k→∀ (R:Hp) (W:Addr→Prop) (B H:Hp) (σ:St) (ρ:List Sl) (v:V) (Q:VK),Ev K R W B H σ ρ→Rep K B v x→(∀ d v B' H',k d→Ev K R W B' H' σ ρ→Grow R B B'→Rep K B' v d→Q v H')→r [v] H Q) :
  RefE K (tCB r (tCons te tNil)) (fun ρ k=>u ρ fun x=>f x k):=by
 intro ρ k h R W B H σ Q e q
 refine ha ρ _ h R W B H σ _ e fun x v B1 H1 h1 e1 g1 r1=>?_
 exact hr x k h1 R W B1 H1 σ ρ v Q e1 r1 fun d u B3 H3 h3 e3 g3 r3=>q d u B3 H3 h3 e3 (g1.trans g3) r3
theorem e_len (ha:PE3 X e u) (hg:Gl X "len") (hm:X.mg "len" = none) (hs:starEach [e] X.env=(false,eval e X.env) :: starEach [] X.env:=by rfl):PE3 X (.Call (.Name "len" p) [e] [] pos) (uLen u):=by
 obtain ⟨_,h1,r1⟩:=ha
 refine ⟨_,pe_callB call_len_seq hg hm PySem.boot_len (pa_cons h1 pa_nil hs) (by decide) (by decide) hs,refCB1 (f:=fun x k=>∃ n,lenD x=some n∧k (.int n)) r1 fun x k h R W B H σ ρ v Q e rx q=>?_⟩
 obtain ⟨n,hn,hk⟩:=h
 cases x <;> first | (cases hn; done) | skip
 ·obtain ⟨a,vs,rfl,ha,r⟩:=rx.tupV
  cases hn
  rw [← r.length] at hk
  exact ⟨a,vs,rfl,.inr (SqT.of (e.bh _ _ ha)),q _ _ B H hk e (Grow.refl _ _) (.int _)⟩
 ·obtain ⟨a,vs,rfl,ha,r⟩:=rx.lstV
  cases hn
  rw [← r.length] at hk
  exact ⟨a,vs,rfl,.inl (SqL.of (e.bh _ _ ha)),q _ _ B H hk e (Grow.refl _ _) (.int _)⟩
 ·obtain ⟨a,rfl,ha⟩:=rx.scrV
  cases hn
  refine ⟨a,_,rfl,.inl (e.bh.seq ha),?_⟩
  rw [List.length_map]
  exact q _ _ B H hk e (Grow.refl _ _) (.int _)
theorem e_lenO (i:Nat) {x:Str} {px:Pos} (hg:Gl X "len") (hm:X.mg "len" = none) (hN:X.N[i]?=some x:=by rfl) (hv:Vis X.env.scope x:=by first | exact Or.inl rfl | exact Or.inr (Or.inl rfl) | exact Or.inr (Or.inr rfl)) (hd:(x == ("__debug__" : Str))=false:=by decide)
  (hcd:(x == ("__classdict__" : Str))=false:=by decide) (hs:starEach [.Name x px] X.env=(false,eval (.Name x px) X.env) :: starEach [] X.env:=by rfl):PE3 X (.Call (.Name "len" p) [.Name x px] [] pos) (uLenO i):=by
 refine ⟨_,pe_callB call_len_seq hg hm PySem.boot_len (pa_cons (pe_var hN hv hd hcd) pa_nil hs) (by decide) (by decide) hs,fun ρ k h R W B H σ Q e q=>?_⟩
 obtain ⟨ds,ho,hk⟩:=h
 obtain ⟨a,vs,e1,e2,e3,e4,e5⟩:=e.ownAt ho
 rw [← e5.length] at hk
 exact ⟨_,e1,a,vs,rfl,.inl (SqL.of e4),q _ _ B H hk e (Grow.refl _ _) (.int _)⟩
theorem e_abs (ha:PE3 X e u) (hg:Gl X "abs") (hm:X.mg "abs" = none) (hs:starEach [e] X.env=(false,eval e X.env) :: starEach [] X.env:=by rfl):PE3 X (.Call (.Name "abs" p) [e] [] pos) (uAbs u):=by
 obtain ⟨_,h1,r1⟩:=ha
 refine ⟨_,pe_callB call_abs hg hm (by decide +kernel) (pa_cons h1 pa_nil hs) (by decide) (by decide) hs,refCB1 (f:=fun x k=>∃ i,x=.int i∧k (.int (if i < 0 then -i else i))) r1 fun x k h R W B H σ ρ v Q e rx q=>?_⟩
 obtain ⟨i,rfl,hk⟩:=h
 exact ⟨i,by rw [rx.intV],q _ _ B H hk e (Grow.refl _ _) (.int _)⟩
theorem e_toInt (ha:PE3 X e u) (hg:Gl X "int") (hm:X.mg "int" = none) (hs:starEach [e] X.env=(false,eval e X.env) :: starEach [] X.env:=by rfl):PE3 X (.Call (.Name "int" p) [e] [] pos) (uInt u):=by
 obtain ⟨_,h1,r1⟩:=ha
 refine ⟨_,pe_callTy call_int1 hg hm (by decide +kernel) (pa_cons h1 pa_nil hs) (by decide) (by decide) hs,refCB1 (f:=fun x k=>(∃ i,x=.int i∧k (.int i))∨∃ c,x=.bl c∧k (.int (if c then 1 else 0))) r1 fun x k h R W B H σ ρ v Q e rx q=>?_⟩
 rcases h with ⟨i,rfl,hk⟩ | ⟨c,rfl,hk⟩
 ·exact .inl ⟨i,by rw [rx.intV],q _ _ B H hk e (Grow.refl _ _) (.int _)⟩
 ·exact .inr ⟨c,by rw [rx.blV],q _ _ B H hk e (Grow.refl _ _) (.int _)⟩
theorem tyD_ok {B H:Hp} {v:V} {x:D} {t:String} (s:Same B H) (r:Rep K B v x) (h:tyD x=some t):TyOf K H v (.type t):=by
 cases r <;> cases h
 ·exact .non
 ·exact .bl _
 ·exact .int _
 ·exact .str _
 ·exact .tup (s _ _ (by assumption))
 ·exact .lst (s _ _ (by assumption))
theorem e_isi {T:String} {y:Str} {pT:Pos} (ha:PE3 X e u) (hg:Gl X "isinstance") (hm:X.mg "isinstance" = none) (hT:PE X (.Name y pT) (tC (.ty T))) (hs:starEach [e,.Name y pT] X.env=(false,eval e X.env) :: starEach [.Name y pT] X.env)
  (hs2:starEach [.Name y pT] X.env=(false,eval (.Name y pT) X.env) :: starEach [] X.env) (hpl:(backTo pos (starEach [.Name y pT] X.env)).any (·.1)=false):PE3 X (.Call (.Name "isinstance" p) [e,.Name y pT] [] pos) (uIsi u T):=by
 obtain ⟨_,h1,r1⟩:=ha
 refine ⟨_,pe_callB call_isinst hg hm (by decide +kernel) (pa_cons h1 (pa_cons hT pa_nil hs2) hs) (by decide) (by decide) hs hpl,fun ρ k h R W B H σ Q e q=>?_⟩
 refine r1 ρ _ h R W B H σ _ e fun x v B1 H1 h1 e1 g1 s1=>?_
 obtain ⟨t,b,ht,hk,z⟩:=h1
 exact ⟨v,_,T,b,rfl,tyD_ok e1.bh s1 ht,hk _,q _ _ B1 H1 z e1 g1 (.bl _)⟩
end
end L3
namespace L3
open PySem L2
open PySem.Builtin.Int (intBits)
section
variable {K:PySem.W.Frag} {X:Cx} {e:Expr} {es:List Expr} {u:UE} {w:UL} {pos p:Pos}
def uNext:US:=fun U ρ=>U.nx ρ
def uSeq (s t:US):US:=fun U ρ=>s { U with nx:=t U } ρ
def uRet (u:UE):US:=fun U ρ=>u ρ fun d=>U.rt (.val d)
def uRetO (w:UL):US:=fun U ρ=>w ρ fun ds=>U.rt (.own ds)
def uSet (i:Nat) (u:UE):US:=fun U ρ=>u ρ fun d=>U.nx (ρ.set i (.val d))
def uSetO (i:Nat) (w:UL):US:=fun U ρ=>w ρ fun ds=>U.nx (ρ.set i (.own ds))
def uIf (c:UT) (s t:US):US:=fun U ρ=>c ρ fun b=>if b=true then s U ρ else t U ρ
def uFz (i:Nat) (s:US):US:=fun U ρ=>∃ ds:List D,ρ[i]?=some (.own ds)∧s U (ρ.set i (.val (.lst ds)))
theorem s_nil:PSs3 X [] uNext:=⟨_,pss_nil,fun U ρ h R W B H σ D e s=>s.nx ρ σ B H h e (Grow.refl _ _)⟩
theorem s_one {st:Stmt} {s:US} (h:PS3 X st s):PSs3 X [st] s:=by
 obtain ⟨_,h1,r1⟩:=h
 exact ⟨_,pss_one h1,r1⟩
theorem s_cons {st:Stmt} {rest:List Stmt} {s t:US} (h:PS3 X st s) (h':PSs3 X rest t):PSs3 X (st :: rest) (uSeq s t):=by
 obtain ⟨_,h1,r1⟩:=h; obtain ⟨_,h2,r2⟩:=h'
 refine ⟨_,pss_cons h1 h2,fun U ρ h R W B H σ D e sm=>?_⟩
 exact r1 _ ρ h R W B H σ _ e ⟨fun ρ' σ' B' H' z e' g=>r2 U ρ' z R W B' H' σ' D e' (sm.grow g),sm.bk,sm.ct,sm.rt⟩
theorem s_fz {st:List Stmt} {s:US} (i:Nat) (h:PSs3 X st s):PSs3 X st (uFz i s):=by
 obtain ⟨_,h1,r1⟩:=h
 refine ⟨_,h1,fun U ρ h R W B H σ D e sm=>?_⟩
 obtain ⟨ds,ho,z⟩:=h
 obtain ⟨B',e',g⟩:=e.fz ho
 exact r1 U _ z R W B' H σ D e' (sm.grow g)
theorem s_never {st:Stmt}:PS3 X st (fun _ _=>False):=⟨_,ps_never,fun U ρ h=>h.elim⟩
theorem s_ret (h:PE3 X e u):PS3 X (.Return (some e) pos) (uRet u):=by
 obtain ⟨_,h1,r1⟩:=h
 refine ⟨_,ps_ret h1,fun U ρ h R W B H σ D e s=>?_⟩
 exact r1 ρ _ h R W B H σ _ e fun d v B1 H1 z1 e1 g1 s1=>s.rt _ v B1 H1 z1 e1.toWd g1 s1
theorem s_retO (h:PO3 X e w):PS3 X (.Return (some e) pos) (uRetO w):=by
 obtain ⟨_,h1,r1⟩:=h
 refine ⟨_,ps_ret h1,fun U ρ h R W B H σ D e s=>?_⟩
 exact r1 ρ _ h R W B H σ _ e fun ds a vs B1 H1 z1 e1 g1 f1 f2 f3 f4 f5=>s.rt (.own ds) _ B1 H1 z1 e1.toWd g1 ⟨a,rfl,f1,f2,vs,f3,f4⟩
theorem s_set {i:Nat} {x:Str} {pos':Pos} (hN:X.N.Nodup) (hi:X.N[i]?=some x) (hx:Loc X.env.scope x) (he:PE3 X e u) (hs:swapsWith e (some (.Name x pos')) pos.line X.env=pure false:=by rfl) (hf:X.fn x=true∨X.env.scope.names.lookup x=some .local:=by first | exact .inl rfl | exact .inr rfl | assumption) :
  PS3 X (.Assign [.Name x pos'] e pos) (uSet i u):=by
 obtain ⟨_,h1,r1⟩:=he
 refine ⟨_,ps_set hN hi hx h1 hs hf,fun U ρ h R W B H σ D e s=>?_⟩
 exact r1 ρ _ h R W B H σ _ e fun d v B1 H1 z1 e1 g1 s1=>s.nx _ _ B1 H1 z1 (e1.setV i s1) g1
theorem s_setO {i:Nat} {x:Str} {pos':Pos} (hN:X.N.Nodup) (hi:X.N[i]?=some x) (hx:Loc X.env.scope x) (he:PO3 X e w) (hs:swapsWith e (some (.Name x pos')) pos.line X.env=pure false:=by rfl) (hf:X.fn x=true∨X.env.scope.names.lookup x=some .local:=by first | exact .inl rfl | exact .inr rfl | assumption) :
  PS3 X (.Assign [.Name x pos'] e pos) (uSetO i w):=by
 obtain ⟨_,h1,r1⟩:=he
 refine ⟨_,ps_set hN hi hx h1 hs hf,fun U ρ h R W B H σ D e s=>?_⟩
 exact r1 ρ _ h R W B H σ _ e fun ds a vs B1 H1 z1 e1 g1 f1 f2 f3 f4 f5=>s.nx _ _ B1 H1 z1 (e1.setO i f1 f2 f3 f4 fun j _=>f5 j) g1
theorem s_if {c:Expr} {a b:List Stmt} {uc:UT} {s t:US} (hc:PT3 X c uc) (ha:PSs3 X a s) (hb:PSs3 X b t):PS3 X (.If c a b pos) (uIf uc s t):=by
 obtain ⟨_,h0,r0⟩:=hc; obtain ⟨_,h1,r1⟩:=ha; obtain ⟨_,h2,r2⟩:=hb
 refine ⟨_,ps_if h0 h1 h2,fun U ρ h R W B H σ D e sm=>?_⟩
 refine r0 ρ _ h R W B H σ _ e fun c B1 H1 z1 e1 g1=>?_
 cases c with
 | true =>
  rw [if_pos rfl] at z1 ⊢
  exact r1 U ρ z1 R W B1 H1 σ D e1 (sm.grow g1)
 | false =>
  rw [if_neg Bool.false_ne_true] at z1 ⊢
  exact r2 U ρ z1 R W B1 H1 σ D e1 (sm.grow g1)
def ugName (i:Nat):UG:=fun d ρ k=>k (ρ.set i (.val d))
def ugNil:UGs:=fun ds ρ k=>ds=[]∧k ρ
def ugCons (g:UG) (gs:UGs):UGs:=fun ds ρ k=>∃ d r,ds=d :: r∧g d ρ fun ρ'=>gs r ρ' k
def ugTup (n:Nat) (gs:UGs):UG:=fun d ρ k=>∃ ds,d=.tup ds∧ds.length=n∧gs ds ρ k
def uAsg (u:UE) (g:UG):US:=fun U ρ=>u ρ fun d=>g d ρ U.nx
theorem g_name {i:Nat} {x:Str} (hN:X.N.Nodup) (hi:X.N[i]?=some x) (hx:Loc X.env.scope x) (hf:X.fn x=true∨X.env.scope.names.lookup x=some .local:=by first | exact .inl rfl | exact .inr rfl | assumption):PG3 X (.Name x pos) (ugName i) :=
 ⟨_,pg_name hN hi hx hf,fun d ρ k h R W B H σ v Q e r q=>q _ _ h (e.setV i r) fun j a m=>by
  rcases mut_set m with ⟨_,_,z | ⟨_,z⟩⟩ | ⟨_,m⟩
  ·cases z
  ·cases z
  ·exact m⟩
theorem gs_nil:PGs3 X [] ugNil:=⟨_,pgs_nil,fun ds ρ k h R W B H σ vs Q e r q=>by
 obtain ⟨rfl,h⟩:=h
 cases r
 exact ⟨rfl,q _ _ h e fun _ _ m=>m⟩⟩
theorem gs_cons {g:UG} {gs:UGs} (h1:PG3 X e g) (h2:PGs3 X es gs) (hs:(assignEach (e :: es) X.env).map (·.2)=assign e X.env :: (assignEach es X.env).map (·.2):=by rfl):PGs3 X (e :: es) (ugCons g gs):=by
 obtain ⟨_,h1,r1⟩:=h1; obtain ⟨_,h2,r2⟩:=h2
 refine ⟨_,pgs_cons h1 h2 hs,fun ds ρ k h R W B H σ vs Q e r q=>?_⟩
 obtain ⟨d,rr,rfl,h⟩:=h
 cases r with
 | cons rv rs =>
  refine ⟨_,_,rfl,r1 d ρ _ h R W B H σ _ _ e rv fun ρ' σ' z e' mm=>?_⟩
  exact r2 rr ρ' k z R W B H σ' _ _ e' rs fun ρ'' σ'' z2 e2 m2=>q ρ'' σ'' z2 e2 fun j a m=>mm j a (m2 j a m)
theorem g_tup {k0:Nat} {gs:UGs} {n:Nat} (hc:X.calm=true) (h:PGs3 X es gs) (hn:(assignEach es X.env).length=n:=by rfl) (hst:(assignEach es X.env).findIdx? (·.1)=none:=by rfl):PG3 X (.Tuple es k0 pos) (ugTup n gs):=by
 obtain ⟨_,h1,r1⟩:=h
 refine ⟨_,pg_tup hc h1 hn hst,fun d ρ k h R W B H σ v Q e r q=>?_⟩
 obtain ⟨ds,rfl,hl,h⟩:=h
 obtain ⟨a,vs,rfl,ha,rs⟩:=r.tupV
 exact ⟨a,vs,rfl,SqT.of (e.bh _ _ ha),by rw [rs.length]; exact hl,r1 ds ρ k h R W B H σ vs Q e rs q⟩
theorem s_asg {tg:Expr} {g:UG} (he:PE3 X e u) (hg:PG3 X tg g) (hs:swapsWithSole [tg] e pos.line X.env=pure false:=by rfl) (hw:swappedStores [tg] e X.env=pure none:=by rfl)
  (h1:(assignEach [tg] X.env).map (·.2)=[assign tg X.env]:=by rfl):PS3 X (.Assign [tg] e pos) (uAsg u g):=by
 obtain ⟨_,ha,r1⟩:=he; obtain ⟨_,hb,r2⟩:=hg
 refine ⟨_,ps_asg ha hb hs hw h1,fun U ρ h R W B H σ D e s=>?_⟩
 refine r1 ρ _ h R W B H σ _ e fun d v B1 H1 z1 e1 g1 s1=>?_
 exact r2 d ρ _ z1 R W B1 H1 σ v _ e1 s1 fun ρ' σ' z2 e2 _=>s.nx _ _ B1 H1 z2 e2 g1
def uPar (i j:Nat) (w:UL):US:=fun U ρ=>w ρ fun ds=>∃ x y,ds=[x,y]∧U.nx ((ρ.set i (.val x)).set j (.val y))
theorem s_par {i j:Nat} {x y:Str} {a b:Expr} {px py pt:Pos} {kt k2 pt2} (hc:X.calm=true) (hN:X.N.Nodup) (hi:X.N[i]?=some x) (hj:X.N[j]?=some y) (hij:i≠j)
  (hx:X.env.scope.names.lookup x=some .local) (hy:X.env.scope.names.lookup y=some .local) (ha:PL3 X [a,b] w)
  (hw:swappedStores [.Tuple [.Name x px,.Name y py] kt pt] (.Tuple [a,b] k2 pt2) X.env=pure (some [x,y]))
  (hs:swapsWithSole [.Tuple [.Name x px,.Name y py] kt pt] (.Tuple [a,b] k2 pt2) pos.line X.env=pure false:=by rfl) :
  PS3 X (.Assign [.Tuple [.Name x px,.Name y py] kt pt] (.Tuple [a,b] k2 pt2) pos) (uPar i j w):=by
 obtain ⟨_,h1,r1⟩:=ha
 refine ⟨_,ps_par hc hN hi hj hij hx hy h1 hw hs,fun U ρ h R W B H σ D e s=>?_⟩
 refine r1 ρ _ h R W B H σ _ e fun ds vs B1 H1 z1 e1 g1 s1=>?_
 obtain ⟨x,y,rfl,z1⟩:=z1
 cases s1 with
 | cons ra rb=>cases rb with
  | cons rb rc =>
   cases rc
   exact ⟨_,_,rfl,s.nx _ _ B1 H1 z1 ((e1.setV i ra).setV j rb) g1⟩
def uWhile (c:UT) (s:US):US:=fun U ρ=>∃ M:Nat→List Sl→Prop,(∃ m,M m ρ)∧∀ m ρ,M m ρ→c ρ fun b=>if b=true then s { U with nx:=fun ρ'=>∃ m',m' < m∧M m' ρ',ct:=fun ρ'=>∃ m',m' < m∧M m' ρ',bk:=U.nx } ρ else U.nx ρ
theorem s_while {c:Expr} {body:List Stmt} {uc:UT} {s:US} (hp:PassesOwn (model X.prog X.w) X.A X.env X.xe) (hc:PT3 X c uc) (hb:PSs3 X body s):PS3 X (.While c body [] pos) (uWhile uc s):=by
 obtain ⟨_,h0,r0⟩:=hc; obtain ⟨_,h1,r1⟩:=hb
 refine ⟨_,ps_while hp h0 h1,fun U ρ h R W B H σ D e sm=>?_⟩
 obtain ⟨M,⟨m0,hm⟩,turn⟩:=h
 refine ⟨fun m σ' H'=>∃ ρ' B',M m ρ'∧Ev X.K R W B' H' σ' ρ'∧Grow R B B',⟨m0,ρ,B,hm,e,Grow.refl _ _⟩,?_⟩
 rintro m σ1 H1 ⟨ρ1,B1,hm1,e1,g1⟩
 refine r0 ρ1 _ (turn m ρ1 hm1) R W B1 H1 σ1 _ e1 fun b B2 H2 z2 e2 g2=>?_
 cases b with
 | true =>
  rw [if_pos rfl] at z2 ⊢
  refine ⟨fun σ' H'=>∃ ρ' B',(∃ m',m' < m∧M m' ρ')∧Ev X.K R W B' H' σ' ρ'∧Grow R B B',?_,?_⟩
  ·rintro σ' H' ⟨ρ',B',⟨m',l,q⟩,e',g'⟩
   exact ⟨m',l,ρ',B',q,e',g'⟩
  ·have gg:=g1.trans g2
   exact r1 _ ρ1 z2 R W B2 H2 σ1 _ e2 ⟨fun ρ' σ' B' H' z e' g=>⟨ρ',B',z,e',gg.trans g⟩,fun ρ' σ' B' H' z e' g=>sm.nx ρ' σ' B' H' z e' (gg.trans g),fun ρ' σ' B' H' z e' g=>⟨ρ',B',z,e',gg.trans g⟩,fun r v B' H' z e' g q=>sm.rt r v B' H' z e' (gg.trans g) q⟩
 | false =>
  rw [if_neg Bool.false_ne_true] at z2 ⊢
  exact sm.nx ρ1 σ1 B2 H2 z2 e2 (g1.trans g2)
theorem ItOk.list {B:Hp} {a:Addr} {vs:List V} {ds:List D} (h:B a=some (.lst vs)) (r:Reps K B vs ds):ItOk K B (Itl K a) ds:=by
 intro H s i
 have hH:=s _ _ h
 have q:SqL K H a vs:=SqL.of hH
 refine ⟨fun hi=>?_,fun hi=>⟨vs,q,by rw [r.length]; exact hi⟩,fun x H' hi ⟨e1,e2⟩=>⟨e1,?_⟩⟩
 ·obtain ⟨v,e,_⟩:=r.get (List.getElem?_eq_getElem hi)
  exact ⟨vs,v,q,e⟩
 ·exact r.getV (e2 vs q)
theorem ItOk.tup {B:Hp} {a:Addr} {vs:List V} {ds:List D} (h:B a=some (.tup vs)) (r:Reps K B vs ds):ItOk K B (Itt K a) ds:=by
 intro H s i
 have hH:=s _ _ h
 have q:SqT K H a vs:=SqT.of hH
 refine ⟨fun hi=>?_,fun hi=>⟨vs,q,by rw [r.length]; exact hi⟩,fun x H' hi ⟨e1,e2⟩=>⟨e1,?_⟩⟩
 ·obtain ⟨v,e,_⟩:=r.get (List.getElem?_eq_getElem hi)
  exact ⟨vs,v,q,e⟩
 ·exact r.getV (e2 vs q)
theorem ItOk.rng {B:Hp} (n:Nat):ItOk K B (Itr 0 n) ((List.range n).map fun i:Nat=>D.int i):=by
 intro H s i
 rw [List.length_map,List.length_range]
 refine ⟨fun hi=>hi,fun hi=>hi,fun x H' hi ⟨e1,e2⟩=>⟨e1,?_⟩⟩
 refine ⟨.int i,?_,?_⟩
 ·rw [List.getElem?_map,List.getElem?_range hi]; rfl
 ·rw [e2,Int.zero_add]; exact .int _
def uiL (u:UE):UL:=fun ρ k=>u ρ fun d=>∃ ds,d=.lst ds∧k ds
def uiT (u:UE):UL:=fun ρ k=>u ρ fun d=>∃ ds,d=.tup ds∧k ds
def uiR (u:UE):UL:=fun ρ k=>u ρ fun d=>∃ j,d=.int j ∧ -(2 ^ 62)≤j∧j < 2 ^ 62∧k ((List.range j.toNat).map fun i:Nat=>D.int i)
variable {tg:Expr}
theorem i_list {l:Expr} (hl:PE3 X l u):PI3 X tg l (uiL u):=by
 obtain ⟨_,h1,r1⟩:=hl
 refine ⟨_,pi_list h1,fun ρ k h R W B H σ Q e q=>?_⟩
 refine r1 ρ _ h R W B H σ _ e fun d v B1 H1 z1 e1 g1 s1=>?_
 obtain ⟨ds,rfl,z⟩:=z1
 obtain ⟨a,vs,rfl,ha,rs⟩:=s1.lstV
 exact ⟨a,rfl,⟨vs,SqL.of (e1.bh _ _ ha)⟩,q ds _ B1 H1 z e1 g1 (ItOk.list ha rs)⟩
theorem i_tup {l:Expr} (hl:PE3 X l u):PI3 X tg l (uiT u):=by
 obtain ⟨_,h1,r1⟩:=hl
 refine ⟨_,pi_tup h1,fun ρ k h R W B H σ Q e q=>?_⟩
 refine r1 ρ _ h R W B H σ _ e fun d v B1 H1 z1 e1 g1 s1=>?_
 obtain ⟨ds,rfl,z⟩:=z1
 obtain ⟨a,vs,rfl,ha,rs⟩:=s1.tupV
 exact ⟨a,rfl,⟨vs,SqT.of (e1.bh _ _ ha)⟩,q ds _ B1 H1 z e1 g1 (ItOk.tup ha rs)⟩
theorem i_rng {a:Expr} (ha:PE3 X a u) (hg:Gl X "range") (hm:X.mg "range" = none) (hs:starEach [a] X.env=[(false,eval a X.env)]:=by rfl):PI3 X tg (.Call (.Name "range" p) [a] [] pos) (uiR u):=by
 obtain ⟨_,h1,r1⟩:=ha
 refine ⟨_,pi_range1 hg hm (pa_cons h1 pa_nil (by exact hs)) hs,fun ρ k h R W B H σ Q e q=>?_⟩
 refine r1 ρ _ h R W B H σ _ e fun d v B1 H1 z1 e1 g1 s1=>?_
 obtain ⟨j,rfl,j0,j1,z⟩:=z1
 exact ⟨j,by rw [s1.intV],j0,j1,q _ _ B1 H1 z e1 g1 (ItOk.rng _)⟩
def forR (g:UG) (s:US) (U:UEnds):List D→List Sl→Prop
 | [],ρ=>U.nx ρ
 | d :: ds,ρ=>g d ρ fun ρ'=>s { U with nx:=forR g s U ds,ct:=forR g s U ds,bk:=U.nx } ρ'
def uFor (w:UL) (g:UG) (s:US):US:=fun U ρ=>w ρ fun ds=>forR g s U ds ρ
theorem s_for {iter:Expr} {body:List Stmt} {g:UG} {s:US} (hp:PassesOwn (model X.prog X.w) X.A X.env X.xe) (hc:X.calm=true) (hi:PI3 X tg iter w) (hg:PG3 X tg g) (hb:PSs3 X body s)
  (hs:∀ x,foldedSetIterable iter X.env x=pure x:=by intro _; rfl):PS3 X (.For tg iter body [] pos) (uFor w g s):=by
 obtain ⟨_,h0,r0⟩:=hi; obtain ⟨_,h1,r1⟩:=hg; obtain ⟨_,h2,r2⟩:=hb
 refine ⟨_,ps_for hp hc h0 h1 h2 hs,fun U ρ h R W B H σ D e sm=>?_⟩
 refine r0 ρ _ h R W B H σ _ e fun ds J B1 H1 z1 e1 g1 it=>?_
 refine ⟨fun i m σ' H'=>∃ ρ' B',m=ds.length - i∧i≤ds.length∧forR g s U (ds.drop i) ρ'∧Ev X.K R W B' H' σ' ρ'∧Grow R B B'∧Same B1 B',⟨ds.length,ρ,B1,by simp,Nat.zero_le _,z1,e1,g1,Same.refl _⟩,?_⟩
 rintro i m σ1 H2 ⟨ρ1,B2,rfl,hi,z2,e2,g2,s2⟩
 obtain ⟨t1,t2,t3⟩:=it H2 (s2.trans e2.bh) i
 by_cases hlt:i < ds.length
 ·refine .inr ⟨t1 hlt,fun σ' H'=>∃ ρ' B',forR g s U (ds.drop (i + 1)) ρ'∧Ev X.K R W B' H' σ' ρ'∧Grow R B B'∧Same B1 B',?_,?_⟩
  ·rintro σ' H' ⟨ρ',B',z,e',g',s'⟩
   exact ⟨ds.length - (i + 1),by omega,ρ',B',rfl,hlt,z,e',g',s'⟩
  ·intro x H' y
   obtain ⟨rfl,d,hd,rx⟩:=t3 x H' hlt y
   have ed:ds.drop i=d :: ds.drop (i + 1):=by
    rw [List.drop_eq_getElem_cons hlt]
    rw [List.getElem?_eq_getElem hlt] at hd
    rw [Option.some.inj hd]
   rw [ed] at z2
   refine r1 d ρ1 _ z2 R W B2 _ σ1 x _ e2 (rx.mono s2) fun ρ' σ' z' e' _=>?_
   exact r2 _ ρ' z' R W B2 _ σ' _ e' ⟨fun ρ' σ' B' H' z e' g=>⟨ρ',B',z,e',g2.trans g,s2.trans g.s⟩,fun ρ' σ' B' H' z e' g=>sm.nx ρ' σ' B' H' z e' (g2.trans g),fun ρ' σ' B' H' z e' g=>⟨ρ',B',z,e',g2.trans g,s2.trans g.s⟩,fun r v B' H' z e' g q=>sm.rt r v B' H' z e' (g2.trans g) q⟩
 ·have ei:i=ds.length:=by omega
  subst ei
  rw [List.drop_length] at z2
  exact .inl ⟨t2 (Nat.le_refl _),sm.nx ρ1 σ1 B2 H2 z2 e2 g2⟩
end
end L3
namespace L3
open PySem L2
open PySem.Builtin.Int (intBits)
section
variable {K:PySem.W.Frag} {X:Cx} {e:Expr} {es:List Expr} {u:UE} {w:UL} {pos p:Pos}
theorem Ev.newO {R:Hp} {W:Addr→Prop} {B H:Hp} {σ:St} {ρ:List Sl} (e:Ev K R W B H σ ρ) {q:Addr} (hq:H q=none) {vs:List V} {ds:List D} (r:Reps K B vs ds) :
  Ev K R W B (upd H q (.lst vs)) σ ρ∧R q=none∧B q=none∧(upd H q (.lst vs)) q=some (.lst vs)∧∀ i,¬ MutAt σ ρ i q:=by
 obtain ⟨f1,f2,f3⟩:=e.toWd.fresh hq
 exact ⟨e.allocH hq _,f1,f3,upd_same,fun i m=>e.notNew hq m rfl⟩
def cutL {α:Type} (xs:List α) (lo hi:Option Int):List α:=(xs.drop (HT.sIx xs.length 0 lo)).take (HT.sIx xs.length xs.length hi - HT.sIx xs.length 0 lo)
theorem Reps.cut {B:Hp} {vs:List V} {ds:List D} (r:Reps K B vs ds) (lo hi:Option Int):Reps K B (cutL vs lo hi) (cutL ds lo hi):=by
 unfold cutL
 rw [r.length]
 exact (r.drop _).take _
theorem cutL_map {α β:Type} (f:α→β) (xs:List α) (lo hi:Option Int):cutL (xs.map f) lo hi=(cutL xs lo hi).map f:=by
 unfold cutL
 rw [List.length_map,← List.map_drop,← List.map_take]
abbrev UP:=List Sl→(Option Int→Prop)→Prop
def RefP (K:PySem.W.Frag) (t:TO) (u:UP):Prop:=∀ (ρ:List Sl) (k:Option Int→Prop),u ρ k→∀ (R:Hp) (W:Addr→Prop) (B H:Hp) (σ:St) (Q:Option Int→Hp→Prop),Ev K R W B H σ ρ →
 (∀ o B' H',k o→Ev K R W B' H' σ ρ→Grow R B B'→Q o H')→t σ H Q
def PP3 (X:Cx) (e:Option Expr) (u:UP):Prop:=∃ t,PO X e t∧RefP X.K t u
def upN:UP:=fun _ k=>k none
def upS (u:UE):UP:=fun ρ k=>u ρ fun d=>∃ i,d=.int i∧k (some i)
theorem p_none:PP3 X none upN:=⟨_,po_none,fun ρ k h R W B H σ Q e q=>q none B H h e (Grow.refl _ _)⟩
theorem p_some (h:PE3 X e u):PP3 X (some e) (upS u):=by
 obtain ⟨_,h1,r1⟩:=h
 refine ⟨_,po_some h1,fun ρ k h R W B H σ Q e q=>?_⟩
 refine r1 ρ _ h R W B H σ _ e fun d v B1 H1 z1 e1 g1 s1=>?_
 obtain ⟨i,rfl,z⟩:=z1
 exact ⟨i,s1.intV,q _ B1 H1 z e1 g1⟩
def itemsD:D→Option (List D)
 | .lst ds=>some ds
 | .scr ns=>some (ns.map .int)
 | _=>none
theorem itemsD_ok {B H:Hp} {v:V} {x:D} {ds:List D} (s:Same B H) (r:Rep K B v x) (h:itemsD x=some ds):∃ a vs,v=.ref a∧SqL K H a vs∧Reps K B vs ds:=by
 cases x <;> first | (cases h; done) | skip
 ·obtain ⟨a,vs,rfl,ha,rs⟩:=r.lstV
  cases h
  exact ⟨a,vs,rfl,SqL.of (s _ _ ha),rs⟩
 ·obtain ⟨a,rfl,ha⟩:=r.scrV
  cases h
  exact ⟨a,_,rfl,s.seq ha,Reps.ints _⟩
def uSl (u:UE) (l h:UP):UL:=fun ρ k=>u ρ fun x=>l ρ fun lo=>h ρ fun hi=>∃ ds,itemsD x=some ds∧k (cutL ds lo hi)
theorem o_slice {lo hi:Option Expr} {ul uh:UP} {p2:Pos} (he:PE3 X e u) (hl:PP3 X lo ul) (hh:PP3 X hi uh):PO3 X (.Subscript e (.Slice lo hi none p2) pos) (uSl u ul uh):=by
 obtain ⟨_,h1,r1⟩:=he; obtain ⟨_,h2,r2⟩:=hl; obtain ⟨_,h3,r3⟩:=hh
 refine ⟨_,pe_slice sl_list h1 h2 h3,fun ρ k h R W B H σ Q e q=>?_⟩
 refine r1 ρ _ h R W B H σ _ e fun d v B1 H1 z1 e1 g1 s1=>?_
 refine r2 ρ _ z1 R W B1 H1 σ _ e1 fun lo B2 H2 z2 e2 g2=>?_
 refine r3 ρ _ z2 R W B2 H2 σ _ e2 fun hi B3 H3 z3 e3 g3=>?_
 obtain ⟨ds,hd,z⟩:=z3
 obtain ⟨a,vs,rfl,ha,rs⟩:=itemsD_ok e3.bh (s1.mono (g2.trans g3).s) hd
 refine ⟨a,vs,rfl,ha,fun p hp=>?_⟩
 obtain ⟨f1,f2,f3,f4,f5⟩:=e3.newO hp (rs.cut lo hi)
 exact q _ p _ B3 _ z f1 ((g1.trans g2).trans g3) f2 f3 f4 (rs.cut lo hi) f5
def uCat (u v:UE):UL:=fun ρ k=>u ρ fun x=>v ρ fun y=>∃ ds es,x=.lst ds∧y=.lst es∧ds.length + es.length≤sizeLine∧k (ds ++ es)
theorem o_cat {a b:Expr} {ua ub:UE} (ha:PE3 X a ua) (hb:PE3 X b ub):PO3 X (.BinOp a .Add b pos) (uCat ua ub):=by
 obtain ⟨_,h1,r1⟩:=ha; obtain ⟨_,h2,r2⟩:=hb
 refine ⟨_,pe_op op_cat h1 h2,fun ρ k h R W B H σ Q e q=>?_⟩
 refine r1 ρ _ h R W B H σ _ e fun d v B1 H1 z1 e1 g1 s1=>?_
 refine r2 ρ _ z1 R W B1 H1 σ _ e1 fun d' v' B2 H2 z2 e2 g2 s2=>?_
 obtain ⟨ds,es,rfl,rfl,hl,z⟩:=z2
 obtain ⟨a,vs,rfl,ha,rs⟩:=(s1.mono g2.s).lstV
 obtain ⟨b,ws,rfl,hb,rt⟩:=s2.lstV
 refine ⟨a,b,vs,ws,rfl,rfl,e2.bh _ _ ha,e2.bh _ _ hb,by rw [rs.length,rt.length]; exact hl,fun p hp=>?_⟩
 obtain ⟨f1,f2,f3,f4,f5⟩:=e2.newO hp (rs.append rt)
 exact q _ p _ B2 _ z f1 (g1.trans g2) f2 f3 f4 (rs.append rt) f5
def uCopy (u:UE):UL:=fun ρ k=>u ρ fun x=>∃ ds,(x=.lst ds∨x=.tup ds)∧k ds
theorem o_copy (ha:PE3 X e u) (hg:Gl X "list") (hm:X.mg "list" = none) (hs:starEach [e] X.env=(false,eval e X.env) :: starEach [] X.env:=by rfl):PO3 X (.Call (.Name "list" p) [e] [] pos) (uCopy u):=by
 obtain ⟨_,h1,r1⟩:=ha
 refine ⟨_,pe_callTy call_list_of hg hm (by decide +kernel) (pa_cons h1 pa_nil hs) (by decide) (by decide) hs,fun ρ k h R W B H σ Q e q=>?_⟩
 refine r1 ρ _ h R W B H σ _ e fun d v B1 H1 z1 e1 g1 s1=>?_
 obtain ⟨ds,hd,z⟩:=z1
 rcases hd with rfl | rfl
 ·obtain ⟨a,vs,rfl,ha,rs⟩:=s1.lstV
  refine ⟨a,vs,rfl,.inl (SqL.of (e1.bh _ _ ha)),fun p hp=>?_⟩
  obtain ⟨f1,f2,f3,f4,f5⟩:=e1.newO hp rs
  exact q _ p _ B1 _ z f1 g1 f2 f3 f4 rs f5
 ·obtain ⟨a,vs,rfl,ha,rs⟩:=s1.tupV
  refine ⟨a,vs,rfl,.inr (SqT.of (e1.bh _ _ ha)),fun p hp=>?_⟩
  obtain ⟨f1,f2,f3,f4,f5⟩:=e1.newO hp rs
  exact q _ p _ B1 _ z f1 g1 f2 f3 f4 rs f5
theorem reps_ints {B:Hp}:∀ {ns:List Int} {vs:List V},Reps K B vs (ns.map D.int)→vs=ns.map V.int
 | [],_,.nil=>rfl
 | n :: r,_,.cons h t=>by rw [h.intV,reps_ints t]; rfl
def uApp (i:Nat) (u:UE):US:=fun U ρ=>∃ ds:List D,ρ[i]?=some (.own ds)∧u ρ fun d=>ds.length < sizeLine∧U.nx (ρ.set i (.own (ds ++ [d])))
theorem s_app (i:Nat) {x:Str} {px apos cpos:Pos} (he:PE3 X e u) (hN:X.N[i]?=some x:=by rfl) (hv:Vis X.env.scope x:=by first | exact Or.inl rfl | exact Or.inr (Or.inl rfl) | exact Or.inr (Or.inr rfl)) (hd:(x == ("__debug__" : Str))=false:=by decide)
  (hcd:(x == ("__classdict__" : Str))=false:=by decide) (hbase:attributeBase (.Name x px) "append" X.env (eval (.Name x px) X.env)=eval (.Name x px) X.env:=by rfl)
  (hfew:((backTo cpos (starEach [e] X.env)).all (fun x => !x.1) && (backToKw cpos (keywordEach [] X.env)).all (fun x=>x.1.isSome)
   && decide ([e].length + ([]:List Keyword).length + (if ([]:List Keyword).isEmpty then 0 else 1) < 30))=true:=by rfl)
  (hline:(apos.endLine == cpos.line)=true:=by rfl) (hs:starEach [e] X.env=(false,eval e X.env) :: starEach [] X.env:=by rfl) (hplain:(backTo cpos (starEach ([]:List Expr) X.env)).any (·.1)=false:=by rfl)
  (hsw:swapsWith (.Call (.Attribute (.Name x px) "append" apos) [e] [] cpos) none pos.line X.env=pure false:=by rfl):PS3 X (.Expr (.Call (.Attribute (.Name x px) "append" apos) [e] [] cpos) pos) (uApp i u):=by
 obtain ⟨_,h1,r1⟩:=he
 refine ⟨_,ps_expr (pe_bm PySem.F.plainAttrs_list PySem.F.slot_list_append PySem.F.type_list_append mt_append (pe_var hN hv hd hcd) (pa_cons h1 pa_nil hs) hbase hfew hline hs hplain) hsw,fun U ρ h R W B H σ D e s=>?_⟩
 obtain ⟨ds,ho,h⟩:=h
 obtain ⟨a,vs,e1,e2,e3,e4,e5⟩:=e.ownAt ho
 refine ⟨_,e1,.inl ⟨rfl,vs,SqL.of e4⟩,?_⟩
 refine r1 ρ _ h R W B H σ _ e fun d v B1 H1 z1 f1 g1 s1=>?_
 obtain ⟨a',vs',k1,k2,k3,k4,k5⟩:=f1.ownAt ho
 rw [e1] at k1; cases k1
 exact ⟨a,vs',v,rfl,rfl,k4,by rw [k5.length]; exact z1.1,s.nx _ _ B1 _ z1.2 (f1.write e1 ho (k5.append (.cons s1 .nil))) g1⟩
def frS (ρ:List Sl) (j:Nat):Sl:=match ρ[j]? with
 | some (.val d)=>.val d
 | some .bag=>.bag
 | _=>.no
theorem Ev.scribble {R:Hp} {W:Addr→Prop} {B H:Hp} {σ:St} {ρ:List Sl} (e:Ev K R W B H σ ρ) {a:Addr} (hr:R a=none) (hb:B a=none) (hm:∀ i,¬ MutAt σ ρ i a) (o:HO):Ev K R W B (upd H a o) σ ρ:=by
 have nw:¬ W a:=fun z=>e.wr a z hr
 refine e.move ⟨fun b q h z=>?_,fun b q h=>?_,e.wb,fun b z=>(e.wh b z).upd (by rintro rfl; exact nw z),e.wr⟩ (Same.refl _) fun i b m=>?_
 ·rw [upd_ne (by rintro rfl; rw [hr] at h; cases h)]; exact e.fr b q h z
 ·rw [upd_ne (by rintro rfl; rw [hb] at h; cases h)]; exact e.bh b q h
 ·have n:b≠a:=by rintro rfl; exact hm i m
  refine ⟨(e.mutOk m).1,fun z=>?_,fun _=>upd_ne n⟩
  obtain ⟨c,c1,_,_,c4⟩:=e.bagAt z
  rw [m.1] at c1; cases c1
  exact c4.upd n
theorem freeV_get {σ:St} {js:List Nat} {i:Nat} {o:Option V} (h:(freeV σ js)[i]?=some o):∃ j,js[i]?=some j∧o=(σ[j]?).join:=by
 unfold freeV at h
 rw [List.getElem?_map] at h
 cases q:js[i]? with
 | none=>rw [q] at h; cases h
 | some j=>rw [q] at h; exact ⟨j,rfl,(Option.some.inj h).symm⟩
def RefN (K:PySem.W.Frag) (t:TE) (u:List Sl→Prop→Prop):Prop:=∀ (ρ:List Sl) (k:Prop),u ρ k→∀ (R:Hp) (W:Addr→Prop) (B H:Hp) (σ:St) (Q:VK),Ev K R W B H σ ρ →
 (∀ a B' H',k→Ev K R W B' H' σ ρ→Grow R B B'→R a=none→B' a=none→Bag H' a→(∀ i,¬ MutAt σ ρ i a)→Q (.ref a) H')→t σ H Q
def PN3 (X:Cx) (e:Expr) (u:List Sl→Prop→Prop):Prop:=∃ t,PE X e t∧RefN X.K t u
def uCallN (n:Nat) (F:FS) (w:UA):List Sl→Prop→Prop:=fun ρ k=>w ρ fun as=>sh as n=true∧F (as.map Arg.sl) fun r=>r=.bag∧k
theorem n_call {n:Nat} {F:FS} {w:UA} {x:Str} {ps:List Str} {j lv:Nat} (c:Cal X.prog X.w X.K X.mg X.base x ps j (Con X.K n F)) (hr:Room lv X.A) (hg:Gl X x) (ha:PA3 X (e :: es) w) (hjk:j≤lv:=by decide)
  (hdb:(x == ("__debug__" : Str))=false:=by decide) (he:starEach (e :: es) X.env=(false,eval e X.env) :: starEach es X.env:=by rfl) (hpl:(backTo pos (starEach es X.env)).any (·.1)=false:=by rfl) :
  PN3 X (.Call (.Name x p) (e :: es) [] pos) (uCallN n F w):=by
 obtain ⟨_,h1,r1⟩:=ha
 refine ⟨_,pe_cal c hr hg h1 hjk hdb he hpl,fun ρ k h R W B H σ Q e q=>?_⟩
 refine r1 ρ _ h R W B H σ _ e fun as vs B1 H1 z1 e1 g1 s1=>?_
 rw [List.append_nil]
 refine call_ok e1 s1 z1.1 z1.2 fun r v B2 H2 hk e2 g2 res=>?_
 obtain ⟨rfl,hk⟩:=hk
 obtain ⟨a,rfl,f1,f2,f3⟩:=res
 exact q a B2 H2 hk e2 (g1.trans g2) (e1.toWd.fresh f1).1 f2 f3 fun i m=>(e1.mutOk m).2 f1
def uSetN (i:Nat) (u:List Sl→Prop→Prop):US:=fun U ρ=>u ρ (U.nx (ρ.set i .bag))
theorem s_setN {i:Nat} {x:Str} {pos':Pos} {u:List Sl→Prop→Prop} (hN:X.N.Nodup) (hi:X.N[i]?=some x) (hx:Loc X.env.scope x) (he:PN3 X e u) (hs:swapsWith e (some (.Name x pos')) pos.line X.env=pure false:=by rfl) (hf:X.fn x=true∨X.env.scope.names.lookup x=some .local:=by first | exact .inl rfl | exact .inr rfl | assumption) :
  PS3 X (.Assign [.Name x pos'] e pos) (uSetN i u):=by
 obtain ⟨_,h1,r1⟩:=he
 refine ⟨_,ps_set hN hi hx h1 hs hf,fun U ρ h R W B H σ D e s=>?_⟩
 refine r1 ρ _ h R W B H σ _ e fun a B1 H1 z1 e1 g1 f1 f2 f3 f4=>s.nx _ _ B1 H1 z1 (e1.set i ⟨a,rfl,.inr f1,f2,f3⟩ fun b z _ j _=>?_) g1
 cases z
 exact f4 j
end
end L3
namespace L3
open PySem L2
inductive Sh where
 | I | B | N | S | T (ss:List Sh) | L (s:Sh)
mutual
def has:Sh→D→Bool
 | .I,.int _=>true
 | .B,.bl _=>true
 | .N,.non=>true
 | .S,.str _=>true
 | .T ss,.tup xs=>hass ss xs
 | .L s,.lst xs=>xs.all fun x=>has s x
 | _,_=>false
def hass:List Sh→List D→Bool
 | [],[]=>true
 | s :: ss,x :: xs=>has s x && hass ss xs
 | _,_=>false
end
mutual
def dep:Sh→Nat
 | .T ss=>deps ss + 1
 | .L s=>dep s + 1
 | _=>0
def deps:List Sh→Nat
 | []=>0
 | s :: ss=>max (dep s) (deps ss)
end
noncomputable def eqD (x y:D):Bool := @decide (x=y) (Classical.propDecidable _)
theorem eqD_iff {x y:D}:eqD x y=true↔x=y:=by unfold eqD; exact @decide_eq_true_iff _ (Classical.propDecidable _)
theorem eqD_self (x:D):eqD x x=true:=eqD_iff.mpr rfl
theorem eqD_of {x y:D} {b:Bool} (h:b=true↔x=y):eqD x y=b:=by
 rw [Bool.eq_iff_iff,eqD_iff,h]
section
variable {K:PySem.W.Frag} {B:Hp}
theorem has_int {x:D} (h:has .I x=true):∃ i,x=.int i:=by cases x <;> first | exact ⟨_,rfl⟩ | (simp [has] at h)
theorem has_bl {x:D} (h:has .B x=true):∃ i,x=.bl i:=by cases x <;> first | exact ⟨_,rfl⟩ | (simp [has] at h)
theorem has_non {x:D} (h:has .N x=true):x=.non:=by cases x <;> first | rfl | (simp [has] at h)
theorem has_str {x:D} (h:has .S x=true):∃ i,x=.str i:=by cases x <;> first | exact ⟨_,rfl⟩ | (simp [has] at h)
theorem has_tup {x:D} {ss:List Sh} (h:has (.T ss) x=true):∃ xs,x=.tup xs∧hass ss xs=true:=by
 cases x <;> first | exact ⟨_,rfl,by simpa [has] using h⟩ | (simp [has] at h)
theorem has_lst {x:D} {s:Sh} (h:has (.L s) x=true):∃ xs,x=.lst xs∧∀ y∈xs,has s y=true:=by
 cases x <;> first | exact ⟨_,rfl,by simpa [has] using h⟩ | (simp [has] at h)
theorem hass_len:∀ {ss:List Sh} {xs:List D},hass ss xs=true→xs.length=ss.length
 | [],[],_=>rfl
 | [],_ :: _,h=>by simp [hass] at h
 | _ :: _,[],h=>by simp [hass] at h
 | s :: ss,x :: xs,h=>by
  simp [hass] at h
  simp [hass_len h.2]
mutual
theorem rep_fn:∀ (sh:Sh) {x y:D} {v:V},has sh x=true→has sh y=true→Rep K B v x→Rep K B v y→x=y
 | .I,x,y,v,h1,h2,r1,r2=>by
  obtain ⟨i,rfl⟩:=has_int h1; obtain ⟨j,rfl⟩:=has_int h2
  have e:=r1.intV.symm.trans r2.intV
  cases e; rfl
 | .B,x,y,v,h1,h2,r1,r2=>by
  obtain ⟨i,rfl⟩:=has_bl h1; obtain ⟨j,rfl⟩:=has_bl h2
  have e:=r1.blV.symm.trans r2.blV
  cases e; rfl
 | .N,x,y,v,h1,h2,r1,r2=>by rw [has_non h1,has_non h2]
 | .S,x,y,v,h1,h2,r1,r2=>by
  obtain ⟨i,rfl⟩:=has_str h1; obtain ⟨j,rfl⟩:=has_str h2
  cases r1; cases r2; rfl
 | .T ss,x,y,v,h1,h2,r1,r2=>by
  obtain ⟨xs,rfl,q1⟩:=has_tup h1; obtain ⟨ys,rfl,q2⟩:=has_tup h2
  obtain ⟨a,vs,rfl,ha,ra⟩:=r1.tupV
  obtain ⟨b,ws,e,hb,rb⟩:=r2.tupV
  cases e
  rw [ha] at hb; cases hb
  rw [reps_fn ss q1 q2 ra rb]
 | .L s,x,y,v,h1,h2,r1,r2=>by
  obtain ⟨xs,rfl,q1⟩:=has_lst h1; obtain ⟨ys,rfl,q2⟩:=has_lst h2
  obtain ⟨a,vs,rfl,ha,ra⟩:=r1.lstV
  obtain ⟨b,ws,e,hb,rb⟩:=r2.lstV
  cases e
  rw [ha] at hb; cases hb
  have:xs=ys:=by
   apply List.ext_getElem?
   intro i
   cases qx:xs[i]? with
   | none =>
    have:ys[i]?=none:=by
     have h1:=ra.length
     have h2:=rb.length
     have h3:=List.getElem?_eq_none_iff.mp qx
     exact List.getElem?_eq_none_iff.mpr (by omega)
    rw [this]
   | some d =>
    obtain ⟨v,ev,rv⟩:=ra.get qx
    obtain ⟨d',ed,rd⟩:=rb.getV ev
    rw [ed,rep_fn s (q1 d (List.mem_of_getElem? qx)) (q2 d' (List.mem_of_getElem? ed)) rv rd]
  rw [this]
theorem reps_fn:∀ (ss:List Sh) {xs ys:List D} {vs:List V},hass ss xs=true→hass ss ys=true→Reps K B vs xs→Reps K B vs ys→xs=ys
 | [],xs,ys,vs,h1,h2,r1,r2=>by
  have e1:=hass_len h1; have e2:=hass_len h2
  rw [List.length_nil] at e1 e2
  rw [List.eq_nil_of_length_eq_zero e1,List.eq_nil_of_length_eq_zero e2]
 | s :: ss,[],ys,vs,h1,h2,r1,r2=>by simp [hass] at h1
 | s :: ss,x :: xs,[],vs,h1,h2,r1,r2=>by simp [hass] at h2
 | s :: ss,x :: xs,y :: ys,vs,h1,h2,r1,r2=>by
  simp [hass] at h1 h2
  cases r1 with
  | cons a1 b1=>cases r2 with
   | cons a2 b2=>rw [rep_fn s h1.1 h2.1 a1 a2,reps_fn ss h1.2 h2.2 b1 b2]
end
end
section
variable {X:Cx} {pins:List (Addr×Obj)} {σ:St} {H B:Hp} {s:Shared}
theorem all_eqD {xs ys:List D} {n:Nat} {e:Nat→Bool} (hn:n=xs.length) (hl:xs.length=ys.length) (he:∀ j,j < n→(e j=true↔xs[j]?=ys[j]?)):((List.range n).all e)=true↔xs=ys:=by
 rw [List.all_eq_true]
 constructor
 ·intro h
  apply List.ext_getElem?
  intro i
  by_cases hi:i < n
  ·exact (he i hi).mp (h i (List.mem_range.mpr hi))
  ·rw [List.getElem?_eq_none (by omega),List.getElem?_eq_none (by omega)]
 ·rintro rfl j hj
  exact (he j (List.mem_range.mp hj)).mpr rfl
noncomputable def eqO (xs ys:List D) (j:Nat):Bool := @decide (xs[j]?=ys[j]?) (Classical.propDecidable _)
theorem eqO_iff {xs ys:List D} {j:Nat}:eqO xs ys j=true↔xs[j]?=ys[j]?:=by unfold eqO; exact @decide_eq_true_iff _ (Classical.propDecidable _)
theorem eqO_at {xs ys:List D} {j:Nat} {x y:D} (h1:xs[j]?=some x) (h2:ys[j]?=some y):eqO xs ys j=eqD x y:=by
 rw [Bool.eq_iff_iff,eqO_iff,eqD_iff,h1,h2]
 constructor
 ·intro h; exact Option.some.inj h
 ·intro h; rw [h]
structure EqAll (A:Around) (s:Shared) (u w:Value) (x y:D):Prop where
 rc:SeqAt.RcAt A s u w (eqD x y)
 ne:SeqAt.RcNeAt A s u w (!eqD x y)
 eq:SeqAt.EqAt A s u w (eqD x y)
mutual
theorem eq_sh (I:Inv X pins σ H s) (sB:Same B H):∀ (sh:Sh) {A:Around} {x y:D} {v w:V} {u u':Value},has sh x=true→has sh y=true→Rep X.K B v x→Rep X.K B w y→RelV v u→RelV w u'→A.units + dep sh < cLine→EqAll A s u u' x y
 | .I,A,x,y,v,w,u,u',h1,h2,r1,r2,l1,l2,hu=>by
  obtain ⟨i,rfl⟩:=has_int h1; obtain ⟨j,rfl⟩:=has_int h2
  cases r1.intV; cases r2.intV
  obtain ⟨t,rfl⟩:=l1; obtain ⟨t',rfl⟩:=l2
  have e:eqD (.int i) (.int j)=(i == j):=eqD_of (by simp)
  refine ⟨?_,?_,?_⟩ <;> rw [e]
  ·exact SeqAt.RcAt.int_int i t j t'
  ·exact SeqAt.RcNeAt.int_int i t j t'
  ·exact SeqAt.EqAt.int_int i t j t'
 | .B,A,x,y,v,w,u,u',h1,h2,r1,r2,l1,l2,hu=>by
  obtain ⟨i,rfl⟩:=has_bl h1; obtain ⟨j,rfl⟩:=has_bl h2
  cases r1.blV; cases r2.blV
  cases l1; cases l2
  have e:eqD (.bl i) (.bl j)=(i == j):=eqD_of (by simp)
  refine ⟨?_,?_,?_⟩ <;> rw [e]
  ·exact SeqAt.RcAt.bool_bool i j
  ·exact SeqAt.RcNeAt.bool_bool i j
  ·exact SeqAt.EqAt.bool_bool i j
 | .N,A,x,y,v,w,u,u',h1,h2,r1,r2,l1,l2,hu=>by
  cases has_non h1; cases has_non h2
  cases r1.nonV; cases r2.nonV
  cases l1; cases l2
  have e:eqD .non .non=true:=eqD_self _
  refine ⟨?_,?_,?_⟩ <;> rw [e]
  ·exact SeqAt.RcAt.none_none
  ·exact SeqAt.RcNeAt.none_none
  ·exact SeqAt.EqAt.same _
 | .S,A,x,y,v,w,u,u',h1,h2,r1,r2,l1,l2,hu=>by
  obtain ⟨i,rfl⟩:=has_str h1; obtain ⟨j,rfl⟩:=has_str h2
  cases r1; cases r2
  obtain ⟨t,rfl⟩:=l1; obtain ⟨t',rfl⟩:=l2
  have e:eqD (.str i) (.str j)=(i == j):=eqD_of (by simp)
  refine ⟨?_,?_,?_⟩ <;> rw [e]
  ·exact SeqAt.RcAt.str_str i t j t'
  ·exact SeqAt.RcNeAt.str_str i t j t'
  ·exact SeqAt.EqAt.str_str i t j t'
 | .T ss,A,x,y,v,w,u,u',h1,h2,r1,r2,l1,l2,hu=>by
  have r1':=r1
  have r2':=r2
  obtain ⟨xs,rfl,q1⟩:=has_tup h1; obtain ⟨ys,rfl,q2⟩:=has_tup h2
  obtain ⟨a,vs,rfl,ha,ra⟩:=r1.tupV
  obtain ⟨b,ws,rfl,hb,rb⟩:=r2.tupV
  cases l1; cases l2
  obtain ⟨its,k1,t1,_⟩:=I.tuple (SqT.of (sB _ _ ha))
  obtain ⟨its2,k2,t2,_⟩:=I.tuple (SqT.of (sB _ _ hb))
  have d1:dep (.T ss)=deps ss + 1:=by simp [dep]
  have lx:=hass_len q1
  have ly:=hass_len q2
  have z1:=ra.length; have z2:=rb.length; have z3:=k1.length; have z4:=k2.length
  have el:=eqs_sh I sB ss (A:=A.in1) q1 q2 ra rb k1 k2 (by show A.units + 1 + deps ss < cLine; omega)
  have he:∀ j (h1:j < its.toArray.size) (h2:j < its2.toArray.size),SeqAt.EqAt A.in1 s its.toArray[j] its2.toArray[j] (eqO xs ys j):=fun j g1 g2=>by
   have:=el j (by simpa using g1) (by simpa using g2)
   simpa using this
  have e:eqD (.tup xs) (.tup ys)=((List.range (min its.toArray.size its2.toArray.size)).all (eqO xs ys) && its.toArray.size == its2.toArray.size):=by
   refine eqD_of ?_
   have s1:its.toArray.size=xs.length:=by simp; omega
   have s2:its2.toArray.size=xs.length:=by simp; omega
   rw [s1,s2,Nat.min_self,Bool.and_eq_true]
   have:=all_eqD (xs:=xs) (ys:=ys) (n:=xs.length) (e:=eqO xs ys) rfl (by omega) (fun j _=>eqO_iff)
   constructor
   ·intro h; rw [this.mp h.1]
   ·intro h; cases h; exact ⟨this.mpr rfl,by simp⟩
  have rc:SeqAt.RcAt A s (.ref a) (.ref b) (eqD (.tup xs) (.tup ys)):=by rw [e]; exact SeqAt.RcAt.tuples t1 t2 (by omega) he
  refine ⟨rc,by rw [e]; exact SeqAt.RcNeAt.tuples t1 t2 (by omega) he,?_⟩
  by_cases hab:a=b
  ·subst hab
   have:=rep_fn (.T ss) h1 h2 r1' r2'
   rw [this,eqD_self]
   exact SeqAt.EqAt.same _
  ·exact SeqAt.EqAt.of_refs hab rc
 | .L sh,A,x,y,v,w,u,u',h1,h2,r1,r2,l1,l2,hu=>by
  have r1':=r1
  have r2':=r2
  obtain ⟨xs,rfl,q1⟩:=has_lst h1; obtain ⟨ys,rfl,q2⟩:=has_lst h2
  obtain ⟨a,vs,rfl,ha,ra⟩:=r1.lstV
  obtain ⟨b,ws,rfl,hb,rb⟩:=r2.lstV
  cases l1; cases l2
  obtain ⟨its,k1,p1,_⟩:=I.list (SqL.of (sB _ _ ha))
  obtain ⟨its2,k2,p2,_⟩:=I.list (SqL.of (sB _ _ hb))
  have t1:=p1.isList
  have t2:=p2.isList
  have d1:dep (.L sh)=dep sh + 1:=by simp [dep]
  have z1:=ra.length; have z2:=rb.length; have z3:=k1.length; have z4:=k2.length
  have he:∀ j (h1:j < its.toArray.size) (h2:j < its2.toArray.size),SeqAt.EqAt A.in1 s its.toArray[j] its2.toArray[j] (eqO xs ys j):=fun j g1 g2=>by
   have g1':j < its.length:=by simpa using g1
   have g2':j < its2.length:=by simpa using g2
   obtain ⟨v1,e1,rv1⟩:=k1.getR (List.getElem?_eq_getElem g1')
   obtain ⟨v2,e2,rv2⟩:=k2.getR (List.getElem?_eq_getElem g2')
   obtain ⟨c1,f1,rd1⟩:=ra.getV e1
   obtain ⟨c2,f2,rd2⟩:=rb.getV e2
   rw [eqO_at f1 f2]
   have:=(eq_sh I sB sh (A:=A.in1) (q1 c1 (List.mem_of_getElem? f1)) (q2 c2 (List.mem_of_getElem? f2)) rd1 rd2 rv1 rv2 (by show A.units + 1 + dep sh < cLine; omega)).eq
   simpa using this
  by_cases hsz:its.toArray.size=its2.toArray.size
  ·have s1:its.toArray.size=xs.length:=by simp; omega
   have s2:xs.length=ys.length:=by simp at hsz; omega
   have e:eqD (.lst xs) (.lst ys)=(List.range its.toArray.size).all (eqO xs ys):=by
    refine eqD_of ?_
    rw [all_eqD (xs:=xs) (ys:=ys) s1 s2 (fun j _=>eqO_iff)]
    constructor
    ·intro h; rw [h]
    ·intro h; cases h; rfl
   have rc:SeqAt.RcAt A s (.ref a) (.ref b) (eqD (.lst xs) (.lst ys)):=by rw [e]; exact SeqAt.RcAt.lists t1 t2 hsz (by omega) he
   refine ⟨rc,by rw [e]; exact SeqAt.RcNeAt.lists t1 t2 hsz (by omega) he,?_⟩
   by_cases hab:a=b
   ·subst hab
    have:=rep_fn (.L sh) h1 h2 r1' r2'
    rw [this,eqD_self]
    exact SeqAt.EqAt.same _
   ·exact SeqAt.EqAt.of_refs hab rc
  ·have e:eqD (.lst xs) (.lst ys)=false:=eqD_of (by
    constructor
    ·intro h; cases h
    ·intro h; cases h; simp at hsz; omega)
   have hne:(its.toArray.size != its2.toArray.size)=true:=by simpa using hsz
   have rc:SeqAt.RcAt A s (.ref a) (.ref b) (eqD (.lst xs) (.lst ys)):=by rw [e]; exact SeqAt.RcAt.lists_lengths t1 t2 hne (by omega)
   refine ⟨rc,by rw [e]; exact SeqAt.RcNeAt.lists_lengths t1 t2 hne (by omega),?_⟩
   refine SeqAt.EqAt.of_refs (fun hab=>?_) rc
   subst hab
   have:=rep_fn (.L sh) h1 h2 r1' r2'
   cases this
   simp at hsz; omega
theorem eqs_sh (I:Inv X pins σ H s) (sB:Same B H):∀ (ss:List Sh) {A:Around} {xs ys:List D} {vs ws:List V} {us us':List Value},hass ss xs=true→hass ss ys=true→Reps X.K B vs xs→Reps X.K B ws ys→Vals vs us→Vals ws us'→A.units + deps ss < cLine →
  ∀ j (h1:j < us.length) (h2:j < us'.length),SeqAt.EqAt A s us[j] us'[j] (eqO xs ys j)
 | [],A,[],ys,_,_,_,_,h1,h2,.nil,r2,.nil,l2,hu,j,g1,g2=>absurd g1 (by simp)
 | [],A,x :: xs,ys,_,_,_,_,h1,h2,r1,r2,l1,l2,hu,j,g1,g2=>by simp [hass] at h1
 | s :: ss,A,[],ys,vs,ws,us,us',h1,h2,r1,r2,l1,l2,hu,j,g1,g2=>by simp [hass] at h1
 | s :: ss,A,x :: xs,[],vs,ws,us,us',h1,h2,r1,r2,l1,l2,hu,j,g1,g2=>by simp [hass] at h2
 | s :: ss,A,x :: xs,y :: ys,v :: vs,w :: ws,u :: us,u' :: us',h1,h2,.cons a1 b1,.cons a2 b2,.cons c1 d1,.cons c2 d2,hu,0,g1,g2=>by
  have h1':has s x=true:=by simp [hass] at h1; exact h1.1
  have h2':has s y=true:=by simp [hass] at h2; exact h2.1
  have dd:deps (s :: ss)=max (dep s) (deps ss):=by simp [deps]
  have:=(eq_sh I sB s (A:=A) h1' h2' a1 a2 c1 c2 (by omega)).eq
  rw [eqO_at (xs:=x :: xs) (ys:=y :: ys) (j:=0) rfl rfl]
  exact this
 | s :: ss,A,x :: xs,y :: ys,v :: vs,w :: ws,u :: us,u' :: us',h1,h2,.cons a1 b1,.cons a2 b2,.cons c1 d1,.cons c2 d2,hu,j + 1,g1,g2=>by
  have h1':hass ss xs=true:=by simp [hass] at h1; exact h1.2
  have h2':hass ss ys=true:=by simp [hass] at h2; exact h2.2
  have dd:deps (s :: ss)=max (dep s) (deps ss):=by simp [deps]
  have:=eqs_sh I sB ss (A:=A) h1' h2' b1 b2 d1 d2 (by omega) j (by simpa using g1) (by simpa using g2)
  have e:eqO (x :: xs) (y :: ys) (j + 1)=eqO xs ys j:=by
   rw [Bool.eq_iff_iff,eqO_iff,eqO_iff]; simp
  rw [e]
  exact this
end
def rEqD (K:PySem.W.Frag) (ng:Bool):R2:=fun x y H Q=>∃ B d e sh,Rep K B x d∧Rep K B y e∧Same B H∧has sh d=true∧has sh e=true∧dep sh≤50∧Q (.bl (if ng then !eqD d e else eqD d e)) H
theorem op_eqD (hu:X.A.units + 64 < cLine):OpR X (compareOp .Eq) (rEqD X.K false):=by
 intro pins s σ H x y v u Q I rx ry h
 obtain ⟨B,d,e,sh,r1,r2,sB,h1,h2,hd,q⟩:=h
 exact (eq_sh I sB sh (A:=X.A) h1 h2 r1 r2 rx ry (by omega)).rc _ _ _ _ ⟨.bl _,H,I,rfl,q⟩
theorem op_neD (hu:X.A.units + 64 < cLine):OpR X (compareOp .NotEq) (rEqD X.K true):=by
 intro pins s σ H x y v u Q I rx ry h
 obtain ⟨B,d,e,sh,r1,r2,sB,h1,h2,hd,q⟩:=h
 exact (eq_sh I sB sh (A:=X.A) h1 h2 r1 r2 rx ry (by omega)).ne _ _ _ _ ⟨.bl _,H,I,rfl,q⟩
def rInD (K:PySem.W.Frag) (ng:Bool):R2:=fun x y H Q=>∃ B d es sh,Rep K B x d∧(Rep K B y (.lst es)∨Rep K B y (.tup es))∧Same B H∧has sh d=true∧(∀ e∈es,has sh e=true)∧dep sh≤50∧∀ b:Bool,(b=true↔d∈es)→Q (.bl (if ng then !b else b)) H
noncomputable def inE (K:PySem.W.Frag) (B:Hp) (sh:Sh) (d:D) (u:Value):Bool := @decide (∃ v,RelV v u∧Rep K B v d) (Classical.propDecidable _)
theorem inE_iff {K:PySem.W.Frag} {sh:Sh} {d:D} {u:Value}:inE K B sh d u=true↔∃ v,RelV v u∧Rep K B v d:=by unfold inE; exact @decide_eq_true_iff _ (Classical.propDecidable _)
theorem relV_fn {v w:V} {u:Value} (h1:RelV v u) (h2:RelV w u):v=w:=by
 cases v <;> cases w <;> simp only [RelV] at h1 h2 <;> first
  | rfl
  | (obtain ⟨t,rfl⟩:=h1; obtain ⟨t',e⟩:=h2; cases e; rfl)
  | (obtain ⟨t,rfl⟩:=h1; obtain ⟨t',e⟩:=h2; cases e; done)
  | (obtain ⟨t,rfl⟩:=h1; cases h2; done)
  | (obtain ⟨t,rfl⟩:=h2; cases h1; done)
  | (subst h1; cases h2; rfl)
  | (subst h1; cases h2; done)
theorem in_any {K:PySem.W.Frag} {sh:Sh} {d:D} {vs:List V} {es:List D} {its:List Value} (h1:has sh d=true) (h2:∀ e∈es,has sh e=true) (r:Reps K B vs es) (l:Vals vs its):its.toArray.any (inE K B sh d)=true↔d∈es:=by
 rw [show its.toArray.any (inE K B sh d)=its.any (inE K B sh d) by simp,List.any_eq_true]
 constructor
 ·rintro ⟨u,hu,z⟩
  obtain ⟨v,lv,rv⟩:=inE_iff.mp z
  obtain ⟨j,hj⟩:=List.getElem?_of_mem hu
  obtain ⟨w,ew,lw⟩:=l.getR hj
  cases relV_fn lv lw
  obtain ⟨e,ee,re⟩:=r.getV ew
  have me:=List.mem_of_getElem? ee
  rw [rep_fn sh h1 (h2 e me) rv re]
  exact me
 ·intro m
  obtain ⟨j,hj⟩:=List.getElem?_of_mem m
  obtain ⟨v,ev,rv⟩:=r.get hj
  obtain ⟨u,eu,lu⟩:=l.get ev
  exact ⟨u,List.mem_of_getElem? eu,inE_iff.mpr ⟨v,lu,rv⟩⟩
theorem in_each (I:Inv X pins σ H s) (sB:Same B H) {A:Around} {sh:Sh} {d:D} {vs:List V} {es:List D} {its:List Value} {x:V} {v:Value} (h1:has sh d=true) (h2:∀ e∈es,has sh e=true) (rx:Rep X.K B x d) (lx:RelV x v) (r:Reps X.K B vs es) (l:Vals vs its)
  (hu:A.units + dep sh < cLine):∀ y,y∈its.toArray→SeqAt.EqAt A s y v (inE X.K B sh d y):=fun y hy=>by
 obtain ⟨j,hj⟩:=List.getElem?_of_mem (show y∈its by simpa using hy)
 obtain ⟨w,ew,lw⟩:=l.getR hj
 obtain ⟨e,ee,re⟩:=r.getV ew
 have he:=h2 e (List.mem_of_getElem? ee)
 have q:=(eq_sh I sB sh (A:=A) he h1 re rx lw lx hu).eq
 have z:eqD e d=inE X.K B sh d y:=eqD_of (by
  rw [inE_iff]
  constructor
  ·rintro ⟨v',l',r'⟩
   cases relV_fn l' lw
   exact rep_fn sh he h1 re r'
  ·rintro rfl
   exact ⟨w,lw,re⟩)
 rw [← z]
 exact q
theorem op_inD (hu:X.A.units + 64 < cLine):OpR X (compareOp .In) (rInD X.K false):=by
 intro pins s σ H x y v u Q I rx ry h
 obtain ⟨B,d,es,sh,r1,r2,sB,h1,h2,hd,q⟩:=h
 rcases r2 with r2 | r2
 ·obtain ⟨a,vs,rfl,ha,rs⟩:=r2.lstV
  cases ry
  obtain ⟨its,k1,p1,_⟩:=I.list (SqL.of (sB _ _ ha))
  exact SeqAt.in_listAt (inE X.K B sh d) p1.isList (in_each I sB (A:=X.A.in1) h1 h2 r1 rx rs k1 (by show X.A.units + 1 + _ < cLine; omega)) ⟨.bl _,H,I,rfl,q _ (in_any h1 h2 rs k1)⟩
 ·obtain ⟨a,vs,rfl,ha,rs⟩:=r2.tupV
  cases ry
  obtain ⟨its,k1,p1,_⟩:=I.tuple (SqT.of (sB _ _ ha))
  exact SeqAt.in_tupleAt (inE X.K B sh d) p1 (in_each I sB (A:=X.A.in1) h1 h2 r1 rx rs k1 (by show X.A.units + 1 + _ < cLine; omega)) ⟨.bl _,H,I,rfl,q _ (in_any h1 h2 rs k1)⟩
theorem op_notInD (hu:X.A.units + 64 < cLine):OpR X (compareOp .NotIn) (rInD X.K true):=by
 intro pins s σ H x y v u Q I rx ry h
 obtain ⟨B,d,es,sh,r1,r2,sB,h1,h2,hd,q⟩:=h
 rcases r2 with r2 | r2
 ·obtain ⟨a,vs,rfl,ha,rs⟩:=r2.lstV
  cases ry
  obtain ⟨its,k1,p1,_⟩:=I.list (SqL.of (sB _ _ ha))
  exact SeqAt.notIn_listAt (inE X.K B sh d) p1.isList (in_each I sB (A:=X.A.in1) h1 h2 r1 rx rs k1 (by show X.A.units + 1 + _ < cLine; omega)) ⟨.bl _,H,I,rfl,q _ (in_any h1 h2 rs k1)⟩
 ·obtain ⟨a,vs,rfl,ha,rs⟩:=r2.tupV
  cases ry
  obtain ⟨its,k1,p1,_⟩:=I.tuple (SqT.of (sB _ _ ha))
  exact SeqAt.notIn_tupleAt (inE X.K B sh d) p1 (in_each I sB (A:=X.A.in1) h1 h2 r1 rx rs k1 (by show X.A.units + 1 + _ < cLine; omega)) ⟨.bl _,H,I,rfl,q _ (in_any h1 h2 rs k1)⟩
end
section
variable {K:PySem.W.Frag} {X:Cx} {a b:Expr} {ua ub:UE} {pos:Pos}
def uEq (ng:Bool) (ua ub:UE):UE:=fun ρ k=>ua ρ fun x=>ub ρ fun y=>∃ sh,has sh x=true∧has sh y=true∧dep sh≤50∧k (.bl (if ng then !eqD x y else eqD x y))
def uIn (ng:Bool) (ua ub:UE):UE:=fun ρ k=>ua ρ fun x=>ub ρ fun y=>∃ sh es,(y=.lst es∨y=.tup es)∧has sh x=true∧(∀ e∈es,has sh e=true)∧dep sh≤50∧∀ b:Bool,(b=true↔x∈es)→k (.bl (if ng then !b else b))
theorem refEq {ta tb:TE} {ng:Bool} (ha:RefE K ta ua) (hb:RefE K tb ub):RefE K (tOp (rEqD K ng) ta tb) (uEq ng ua ub) :=
 ref2 ha hb fun x y k h R W B H σ ρ v w Q e rx ry q=>by
  obtain ⟨sh,h1,h2,hd,hk⟩:=h
  exact ⟨B,x,y,sh,rx,ry,e.bh,h1,h2,hd,q _ _ B H hk e (Grow.refl _ _) (.bl _)⟩
theorem refIn {ta tb:TE} {ng:Bool} (ha:RefE K ta ua) (hb:RefE K tb ub):RefE K (tOp (rInD K ng) ta tb) (uIn ng ua ub) :=
 ref2 ha hb fun x y k h R W B H σ ρ v w Q e rx ry q=>by
  obtain ⟨sh,es,hy,h1,h2,hd,hk⟩:=h
  refine ⟨B,x,es,sh,rx,?_,e.bh,h1,h2,hd,fun b hb=>q _ _ B H (hk b hb) e (Grow.refl _ _) (.bl _)⟩
  rcases hy with rfl | rfl
  ·exact .inl ry
  ·exact .inr ry
theorem e_eq (hu:X.A.units + 64 < cLine) (ha:PE3 X a ua) (hb:PE3 X b ub) (hm:behindInMarks .Eq b=false):PE3 X (.Compare a [.Eq] [b] pos) (uEq false ua ub):=by
 obtain ⟨_,h1,r1⟩:=ha; obtain ⟨_,h2,r2⟩:=hb
 exact ⟨_,pe_cmpR (op_eqD hu) h1 h2 hm,refEq r1 r2⟩
theorem t_eq (hu:X.A.units + 64 < cLine) (ha:PE3 X a ua) (hb:PE3 X b ub) (hm:behindInMarks .Eq b=false):PT3 X (.Compare a [.Eq] [b] pos) (uB (uEq false ua ub)):=by
 obtain ⟨_,h1,r1⟩:=ha; obtain ⟨_,h2,r2⟩:=hb
 exact ⟨_,pt_cmpR (op_eqD hu) h1 h2 hm,refB (refEq r1 r2)⟩
theorem t_ne (hu:X.A.units + 64 < cLine) (ha:PE3 X a ua) (hb:PE3 X b ub) (hm:behindInMarks .NotEq b=false):PT3 X (.Compare a [.NotEq] [b] pos) (uB (uEq true ua ub)):=by
 obtain ⟨_,h1,r1⟩:=ha; obtain ⟨_,h2,r2⟩:=hb
 exact ⟨_,pt_cmpR (op_neD hu) h1 h2 hm,refB (refEq r1 r2)⟩
theorem e_notIn (hu:X.A.units + 64 < cLine) (ha:PE3 X a ua) (hb:PE3 X b ub) (hm:behindInMarks .NotIn b=false):PE3 X (.Compare a [.NotIn] [b] pos) (uIn true ua ub):=by
 obtain ⟨_,h1,r1⟩:=ha; obtain ⟨_,h2,r2⟩:=hb
 exact ⟨_,pe_cmpR (op_notInD hu) h1 h2 hm,refIn r1 r2⟩
theorem t_in (hu:X.A.units + 64 < cLine) (ha:PE3 X a ua) (hb:PE3 X b ub) (hm:behindInMarks .In b=false):PT3 X (.Compare a [.In] [b] pos) (uB (uIn false ua ub)):=by
 obtain ⟨_,h1,r1⟩:=ha; obtain ⟨_,h2,r2⟩:=hb
 exact ⟨_,pt_cmpR (op_inD hu) h1 h2 hm,refB (refIn r1 r2)⟩
end
end L3
namespace L3
open PySem L2
open PySem.Builtin.Int (intBits)
theorem law_def3 {K:PySem.W.Frag} {P:Program} {w:World} {mg:Str→Option Value} {base:Heap} {x qual:Str} {st:Stmt} {f:Addr} {fd:FuncData} {N ps:List Str} {lv n:Nat} {F:FS} (Fd:Fun K x qual st f fd) (S:FnScope N ps (defScope st)) (hn:ps.length=n)
  (hbody:∀ (cdv:Value) (A:Around) (outer:List PySem.Env) (s:Shared) (H:Hp) (E:XK),Room lv (A.deeper (PyProof.Rows.envOfC qual (defScope st) s.heap.objs.size f cdv)) →
   ∃ u,PSs3 (cxOf CX0 P w K mg base N qual (defScope st) f cdv A outer s H E).nox (defBody st) u∧∀ as k,as.length=n→F as k→u { nx:=fun _=>k (.val .non),rt:=k } (as ++ List.replicate (N.length - n) .no)):FnOk P w K mg base CX0 (lv + 1) f fd ps (Con K n F):=by
 refine Fd.ok S (fun vs H Q E h=>?_) (fun cdv A outer s H vs Q E hr h=>?_)
 ·obtain ⟨W,B,as,k,_,hl,_,_,_,ai,_⟩:=h
  rw [ai.length,hl,hn]
 ·obtain ⟨W,B,as,k,hF,hl,hb,sB,hw,ai,q⟩:=h
  obtain ⟨u,⟨t,ht,rt⟩,hu⟩:=hbody cdv A outer s H E hr
  have ev:=Ev.start (N:=N) (Nat.le_of_ble_eq_true hb) sB hw ai
  rw [hl] at ev
  refine ⟨t,ht,rt _ _ (hu as k hl hF) H W B H (L2.start N vs) _ ev ⟨fun ρ σ B' H' h e g=>?_,fun _ _ _ _ h=>h.elim,fun _ _ _ _ h=>h.elim,fun r v B' H' h e g z=>q r v B' H' h ⟨e,g,z⟩⟩⟩
  exact q _ _ B' H' h ⟨e.toWd,g,.non⟩
def spLaw (K:PySem.W.Frag):Sp:=fun vs H Q _=>∃ (a:Addr) (ns:List Int),vs=[.ref a]∧SqL K H a (ns.map V.int)∧ns.length≤63∧∀ H',Q (.bl true) H'
def F_law:FS:=fun as k=>∃ ns:List Int,as=[.val (.scr ns)]∧ns.length≤63∧k (.val (.bl true))
theorem law_con {K:PySem.W.Frag} {vs:List V} {H:Hp} {Q:VK} {E:XK} (h:spLaw K vs H Q E):Con K 1 F_law vs H Q E:=by
 obtain ⟨a,ns,rfl,hS,hl,q⟩:=h
 refine ⟨fun _=>False,H,[.val (.scr ns)],fun r=>r=.val (.bl true),⟨ns,rfl,hl,rfl⟩,rfl,rfl,Same.refl _,fun _ z=>z.elim,.val (.scr hS) .nil,fun r v B' H' hr ex=>?_⟩
 subst hr
 have:=ex.res
 rw [Rep.blV this]
 exact q H'
def spCell (K:PySem.W.Frag):Sp:=fun vs H Q _=>∃ (a:Addr) (k:Int) (ns:List Int),vs=[.ref a,.int k]∧SqL K H a (ns.map V.int)∧0≤k∧∀ z,Q (.int z) H
def F_cell:FS:=fun as k=>∃ (ns:List Int) (i:Int),as=[.val (.scr ns),.val (.int i)]∧0≤i∧∀ z:Int,k (.val (.int z))
theorem Wd.entry {H B:Hp} {W:Addr→Prop} (sB:Same B H) (hw:∀ a,W a→B a=none∧Bag H a):Wd H W B H :=
 ⟨fun _ _ h _=>h,sB,fun a h=>(hw a h).1,fun a h=>(hw a h).2,fun a h=>by obtain ⟨x,y,q,_⟩:=(hw a h).2; rw [q]; simp⟩
theorem cell_con {K:PySem.W.Frag} {vs:List V} {H:Hp} {Q:VK} {E:XK} (h:Con K 2 F_cell vs H Q E):spCell K vs H Q E:=by
 obtain ⟨W,B,as,k,⟨ns,i,rfl,hi,hk⟩,hl,hb,sB,hw,ai,q⟩:=h
 cases ai with
 | val r1 ai=>cases ai with
  | val r2 ai =>
   cases ai
   obtain ⟨a,rfl,ha⟩:=r1.scrV
   cases r2.intV
   exact ⟨a,i,ns,rfl,sB.seq ha,hi,fun z=>q _ _ B H (hk z) ⟨Wd.entry sB hw,Grow.refl _ _,.int z⟩⟩
def spBag:Sp:=fun vs H Q _=>∃ c:Int,vs=[.int c]∧∀ (b:Addr) (x y:Int),H b=none→0≤x→0≤y→y < 2147483647→Q (.ref b) (upd H b (.lst [.int x,.int y]))
def F_bag:FS:=fun as k=>∃ c:Int,as=[.val (.int c)]∧k .bag
theorem bag_con {K:PySem.W.Frag} {vs:List V} {H:Hp} {Q:VK} {E:XK} (h:Con K 1 F_bag vs H Q E):spBag vs H Q E:=by
 obtain ⟨W,B,as,k,⟨c,rfl,hk⟩,hl,hb,sB,hw,ai,q⟩:=h
 cases ai with
 | val r1 ai =>
  cases ai
  cases r1.intV
  refine ⟨c,rfl,fun b x y hn x0 y0 y1=>?_⟩
  have wd:=Wd.entry sB hw
  exact q .bag _ B _ hk ⟨wd.allocH hn _,Grow.refl _ _,b,rfl,hn,(wd.fresh hn).2.2,x,y,upd_same,x0,y0,y1⟩
def spDraw (lim:Nat):Sp:=fun vs H Q _=>∃ (b:Addr) (m:Int),vs=[.ref b,.int m]∧Bag H b∧0 < m∧intBits m≤lim∧∀ (r:Int) (H':Hp),Ext b H H'→Bag H' b→0≤r→r < m→Q (.int r) H'
def F_draw (lim:Nat):FS:=fun as k=>∃ m:Int,as=[.bag,.val (.int m)]∧0 < m∧intBits m≤lim∧∀ r:Int,0≤r→r < m→k (.val (.int r))
theorem draw_con {K:PySem.W.Frag} {lim:Nat} {vs:List V} {H:Hp} {Q:VK} {E:XK} (h:Con K 2 (F_draw lim) vs H Q E):spDraw lim vs H Q E:=by
 obtain ⟨W,B,as,k,⟨m,rfl,m0,mb,hk⟩,hl,hb,sB,hw,ai,q⟩:=h
 cases ai with
 | bag hW ai=>cases ai with
  | val r2 ai =>
   cases ai
   cases r2.intV
   rename_i b
   refine ⟨b,m,rfl,(hw b hW).2,m0,mb,fun r H' ex bg r0 r1=>?_⟩
   have wd:=Wd.entry sB hw
   refine q _ _ B H' (hk r r0 r1) ⟨⟨fun a o h1 h2=>ex a o (by rintro rfl; exact h2 hW) h1,fun a o h1=>ex a o (by rintro rfl; rw [(hw _ hW).1] at h1; cases h1) (sB a o h1),wd.wb,fun a z=>?_,wd.wr⟩,Grow.refl _ _,.int r⟩
   by_cases e:a=b
   ·subst e; exact bg
   ·obtain ⟨x,y,h1,h2⟩:=(hw a z).2
    exact ⟨x,y,ex a _ e h1,h2⟩
theorem iteT3 {c:Bool} {A B:Prop} (h:c=true) (a:A):if c=true then A else B:=by rw [if_pos h]; exact a
theorem iteF3 {c:Bool} {A B:Prop} (h:c=false) (b:B):if c=true then A else B:=by rw [h,if_neg Bool.false_ne_true]; exact b
theorem neIf {x y:D} {A B:Prop} (h1:x≠y→A) (h2:x=y→B):if (!eqD x y)=true then A else B:=by
 by_cases h:x=y
 ·rw [eqD_iff.mpr h]; exact h2 h
 ·have:eqD x y=false:=by
   cases q:eqD x y with
   | false=>rfl
   | true=>exact absurd (eqD_iff.mp q) h
  rw [this]; exact h1 h
theorem at3 {u:US} {U:UEnds} {ρ r:List Sl} (e:ρ=r) (h:u U r):u U ρ:=by rw [e]; exact h
theorem pass4 {s t:US} {U:UEnds} {ρ:List Sl} (first:∀ N:List Sl→Prop,N ρ→s { U with nx:=N } ρ) (rest:t U ρ):uSeq s t U ρ:=first (t U) rest
theorem mid4 {s t:US} {U:UEnds} {ρ:List Sl} (I:List Sl→Prop) (rest:∀ ρ',I ρ'→t U ρ') (first:∀ N:List Sl→Prop,(∀ ρ',I ρ'→N ρ')→s { U with nx:=N } ρ):uSeq s t U ρ:=first _ rest
theorem forR_ints {s:US} {U:UEnds} {n:Nat} (I:List Sl→Prop):∀ {ds:List D} {ρ:List Sl},I ρ→(∀ d∈ds,∃ c:Int,d=.int c) →
  (∀ (c:Int) ρ,I ρ→∀ N:List Sl→Prop,(∀ r,I r→N r)→s { U with nx:=N,ct:=N,bk:=U.nx } (ρ.set n (.val (.int c))))→(∀ ρ,I ρ→U.nx ρ)→forR (ugName n) s U ds ρ
 | [],ρ,h0,_,_,h2=>h2 ρ h0
 | d :: ds,ρ,h0,hd,h1,h2=>by
  obtain ⟨c,rfl⟩:=hd d List.mem_cons_self
  exact h1 c ρ h0 _ fun r hr=>forR_ints I hr (fun e he=>hd e (List.mem_cons_of_mem _ he)) h1 h2
theorem cutL_length {α:Type} (xs:List α) (lo hi:Option Int):(cutL xs lo hi).length≤xs.length:=by
 unfold cutL
 rw [List.length_take,List.length_drop]
 omega
theorem cutL_mem {α:Type} {xs:List α} {lo hi:Option Int} {x:α} (h:x∈cutL xs lo hi):x∈xs:=List.mem_of_mem_drop (List.mem_of_mem_take h)
theorem law_items {z:Int} {ns:List Int} {lo hi:Option Int}:∀ d∈[D.int z] ++ cutL (ns.map D.int) lo hi,∃ c:Int,d=.int c:=fun d hd=>by
 rcases List.mem_append.mp hd with h | h
 ·exact ⟨z,by simpa using h⟩
 ·obtain ⟨i,_,e⟩:=List.mem_map.mp (cutL_mem h)
  exact ⟨i,e.symm⟩
theorem law_len {z:Int} {ns:List Int} {lo hi:Option Int} (h:ns.length≤63):[D.int z].length + (cutL (ns.map D.int) lo hi).length≤sizeLine:=by
 have h1:=cutL_length (ns.map D.int) lo hi
 rw [List.length_map] at h1
 have:64≤sizeLine:=by decide
 simp only [List.length_singleton]
 omega
end L3
namespace L3
open PySem L2
section
variable {K:PySem.W.Frag} {X:Cx} {a b e:Expr} {ua ub u:UE} {pos p:Pos}
end
section
variable {X:Cx}
theorem fsub_of {cl cs:List (Str×Addr)} (h:∀ p∈cl,cs.lookup p.1=some p.2):∀ y c,cl.lookup y=some c→cs.lookup y=some c:=fun y c e=>h (y,c) (PySem.mem_of_lookup e)
theorem fhas_b {names:List (Str×NameKind)} {cl:List (Str×Addr)} (h:(names.all fun p => !(p.2 == .cell || p.2 == .free) || (cl.lookup p.1).isSome)=true):∀ y,(names.lookup y=some .cell∨names.lookup y=some .free)→∃ c,cl.lookup y=some c:=fun y e=>by
 have key:∀ k:NameKind,(k == .cell || k == .free)=true→names.lookup y=some k→∃ c,cl.lookup y=some c:=fun k hk e=>by
  have q:=List.all_eq_true.mp h (y,k) (PySem.mem_of_lookup e)
  have q:(!(k == .cell || k == .free) || (cl.lookup y).isSome)=true:=q
  rw [hk] at q
  exact Option.isSome_iff_exists.mp (by simpa using q)
 rcases e with e | e
 ·exact key _ rfl e
 ·exact key _ rfl e
end
end L3
namespace L2
open PySem PySem.Spec PyProof.Rows
def PIfs (X:Cx) (ifs:List Expr) (tt:TT):Prop:=∀ (pins:List (Addr×Obj)) (s:Shared) (σ:St) (H:Hp) (Q:Bool→Hp→Prop),Inv X pins σ H s→tt σ H Q →
 wpAny (model X.prog X.w) X.A (forIn ifs true fun t r=>if r=true then do let z ← isTrue t X.env (eval t X.env); pure (ForInStep.yield z) else pure (ForInStep.yield r)) (TP X pins σ Q) X.xe s
def tTrue:TT:=fun _ H Q=>Q true H
theorem pifs_nil {X:Cx}:PIfs X [] tTrue:=fun _ _ _ H _ I h=>wpAny_tests_nil ⟨H,I,h⟩
theorem pifs_one {X:Cx} {c:Expr} {tt:TT} (h:PT X c tt):PIfs X [c] tt:=fun pins s σ H Q I q=>wpAny_tests_one (h pins s σ H Q I q)
theorem comp_turns {P:Program} {w:World} {A:Around} {R:Result→Shared→Prop} {s:Shared} {elt tg src:Expr} {ifs:List Expr} {sc:Scope} {ps:Pos} {itv acc:Value} {env:PySem.Env} (Iv:Nat→Shared→Prop) (n:Nat) (h0:Iv n s)
  (turn:∀ n s,Iv n s→wpAny (model P w) A (pyNext itv) (fun r s1=>match r with
   | none=>R (.ok .next) s1
   | some v=>wpAny (model P w) A (letOwnedTupleGo tg itv v) (fun _ sg=>wpAny (model P w) A (assign tg env v) (fun _ s2 =>
     wpAny (model P w) A (forIn ifs true fun t r=>if r=true then do let z ← isTrue t env (eval t env); pure (ForInStep.yield z) else pure (ForInStep.yield r)) (fun z s3 =>
      if z=true then wpAny (model P w) A (eval elt env) (fun y s4=>wpAny (model P w) A (call (.builtin "list.append") [acc,y]) (fun _ s5=>∃ m,m < n∧Iv m s5) (notedBy (model P w) A env fun e s'=>R (.error e) s') s4) (notedBy (model P w) A env fun e s'=>R (.error e) s') s3
      else ∃ m,m < n∧Iv m s3) (notedBy (model P w) A env fun e s'=>R (.error e) s') s2) (notedBy (model P w) A env fun e s'=>R (.error e) s') sg) (notedBy (model P w) A env fun e s'=>R (.error e) s') s1) (notedBy (model P w) A env fun e s'=>R (.error e) s') s) :
  codeAny (model P w) A (.compLoop (.ListComp elt [⟨tg,src,ifs,0⟩] sc ps) 0 itv acc env) R s:=by
 refine codeAny_loop rfl Iv (fun k s' hv=>?_) n h0
 show wpAny _ A ((compTurn (.ListComp elt [⟨tg,src,ifs,0⟩] sc ps) 0 itv acc env).onRaise (fun z=>do noteFrame z env; theTreesLotGoes z)) _ _ s'
 rw [compTurn_list]
 refine wpAny_noted (wpAny_bind (wpAny_standAt (wpAny_bind (wpAny_mono (turn k s' hv) (fun r s1 h1=>?_) fun _ _ z=>z))))
 cases r with
 | none=>exact wpAny_pure h1
 | some v =>
  refine wpAny_bind (wpAny_mono h1 (fun _ sg hg=>wpAny_bind (wpAny_mono hg (fun _ s2 h2=>wpAny_bind (wpAny_mono h2 (fun z s3 h3=>?_) fun _ _ q=>q)) fun _ _ q=>q)) fun _ _ q=>q)
  cases z with
  | false=>exact wpAny_pure ⟨rfl,h3⟩
  | true=>exact wpAny_bind (wpAny_bind (wpAny_mono h3 (fun y s4 h4=>wpAny_bind (wpAny_mono h4 (fun _ s5 h5=>wpAny_pure (wpAny_pure ⟨rfl,h5⟩)) fun _ _ q=>q)) fun _ _ q=>q))
def CompG (J:It) (g:TG) (tt:TT) (te:TE) (σ0:St) (D:Addr) (H1:Hp) (Q:VK):Prop:=∃ W:Nat→Nat→St→Hp→Prop,(∃ m,W 0 m σ0 (upd H1 D (.lst [])))∧∀ i m σ H,W i m σ H →
 (J.stop i H∧Q (.ref D) H)∨(J.go i H∧∀ x H',J.yld i H x H'→g x σ H' fun σ2 H2=>tt σ2 H2 fun b H3=>if b=true then te σ2 H3 fun y H4=>∃ ys,H4 D=some (.lst ys)∧ys.length < sizeLine∧∃ m',m' < m∧W (i + 1) m' σ2 (upd H4 D (.lst (ys ++ [y]))) else ∃ m',m' < m∧W (i + 1) m' σ2 H3)
def tCompG (wi:TI) (g:TG) (tt:TT) (te:TE) (nt:Nat) (js:List Nat):TE:=fun σ H Q=>wi σ H fun J H1=>∀ D,H1 D=none→CompG J g tt te (List.replicate nt none ++ freeV σ js) D H1 Q
section
variable {X:Cx}
structure FreeOk (X:Cx) (scope:Scope) (cl:List (Str×Addr)) (fr:List Str) (js:List Nat):Prop where
 clos:closureFor scope X.env=pure cl
 cell:∀ y∈scope.names,y.2≠.cell
 kind:scope.kind=.function
 names:∀ y∈scope.names,y.2=.local→scope.names.lookup y.1=some .local
 sub:∀ y c,cl.lookup y=some c→X.env.cells.lookup y=some c
 has:∀ y,((relabel scope X.env).names.lookup y=some .cell∨(relabel scope X.env).names.lookup y=some .free)→∃ c,cl.lookup y=some c
 frn:∀ (i:Nat) (y:Str),fr[i]?=some y→∃ j:Nat,js[i]?=some j∧X.N[j]?=some y∧X.env.kindOf y=some .cell∧((relabel scope X.env).names.lookup y=some .cell∨(relabel scope X.env).names.lookup y=some .free)∧∃ c,cl.lookup y=some c
 len:js.length=fr.length
theorem comp_block {elt iter tg:Expr} {ifs:List Expr} {pos:Pos} {scope:Scope} {cl:List (Str×Addr)} {ts fr:List Str} {js:List Nat} {wi:TI} {g:TG} {tt:TT} {te:TE} {use:Option (Value→Sem Unit)} {RQ:Value→Shared→Prop} {QE:VK}
  (hi:PI X tg iter wi) (hg:∀ C s H ex,PG (compCx X (ts ++ fr) scope cl C s H ex) tg g) (hts:∀ C s H ex,PIfs (compCx X (ts ++ fr) scope cl C s H ex) ifs tt) (helt:∀ C s H ex,PE (compCx X (ts ++ fr) scope cl C s H ex) elt te)
  (F:FreeOk X scope cl fr js) (hc:X.calm=true) (hs:∀ v,foldedSetIterable iter X.env v=pure v)
  {pins:List (Addr×Obj)} {s:Shared} {σ:St} {H:Hp} (I:Inv X pins σ H s) (h:tCompG wi g tt te ts.length js σ H QE) (newAcc:Sem Value) (hnew:newAcc=newList []) (pp:Pos)
  (hR:∀ (D C:Addr) (H5:Hp) (s6:Shared) (m:Str→Option Value),s6.heap.Ns C m→H5 C=none→C≠X.env.locals→X.s₀.heap.objs.size≤C→(∀ x c,X.env.cells.lookup x=some c→c≠C)→(∀ p∈X.pn ++ pins,p.1≠C)→C ∉ X.fs →
   (∀ h':Heap,(∀ b u,b≠C→s6.heap.get? b=some u→h'.get? b=some u)→Inv X pins σ H5 { s6 with heap:=h' })→QE (.ref D) H5→compPost (model X.prog X.w) X.A X.xe use RQ (.ref D) C (.ok .next) s6) :
  wpAny (model X.prog X.w) X.A (comprehension (.ListComp elt [⟨tg,iter,ifs,0⟩] scope pos) scope X.env pp newAcc false (eval iter X.env) use) RQ X.xe s:=by
 refine wpAny_comprehension_free (use:=use) rfl hs F.clos F.kind F.names (thn (hi pins s σ H _ I h) fun xv s1 h1=>thn h1 fun itv s2 h2=>?_)
 obtain ⟨it,fp,tn,J,H2,rfl,I2,T,st2,f2,h2⟩:=h2
 have hD:H2 s2.heap.objs.size=none:=I2.fresh
 obtain ⟨W,⟨m0,w0⟩,turn⟩:=h2 _ hD
 rw [hnew]
 refine wpAny_newObj_type ?_
 have I3:Inv X pins σ (upd H2 s2.heap.objs.size (.lst [])) { s2 with heap:=s2.heap.push { cls:=.type "list", data:=.seq ([]:List Value).toArray } }:=I2.lnew (t':=s2.toks) (its:=[]) .nil (by show 0≤sizeLine; decide)
 generalize hs3:({ s2 with heap:=s2.heap.push { cls:=.type "list", data:=.seq ([]:List Value).toArray } }:Shared)=s3 at I3
 have e3:s3.heap=s2.heap.push { cls:=.type "list", data:=.seq ([]:List Value).toArray }:=by rw [← hs3]
 generalize hH3:upd H2 s2.heap.objs.size (.lst [])=H3 at I3 w0
 generalize hDD:s2.heap.objs.size=D at hD hH3 w0 turn
 have k3:∀ b o,s2.heap.get? b=some o→s3.heap.get? b=some o:=fun b o e=>by rw [e3]; exact Heap.get?_push_of_some _ e
 have f3:∀ b∈fp,FpOk X pins H3 b:=fun b hb=>by
  obtain ⟨o,ho,_⟩:=T.obj _ _ st2 b hb
  have lt:=Heap.lt_size ho
  refine ⟨?_,(f2 b hb).2⟩
  rw [← hH3,upd_ne (by rw [← hDD]; exact Nat.ne_of_lt lt)]
  exact (f2 b hb).1
 refine wpAny_newFunctionEnv F.cell (by intro y hy; simp at hy) (fun h1 hns hsb=>?_) F.kind
 have hC3:s3.heap.get? s3.heap.objs.size=none:=Heap.get?_none_of_le (Nat.le_refl _)
 have k4:∀ b o,s3.heap.get? b=some o→h1.get? b=some o:=fun b o e=>hsb.extBut b o (Nat.ne_of_lt (Heap.lt_size e)) (Heap.get?_push_of_some _ e)
 show codeAny (model X.prog X.w) X.A (.compStart (.ListComp elt [⟨tg,iter,ifs,0⟩] scope pos) 0 (.ref it) (.ref D) (compEnvC scope cl s3.heap.objs.size X.env)) (compPost (model X.prog X.w) X.A X.xe use RQ (.ref D) s3.heap.objs.size) _
 have ok:(compCx X (ts ++ fr) scope cl s3.heap.objs.size s3 H3 fp).Ok:=by
  refine ⟨I3.ok.mod,F.kind,I3.ok.glob,I3.ok.blt,Nat.le_refl _,fun y z c e1 e2=>I3.ok.inj y z c (F.sub _ _ e1) (F.sub _ _ e2),fun y hy=>F.has y hy,fun y c z=>absurd z Bool.false_ne_true,I3.ok.hd,I3.ok.frames,.inl rfl,fun b hb=>?_,I3.bs,Nat.le_trans I3.ok.bsz I3.sz,
   fun b o e hb=>?_,fun b hb hf=>?_,I3.stack,I3.stkFree⟩
  ·obtain ⟨o,ho,_⟩:=T.obj _ _ st2 b hb
   exact ⟨Nat.ne_of_lt (Heap.lt_size (k3 b o ho)),fun y c e=>(f3 b hb).2.2.2.2.1 y c (F.sub _ _ e)⟩
  ·obtain ⟨_,_,_,z,_⟩:=f3 b hb
   rcases z with z | z
   ·exact I3.ok.noex b o e z
   ·exact absurd (Nat.lt_of_lt_of_le (Heap.lt_size (I3.ok.bs b o e).1) z) (Nat.lt_irrefl _)
  ·rcases List.mem_cons.mp (I3.stkSub b hf) with z | z
   ·exact (f3 b hb).2.1 z
   ·exact (f3 b hb).2.2.1 z
 have frV:∀ (hh:Heap),(∀ b u,s3.heap.get? b=some u→hh.get? b=some u)→∀ (i:Nat) (y:Str) (v:V),fr[i]?=some y→(freeV σ js)[i]?=some (some v)→∃ u,RelV v u∧∀ m,Look (compEnvC scope cl s3.heap.objs.size X.env) hh m y u:=fun hh kk i y v e1 e2=>by
  obtain ⟨j,ej,eN,hk,hkin,c,hcl⟩:=F.frn i y e1
  have e2':σ[j]?=some (some v):=by
   unfold freeV at e2
   rw [List.getElem?_map,ej,Option.map_some] at e2
   have e2:=Option.some.inj e2
   cases q:σ[j]? with
   | none=>rw [q] at e2; simp at e2
   | some z=>rw [q] at e2; simpa using e2
  obtain ⟨m,hn,hl⟩:=I3.loc
  obtain ⟨u,r,l⟩:=hl j y v eN e2' (.inr (.inl hk))
  refine ⟨u,r,fun m'=>.inr ⟨hkin,c,hcl,?_⟩⟩
  rcases l with ⟨z,_⟩ | ⟨_,c',hc',hce⟩
  ·rw [hk] at z; cases z
  ·have e:=F.sub _ _ hcl
   rw [hc'] at e; cases e
   obtain ⟨oo,q1,q2⟩:=hce
   exact ⟨oo,kk _ _ q1,q2⟩
 have I4:Inv (compCx X (ts ++ fr) scope cl s3.heap.objs.size s3 H3 fp) [] (List.replicate ts.length none ++ freeV σ js) H3 { s3 with heap:=h1,toks:=s3.toks + ([]:List (Str×Value)).length }:=by
  refine ⟨ok,rfl,I3.bare,Un.kept k4,⟨_,hns,fun i y v e1 e2 e3=>?_⟩,fun y c e=>?_,I3.fresh,fun y c e=>I3.freeC y c (F.sub _ _ e),fun p hp=>absurd (show p∈([]:List (Addr×Obj)) from hp) (by simp),I3.hok.kept k4,?_⟩
  ·by_cases hlt:i < ts.length
   ·rw [List.getElem?_append_left (by simpa using hlt),List.getElem?_replicate,if_pos hlt] at e2
    cases e2
   ·have e1:(ts ++ fr)[i]?=some y:=e1
    rw [List.getElem?_append_right (by omega)] at e1
    rw [List.getElem?_append_right (by simp; omega),List.length_replicate] at e2
    obtain ⟨u,r,l⟩:=frV h1 k4 _ y v e1 e2
    exact ⟨u,r,l _⟩
  ·obtain ⟨v,oo,q1,q2⟩:=I3.cell y c (F.sub _ _ e)
   exact ⟨v,oo,k4 _ _ q1,q2⟩
  ·show _=(ts ++ fr).length
   rw [List.length_append,List.length_append,List.length_replicate]
   unfold freeV
   rw [List.length_map,F.len]
 have stat:∀ {H':Hp},(∀ b∈fp,H' b=none)→∀ b∈fp,FpOk (compCx X (ts ++ fr) scope cl s3.heap.objs.size s3 H3 fp) [] H' b:=fun hn b hb=>by
  obtain ⟨o,ho,_⟩:=T.obj _ _ st2 b hb
  exact ⟨hn b hb,(ok.exf b hb).1,ok.exfs b hb,.inl hb,(ok.exf b hb).2,fun p hp=>absurd (show p∈([]:List (Addr×Obj)) from hp) (by simp)⟩
 have loop:∀ s4:Shared,s4={ s3 with heap:=h1,toks:=s3.toks + ([]:List (Str×Value)).length } →
   codeAny (model X.prog X.w) X.A (.compLoop (.ListComp elt [⟨tg,iter,ifs,0⟩] scope pos) 0 (.ref it) (.ref D) (compEnvC scope cl s3.heap.objs.size X.env)) (compPost (model X.prog X.w) X.A X.xe use RQ (.ref D) s3.heap.objs.size) s4:=by
  intro s4 e4
  rw [← e4] at I4
  have st4:tn 0 s4.heap:=T.keep _ _ _ st2 fun b _ o e=>by rw [e4]; exact k4 b o (k3 b o e)
  refine comp_turns (fun n s'=>∃ i σ' H',Inv (compCx X (ts ++ fr) scope cl s3.heap.objs.size s3 H3 fp) [] σ' H' s'∧tn i s'.heap∧(∀ b∈fp,H' b=none)∧W i n σ' H') m0 ⟨0,_,H3,I4,st4,fun b hb=>(f3 b hb).1,w0⟩ ?_
  rintro n s5 ⟨i,σ5,H5,I5,st5,fr5,w5⟩
  rcases turn i n σ5 H5 w5 with ⟨stop,q⟩ | ⟨go,step⟩
  ·refine thn (T.done (compCx X (ts ++ fr) scope cl s3.heap.objs.size s3 H3 fp) rfl rfl rfl hc i [] s5 σ5 H5 _ I5 (stat fr5) st5 stop) fun r s6 ⟨hr,I6⟩=>?_
   subst hr
   obtain ⟨m,hn,_⟩:=id I6.loc
   refine hR D s3.heap.objs.size H5 s6 m hn I6.free (Nat.ne_of_gt I3.lt) I3.sz (fun y c e z=>?_) (fun p hp z=>?_) (I3.nofs (Nat.le_refl _)) (fun h' kb=>?_) q
   ·obtain ⟨v,oo,q1,q2⟩:=I3.cell y c e
    exact absurd (Heap.lt_size q1) (by rw [z]; exact Nat.lt_irrefl _)
   ·exact absurd (Heap.lt_size (I3.pin p hp).1) (by rw [z]; exact Nat.lt_irrefl _)
   ·refine I3.call' (s':={ s6 with heap:=h' }) (ch:=fp) I6.os ((show Un (frs X.stack) fp H3 H5 s3.heap s6.heap from I6.base).but hC3 kb) (I6.hok.but I6.free kb) I6.bare (fun b hb=>?_)
    obtain ⟨_,z1,_,z3,z4,z5⟩:=f3 b hb
    exact ⟨z3,z1,z4,z5⟩
  ·refine thn (T.item (compCx X (ts ++ fr) scope cl s3.heap.objs.size s3 H3 fp) rfl rfl rfl hc i [] s5 σ5 H5 _ I5 (stat fr5) st5 go) fun r s6 ⟨u,hr,h6⟩=>?_
   subst hr
   refine thn h6 fun _ s7 ⟨v,H7,I7,r7,y7,st7,fr7⟩=>?_
   have I7':=I7.pinned (stat fr7) (T.obj _ _ st7)
   have back:∀ {s9:Shared} {σ9:St} {H9:Hp} {n':Nat},Inv (compCx X (ts ++ fr) scope cl s3.heap.objs.size s3 H3 fp) ([] ++ pinsAt fp s7.heap) σ9 H9 s9→W (i + 1) n' σ9 H9→∃ i σ' H',Inv (compCx X (ts ++ fr) scope cl s3.heap.objs.size s3 H3 fp) [] σ' H' s9∧tn i s9.heap∧(∀ b∈fp,H' b=none)∧W i n' σ' H':=fun {s9 σ9 H9 n'} I9 w9=>by
    refine ⟨i + 1,σ9,H9,I9.unpinned (pins:=[]),T.keep _ _ _ st7 fun b hb oo ee=>(I9.pin (b,oo) (List.mem_append_right _ (List.mem_append_right _ (mem_pinsAt hb ee)))).1,fun b hb=>?_,w9⟩
    obtain ⟨oo,ee,_⟩:=T.obj _ _ st7 b hb
    exact (I9.pin (b,oo) (List.mem_append_right _ (List.mem_append_right _ (mem_pinsAt hb ee)))).2.1
   refine wpAny_mono (hg s3.heap.objs.size s3 H3 fp _ s7 σ5 H7 v u _ I7' r7 (step v H7 y7)) (fun _ s8 ⟨σ8,H8,I8,q8⟩=>?_) (fun _ _ z=>z.elim)
   refine wpAny_mono (hts s3.heap.objs.size s3 H3 fp _ s8 σ8 H8 _ I8 q8) (fun b s9 ⟨H9,I9,q9⟩=>?_) (fun _ _ z=>z.elim)
   cases b with
   | false =>
    rw [if_neg Bool.false_ne_true] at q9 ⊢
    obtain ⟨m',lm,w9⟩:=q9
    exact ⟨m',lm,back I9 w9⟩
   | true =>
    rw [if_pos rfl] at q9 ⊢
    refine wpAny_mono (helt s3.heap.objs.size s3 H3 fp _ s9 _ H9 _ I9 q9) (fun yv s10 ⟨y,H10,I10,r10,ys,e10,l10,m',lm,w10⟩=>?_) (fun _ _ z=>z.elim)
    have mt:=mt_append (X:=compCx X (ts ++ fr) scope cl s3.heap.objs.size s3 H3 fp) _ s10 _ H10 (.ref D) [y] (.ref D) [yv] (fun _ H'=>H'=upd H10 D (.lst (ys ++ [y]))) I10 rfl (.cons r10 .nil) ⟨D,ys,y,rfl,rfl,e10,l10,rfl⟩
    refine wpAny_mono mt (fun _ s11 ⟨_,H11,I11,_,e11⟩=>?_) (fun _ _ z=>z.elim)
    subst e11
    exact ⟨m',lm,back I11 w10⟩
 exact codeAny_compStart_list (loop _ rfl) (T.self _ 0 _ _ _ (T.keep _ _ _ st2 fun b _ o e=>k4 b o (k3 b o e)) (loop _ rfl))
theorem pe_compG {elt iter tg:Expr} {ifs:List Expr} {pos:Pos} {scope:Scope} {cl:List (Str×Addr)} {ts fr:List Str} {js:List Nat} {wi:TI} {g:TG} {tt:TT} {te:TE}
  (hi:PI X tg iter wi) (hg:∀ C s H ex,PG (compCx X (ts ++ fr) scope cl C s H ex) tg g) (hts:∀ C s H ex,PIfs (compCx X (ts ++ fr) scope cl C s H ex) ifs tt) (helt:∀ C s H ex,PE (compCx X (ts ++ fr) scope cl C s H ex) elt te)
  (F:FreeOk X scope cl fr js) (hc:X.calm=true) (hs:∀ v,foldedSetIterable iter X.env v=pure v):PE X (.ListComp elt [⟨tg,iter,ifs,0⟩] scope pos) (tCompG wi g tt te ts.length js):=by
 intro pins s σ H Q I h
 rw [eval_ListComp]
 refine comp_block hi hg hts helt F hc hs I h _ rfl _ fun D C H5 s6 m hn _ _ _ _ _ _ iv q=>⟨m,hn,fun h' hs'=>⟨.ref D,H5,iv h' fun b u hb e=>hs'.extBut b u hb e,rfl,q⟩⟩
theorem ps_compA {elt iter tg:Expr} {ifs:List Expr} {pos:Pos} {scope:Scope} {cl:List (Str×Addr)} {ts fr:List Str} {js:List Nat} {wi:TI} {g:TG} {tt:TT} {te:TE} {i:Nat} {y:Str} {py spos:Pos}
  (hN:X.N.Nodup) (hiN:X.N[i]?=some y) (hy:X.env.scope.names.lookup y=some .local)
  (hi:PI X tg iter wi) (hg:∀ C s H ex,PG (compCx X (ts ++ fr) scope cl C s H ex) tg g) (hts:∀ C s H ex,PIfs (compCx X (ts ++ fr) scope cl C s H ex) ifs tt) (helt:∀ C s H ex,PE (compCx X (ts ++ fr) scope cl C s H ex) elt te)
  (F:FreeOk X scope cl fr js) (hc:X.calm=true) (hs:∀ v,foldedSetIterable iter X.env v=pure v) (hsw:swapsWith (.ListComp elt [⟨tg,iter,ifs,0⟩] scope pos) (some (.Name y py)) spos.line X.env=pure true) :
  PS X (.Assign [.Name y py] (.ListComp elt [⟨tg,iter,ifs,0⟩] scope pos) spos) (tAsg (tCompG wi g tt te ts.length js) (gName i)):=by
 intro pins s σ H D I h
 rw [exec_Assign_Name_used _ _ _ _ hsw]
 refine wpAny_bind (wpAny_standAt (wpAny_bind ?_))
 show wpAny _ X.A (do let _ ← comprehension (.ListComp elt [⟨tg,iter,ifs,0⟩] scope pos) scope X.env _ (newList []) false (eval iter X.env) (some (assign (.Name y py) X.env))) _ _ s
 refine wpAny_bind (thn (comp_block (RQ:=fun _ s'=>∃ σ' H',Inv X pins σ' H' s'∧D.nx σ' H') (QE:=fun v H1=>gName i v σ H1 D.nx) hi hg hts helt F hc hs I h _ rfl _ ?_) fun _ s' q=>wpAny_pure (wpAny_pure q))
 intro L C H5 s6 m hn hf hL hsz hcl hpn hfs iv q
 obtain ⟨o,es,ep,ho,hd,r⟩:=id hn
 have I6:Inv X pins σ H5 s6:=iv s6.heap fun b u _ e=>e
 have I6p:Inv X (pins ++ [(C,o)]) σ H5 s6:=I6.pins_of fun p hp=>by
  rcases List.mem_append.mp hp with z | z
  ·exact I6.pin p (List.mem_append_right _ z)
  ·have z:p=(C,o):=by simpa using z
   subst z
   exact ⟨ho,hf,hL,hfs,fun v z=>by rw [hd] at z; cases z⟩
 show wpAny _ X.A (assign (.Name y py) X.env (.ref L)) _ _ _
 refine wpAny_assign_Name (store_ok I6p hN hiN (.inl hy) (v:=.ref L) rfl (fun s7 I7=>?_) (.inr hy))
 have h7:s7.heap.get? C=some o:=(I7.pin (C,o) (List.mem_append_right _ (List.mem_append_right _ (List.mem_singleton.mpr rfl)))).1
 refine ⟨m,⟨o,es,ep,h7,hd,r⟩,fun h' hs'=>⟨_,H5,?_,q⟩⟩
 exact I7.unpinned.turned (t':=s7.toks) (fun b u hb e=>hs'.extBut b u hb e) hf hL (.inr hsz) hcl hpn
end
end L2
namespace L3
open PySem L2
def compG (g:UG) (ut:UT) (u:UE):List D→List Sl→(List D→Prop)→Prop
 | [],_,k=>k []
 | d :: ds,ρ,k=>g d ρ fun ρ1=>ut ρ1 fun b=>if b=true then u ρ1 fun y=>compG g ut u ds ρ1 fun ys=>k (y :: ys) else compG g ut u ds ρ1 k
def utTrue:UT:=fun _ k=>k true
def uCompG (w:UL) (g:UG) (ut:UT) (u:UE) (nt:Nat) (js:List Nat):UL:=fun ρ k=>w ρ fun ds=>ds.length≤sizeLine∧compG g ut u ds (List.replicate nt .no ++ js.map (frS ρ)) k
section
variable {K:PySem.W.Frag} {X:Cx} {e:Expr} {es:List Expr} {u:UE} {w:UL} {pos p:Pos}
theorem frS_cases {ρ:List Sl} (j:Nat):frS ρ j=.no∨(∃ d,frS ρ j=.val d∧ρ[j]?=some (.val d))∨(frS ρ j=.bag∧ρ[j]?=some .bag):=by
 unfold frS
 split
 ·rename_i d hj; exact .inr (.inl ⟨d,rfl,hj⟩)
 ·rename_i hj; exact .inr (.inr ⟨rfl,hj⟩)
 ·exact .inl rfl
theorem Ev.within {R:Hp} {W:Addr→Prop} {B H:Hp} {σ:St} {ρ:List Sl} (e:Ev K R W B H σ ρ) (nt:Nat) {js:List Nat} (hnd:js.Nodup) :
  Ev K H (fun a=>∃ j,j∈js∧σ[j]?=some (some (.ref a))∧ρ[j]?=some .bag) B H (List.replicate nt none ++ freeV σ js) (List.replicate nt .no ++ js.map (frS ρ)):=by
 have bg:∀ (a:Addr) (j:Nat),σ[j]?=some (some (V.ref a))→ρ[j]?=some Sl.bag→B a=none∧Bag H a:=fun a j z1 z2=>by
  obtain ⟨c,c1,_,c3,c4⟩:=e.bagAt z2
  rw [z1] at c1; cases c1; exact ⟨c3,c4⟩
 refine ⟨⟨fun _ _ z _=>z,e.bh,fun a ⟨j,_,z1,z2⟩=>(bg a j z1 z2).1,fun a ⟨j,_,z1,z2⟩=>(bg a j z1 z2).2,fun a ⟨j,_,z1,z2⟩=>?_⟩,?_,fun n kk hk=>?_,fun n m a m1 m2=>?_⟩
 ·obtain ⟨x,y,q,_⟩:=(bg a j z1 z2).2
  rw [q]; simp
 ·unfold freeV; simp
 ·by_cases hlt:n < nt
  ·rw [List.getElem?_append_left (by simpa using hlt),List.getElem?_replicate,if_pos hlt] at hk
   cases hk; trivial
  ·rw [List.getElem?_append_right (by simp; omega),List.length_replicate,List.getElem?_map] at hk
   cases qj:js[n - nt]? with
   | none=>rw [qj] at hk; cases hk
   | some j =>
    rw [qj] at hk
    have hk:=Option.some.inj hk
    have eo:((List.replicate nt none ++ freeV σ js)[n]?).join=(σ[j]?).join:=by
     rw [List.getElem?_append_right (by simp; omega),List.length_replicate]
     unfold freeV
     rw [List.getElem?_map,qj]
     rfl
    rw [eo,← hk]
    rcases frS_cases (ρ:=ρ) j with z | ⟨dd,z,hj⟩ | ⟨z,hj⟩ <;> rw [z]
    ·trivial
    ·obtain ⟨v,v1,v2⟩:=e.ok j _ hj
     exact ⟨v,v1,v2⟩
    ·obtain ⟨c,c1,_,c3,c4⟩:=e.ok j _ hj
     exact ⟨c,c1,.inl ⟨j,List.mem_of_getElem? qj,join_some c1,hj⟩,c3,c4⟩
 ·have back:∀ n,MutAt (List.replicate nt none ++ freeV σ js) (List.replicate nt .no ++ js.map (frS ρ)) n a→∃ j,nt≤n∧js[n - nt]?=some j∧MutAt σ ρ j a:=fun n mm=>by
   obtain ⟨m1,m2⟩:=mm
   by_cases hlt:n < nt
   ·rw [List.getElem?_append_left (by simpa using hlt),List.getElem?_replicate,if_pos hlt] at m1
    cases m1
   ·rw [List.getElem?_append_right (by simp; omega),List.length_replicate] at m1
    obtain ⟨j,qj,oj⟩:=freeV_get m1
    rw [List.getElem?_append_right (by simp; omega),List.length_replicate,List.getElem?_map,qj] at m2
    refine ⟨j,by omega,qj,join_some oj.symm,.inl ?_⟩
    rcases frS_cases (ρ:=ρ) j with z | ⟨dd,z,hj⟩ | ⟨z,hj⟩
    ·rw [Option.map_some,z] at m2; rcases m2 with q | ⟨_,q⟩ <;> cases q
    ·rw [Option.map_some,z] at m2; rcases m2 with q | ⟨_,q⟩ <;> cases q
    ·exact hj
  obtain ⟨j,l1,qj,mj⟩:=back n m1
  obtain ⟨j',l2,qj',mj'⟩:=back m m2
  have:=e.sep j j' a mj mj'
  subst this
  have l3:n - nt < js.length:=by
   by_cases z:n - nt < js.length
   ·exact z
   ·rw [List.getElem?_eq_none (by omega)] at qj; cases qj
  have:=(List.getElem?_inj l3 hnd).mp (qj.trans qj'.symm)
  omega
theorem mixB_at {R:Hp} {W:Addr→Prop} {B:Hp} {a:Addr} {vs:List V} (h:R a=some (.lst vs)) (nw:¬ W a):mixB R W B a=some (.lst vs):=by
 unfold mixB; rw [h]; dsimp only; rw [if_neg nw]
theorem mixB_W {R:Hp} {W:Addr→Prop} {B:Hp} {a:Addr} (h:W a):mixB R W B a=B a:=by
 unfold mixB
 split
 ·rw [if_pos h]
 ·rfl
theorem mixB_no {R:Hp} {W:Addr→Prop} {B:Hp} {a:Addr} (h:∀ vs,R a≠some (.lst vs)):mixB R W B a=B a:=by
 unfold mixB
 split
 ·rename_i vs e; exact absurd e (h vs)
 ·rfl
theorem mixB_out {R:Hp} {W:Addr→Prop} {B:Hp} {a:Addr} {o:HO} (h:mixB R W B a=some o):B a=some o∨(¬ W a∧R a=some o∧∃ vs,o=.lst vs):=by
 unfold mixB at h
 split at h
 ·rename_i vs e
  split at h
  ·exact .inl h
  ·rename_i z; cases h; exact .inr ⟨z,e,vs,rfl⟩
 ·exact .inl h
theorem mixB_in {R:Hp} {W:Addr→Prop} {B H:Hp} (w:Wd R W B H):Same B (mixB R W B):=fun a o h=>by
 by_cases z:W a
 ·rw [mixB_W z]; exact h
 ·by_cases q:∃ vs,R a=some (.lst vs)
  ·obtain ⟨vs,q⟩:=q
   have h1:=w.fr a _ q z
   rw [w.bh a o h] at h1
   cases h1
   exact mixB_at q z
  ·rw [mixB_no fun vs e=>q ⟨vs,e⟩]; exact h
theorem mixB_now {R:Hp} {W:Addr→Prop} {B H:Hp} (w:Wd R W B H):Same (mixB R W B) H:=fun a o h=>by
 rcases mixB_out h with h | ⟨h1,h2,_⟩
 ·exact w.bh a o h
 ·exact w.fr a o h2 h1
theorem mixB_re {R:Hp} {W W':Addr→Prop} {B B' H:Hp} (w:Wd R W B H) (s:Same B B') (sB:Same B' H) (hw:∀ a,W' a→R a≠none→W a) (hb:∀ a,W' a→B' a=none):Same (mixB R W B) (mixB H W' B'):=fun a o h=>by
 have hH:=mixB_now w a o h
 rcases mixB_out h with h | ⟨h1,h2,vs,rfl⟩
 ·have h':=s a o h
  by_cases z:W' a
  ·rw [hb a z] at h'; cases h'
  ·by_cases q:∃ vs,H a=some (.lst vs)
   ·obtain ⟨vs,q⟩:=q
    rw [hH] at q; cases q
    exact mixB_at hH z
   ·rw [mixB_no fun vs e=>q ⟨vs,e⟩]; exact h'
 ·exact mixB_at hH fun z=>h1 (hw a z (by rw [h2]; simp))
theorem Ev.rebase {R:Hp} {W:Addr→Prop} {B H:Hp} {σ:St} {ρ:List Sl} (e:Ev K R W B H σ ρ) (hm:∀ j a,MutAt σ ρ j a→W a):Ev K H W B H σ ρ:=by
 refine ⟨⟨fun _ _ z _=>z,e.bh,e.wb,e.wh,fun a z=>by obtain ⟨x',y',q',_⟩:=e.wh a z; rw [q']; simp⟩,e.len,fun j kk hj=>?_,e.sep⟩
 have:=e.ok j kk hj
 cases kk with
 | no=>trivial
 | new d =>
  obtain ⟨v,h1,h2⟩:=this
  exact ⟨v,h1,h2.mono (mixB_re e.toWd (Same.refl _) e.bh (fun _ z _=>z) e.wb)⟩
 | pin v d=>exact ⟨this.1,this.2.mono (mixB_re e.toWd (Same.refl _) e.bh (fun _ z _=>z) e.wb)⟩
 | val d=>exact this
 | own ds =>
  obtain ⟨a,q1,q2,_⟩:=this
  exact absurd q2 (e.wr a (hm j a ⟨join_some q1,.inr ⟨ds,hj⟩⟩))
 | bag =>
  obtain ⟨c,c1,c2,c3,c4⟩:=this
  exact ⟨c,c1,.inl (hm j c ⟨join_some c1,.inl hj⟩),c3,c4⟩
theorem Ev.unbase {R:Hp} {W:Addr→Prop} {B H B' H':Hp} {σ:St} {ρ:List Sl} (e:Ev K R W B H σ ρ) (hm:∀ j a,MutAt σ ρ j a→W a) (e':Ev K H W B' H' σ ρ) (g:Grow H B B'):Ev K R W B' H' σ ρ∧Grow R B B':=by
 refine ⟨⟨⟨fun a o z nw=>e'.fr a o (e.fr a o z nw) nw,e'.bh,e'.wb,e'.wh,e.wr⟩,e'.len,fun j kk hj=>?_,e'.sep⟩,⟨g.s,fun a o z=>?_⟩⟩
 ·have:=e'.ok j kk hj
  cases kk with
  | no=>trivial
  | new d =>
   obtain ⟨v,h1,h2⟩:=e.ok j _ hj
   exact ⟨v,h1,h2.mono (mixB_mono g.s)⟩
  | pin v d =>
   obtain ⟨h1,h2⟩:=e.ok j _ hj
   exact ⟨h1,h2.mono (mixB_mono g.s)⟩
  | val d=>exact this
  | own ds =>
   obtain ⟨a,q1,q2,_⟩:=e.ok j _ hj
   exact absurd q2 (e.wr a (hm j a ⟨join_some q1,.inr ⟨ds,hj⟩⟩))
  | bag =>
   obtain ⟨c,c1,c2,c3,c4⟩:=this
   exact ⟨c,c1,.inl (hm j c ⟨join_some c1,.inl hj⟩),c3,c4⟩
 ·rcases g.n a o z with q | q
  ·exact .inl q
  ·exact .inr (e.toWd.fresh q).1
theorem refCompG {wi:TI} {g:TG} {tt:TT} {te:TE} {ug:UG} {ut:UT} {nt:Nat} {js:List Nat} (h0:RefI K wi w) (hg:RefG K g ug) (ht:RefT K tt ut) (h1:RefE K te u) (hnd:js.Nodup):RefO K (tCompG wi g tt te nt js) (uCompG w ug ut u nt js):=by
 intro ρ k h R W B H σ Q e q
 refine h0 ρ _ h R W B H σ _ e fun ds J B1 H1 z1 e1 g1 it=>?_
 obtain ⟨hl,z1⟩:=z1
 intro D hD
 obtain ⟨f1,f2,f3⟩:=e1.toWd.fresh hD
 have nm1:∀ i,¬ MutAt σ ρ i D:=fun i m=>e1.notNew hD m rfl
 have ei:=e1.within nt hnd
 have hmi:∀ j a,MutAt (List.replicate nt none ++ freeV σ js) (List.replicate nt .no ++ js.map (frS ρ)) j a→∃ j,j∈js∧σ[j]?=some (some (V.ref a))∧ρ[j]?=some Sl.bag:=fun j a m=>by
  rcases m.2 with z | ⟨es,z⟩
  ·obtain ⟨c,c1,c2,_⟩:=ei.bagAt z
   rw [m.1] at c1; cases c1
   rcases c2 with c2 | c2
   ·exact c2
   ·obtain ⟨_,q2⟩:=ei.mutOk m
    exact absurd c2 q2
  ·obtain ⟨c,c1,c2,_⟩:=ei.ownC z
   rw [m.1] at c1; cases c1
   obtain ⟨_,q2⟩:=ei.mutOk m
   exact absurd c2 q2
 generalize hWW:(fun a=>∃ j,j∈js∧σ[j]?=some (some (V.ref a))∧ρ[j]?=some Sl.bag)=WW at ei
 have hmi:∀ j a,MutAt (List.replicate nt none ++ freeV σ js) (List.replicate nt .no ++ js.map (frS ρ)) j a→WW a:=fun j a m=>by rw [← hWW]; exact hmi j a m
 have hW:∀ a,WW a→∃ i:Nat,σ[i]?=some (some (.ref a))∧ρ[i]?=some .bag:=fun a z=>by
  rw [← hWW] at z
  obtain ⟨j,_,z⟩:=z
  exact ⟨j,z⟩
 have nWD:¬ WW D:=fun z=>by
  obtain ⟨i',y1,y2⟩:=hW D z
  exact nm1 i' ⟨y1,.inl y2⟩
 refine ⟨fun i m σi H'=>∃ B' ys es ρi,m=ds.length - i∧i≤ds.length∧Ev K H1 WW B' H' σi ρi∧Grow H1 B1 B'∧H' D=some (.lst ys)∧B' D=none∧(∀ j a,MutAt σi ρi j a→WW a)∧ys.length≤i∧Reps K B' ys es∧compG ug ut u (ds.drop i) ρi fun r=>k (es ++ r),
  ⟨ds.length,B1,[],[],_,by simp,Nat.zero_le _,ei.allocH hD _,Grow.refl _ _,upd_same,f3,hmi,Nat.le_refl _,.nil,by simpa using z1⟩,?_⟩
 rintro i m σi H2 ⟨B2,ys,es,ρi,rfl,hi,e2,g2,hy,hb,hnm,hyl,ry,z2⟩
 obtain ⟨t1,t2,t3⟩:=it H2 (g2.s.trans e2.bh) i
 by_cases hlt:i < ds.length
 ·refine .inr ⟨t1 hlt,fun x H' y=>?_⟩
  obtain ⟨rfl,d,hd,rx⟩:=t3 x H' hlt y
  have ed:ds.drop i=d :: ds.drop (i + 1):=by
   rw [List.drop_eq_getElem_cons hlt]
   rw [List.getElem?_eq_getElem hlt] at hd
   rw [Option.some.inj hd]
  rw [ed] at z2
  refine hg d ρi _ z2 H1 WW B2 H' σi x _ e2 (rx.mono g2.s) fun ρ3 σ3 z3 e3 mm=>?_
  have hnm3:∀ j a,MutAt σ3 ρ3 j a→WW a:=fun j a m=>hnm j a (mm j a m)
  have bD:∀ {B4:Hp},Grow H' B2 B4→B4 D=none:=fun {B4} g4=>by
   cases qd:B4 D with
   | none=>rfl
   | some o =>
    rcases g4.n D o qd with z | z
    ·rw [hb] at z; cases z
    ·rw [hy] at z; cases z
  refine ht ρ3 _ z3 H' WW B2 H' σ3 _ (e3.rebase hnm3) fun b B4 H4 z4 e4 g4=>?_
  have hD4:H4 D=some (.lst ys):=e4.fr D _ hy nWD
  cases b with
  | false =>
   rw [if_neg Bool.false_ne_true] at z4 ⊢
   obtain ⟨e5,g5⟩:=e3.unbase hnm3 e4 g4
   exact ⟨ds.length - (i + 1),by omega,B4,ys,es,ρ3,rfl,hlt,e5,g2.trans g5,hD4,bD g4,hnm3,by omega,ry.mono g4.s,z4⟩
  | true =>
   rw [if_pos rfl] at z4 ⊢
   refine h1 ρ3 _ z4 H' WW B4 H4 σ3 _ e4 fun y' v B5 H5 z5 e5 g5 s5=>?_
   have g45:=g4.trans g5
   have hD5:H5 D=some (.lst ys):=e5.fr D _ hy nWD
   obtain ⟨e6,g6⟩:=e3.unbase hnm3 e5 g45
   refine ⟨ys,hD5,by omega,ds.length - (i + 1),by omega,B5,ys ++ [v],es ++ [y'],ρ3,rfl,hlt,e6.scribble hD (bD g45) (fun j m=>nWD (hnm3 j D m)) _,g2.trans g6,upd_same,bD g45,hnm3,by rw [List.length_append,List.length_singleton]; omega,(ry.mono g45.s).append (.cons s5 .nil),?_⟩
   simpa [List.append_assoc] using z5
 ·have eq:i=ds.length:=by omega
  subst eq
  rw [List.drop_length] at z2
  obtain ⟨e4,g4⟩:=e1.after hW e2.toWd g2
  refine .inl ⟨t2 (Nat.le_refl _),q _ D ys B2 H2 (by simpa [compG] using z2) e4 (g1.trans g4) f1 hb hy ry nm1⟩
def PIfs3 (X:Cx) (ifs:List Expr) (ut:UT):Prop:=∃ t,PIfs X ifs t∧RefT X.K t ut
theorem ifs_nil:PIfs3 X [] utTrue:=⟨_,pifs_nil,fun ρ k h R W B H σ Q e q=>q true B H h e (Grow.refl _ _)⟩
theorem ifs_one {c:Expr} {ut:UT} (h:PT3 X c ut):PIfs3 X [c] ut:=by
 obtain ⟨_,h1,r1⟩:=h
 exact ⟨_,pifs_one h1,r1⟩
theorem joinE {elt:Expr} {α:Type} {Xs:α→Cx} (hK:∀ a,(Xs a).K=K) (h:∀ a,PE3 (Xs a) elt u):∃ t,(∀ a,PE (Xs a) elt t)∧RefE K t u:=by
 refine ⟨fun σ H Q=>∀ a,∃ t,PE (Xs a) elt t∧RefE K t u∧t σ H Q,fun a pins s σ H Q I q=>?_,fun ρ k q R W B H σ Q e z a=>?_⟩
 ·obtain ⟨t,ht,_,hq⟩:=q a
  exact ht pins s σ H Q I hq
 ·obtain ⟨t,ht,hr⟩:=h a
  rw [hK a] at hr
  exact ⟨t,ht,hr,hr ρ k q R W B H σ Q e z⟩
theorem joinI {ifs:List Expr} {ut:UT} {α:Type} {Xs:α→Cx} (hK:∀ a,(Xs a).K=K) (h:∀ a,PIfs3 (Xs a) ifs ut):∃ t,(∀ a,PIfs (Xs a) ifs t)∧RefT K t ut:=by
 refine ⟨fun σ H Q=>∀ a,∃ t,PIfs (Xs a) ifs t∧RefT K t ut∧t σ H Q,fun a pins s σ H Q I q=>?_,fun ρ k q R W B H σ Q e z a=>?_⟩
 ·obtain ⟨t,ht,_,hq⟩:=q a
  exact ht pins s σ H Q I hq
 ·obtain ⟨t,ht,hr⟩:=h a
  rw [hK a] at hr
  exact ⟨t,ht,hr,hr ρ k q R W B H σ Q e z⟩
theorem joinG {tg:Expr} {ug:UG} {α:Type} {Xs:α→Cx} (hK:∀ a,(Xs a).K=K) (h:∀ a,PG3 (Xs a) tg ug):∃ t,(∀ a,PG (Xs a) tg t)∧RefG K t ug:=by
 refine ⟨fun v σ H Q=>∀ a,∃ t,PG (Xs a) tg t∧RefG K t ug∧t v σ H Q,fun a pins s σ H v x Q I r q=>?_,fun d ρ k q R W B H σ v Q e r z a=>?_⟩
 ·obtain ⟨t,ht,_,hq⟩:=q a
  exact ht pins s σ H v x Q I r hq
 ·obtain ⟨t,ht,hr⟩:=h a
  rw [hK a] at hr
  exact ⟨t,ht,hr,hr d ρ k q R W B H σ v Q e r z⟩
variable {elt iter tg:Expr} {ifs:List Expr} {scope:Scope} {cl:List (Str×Addr)} {ts fr:List Str} {js:List Nat} {ug:UG} {ut:UT}
theorem o_compG (hi:PI3 X tg iter w) (hg:∀ C s H ex,PG3 (compCx X (ts ++ fr) scope cl C s H ex) tg ug) (hts:∀ C s H ex,PIfs3 (compCx X (ts ++ fr) scope cl C s H ex) ifs ut) (helt:∀ C s H ex,PE3 (compCx X (ts ++ fr) scope cl C s H ex) elt u)
  (F:FreeOk X scope cl fr js) (hjn:js.Nodup:=by decide) (hc:X.calm=true:=by rfl) (hs:∀ v,foldedSetIterable iter X.env v=pure v:=by intro _; rfl):PO3 X (.ListComp elt [⟨tg,iter,ifs,0⟩] scope pos) (uCompG w ug ut u ts.length js):=by
 obtain ⟨_,h0,r0⟩:=hi
 obtain ⟨tg',hg',rg⟩:=joinG (K:=X.K) (Xs:=fun a:Addr×Shared×Hp×List Addr=>compCx X (ts ++ fr) scope cl a.1 a.2.1 a.2.2.1 a.2.2.2) (fun _=>rfl) fun a=>hg a.1 a.2.1 a.2.2.1 a.2.2.2
 obtain ⟨tt,ht',rt⟩:=joinI (K:=X.K) (Xs:=fun a:Addr×Shared×Hp×List Addr=>compCx X (ts ++ fr) scope cl a.1 a.2.1 a.2.2.1 a.2.2.2) (fun _=>rfl) fun a=>hts a.1 a.2.1 a.2.2.1 a.2.2.2
 obtain ⟨te,he',re⟩:=joinE (K:=X.K) (Xs:=fun a:Addr×Shared×Hp×List Addr=>compCx X (ts ++ fr) scope cl a.1 a.2.1 a.2.2.1 a.2.2.2) (fun _=>rfl) fun a=>helt a.1 a.2.1 a.2.2.1 a.2.2.2
 exact ⟨_,pe_compG h0 (fun C s H ex=>hg' (C,s,H,ex)) (fun C s H ex=>ht' (C,s,H,ex)) (fun C s H ex=>he' (C,s,H,ex)) F hc hs,refCompG r0 rg rt re hjn⟩
theorem s_compA {i:Nat} {y:Str} {py spos:Pos} (hN:X.N.Nodup) (hiN:X.N[i]?=some y) (hy:X.env.scope.names.lookup y=some .local)
  (hi:PI3 X tg iter w) (hg:∀ C s H ex,PG3 (compCx X (ts ++ fr) scope cl C s H ex) tg ug) (hts:∀ C s H ex,PIfs3 (compCx X (ts ++ fr) scope cl C s H ex) ifs ut) (helt:∀ C s H ex,PE3 (compCx X (ts ++ fr) scope cl C s H ex) elt u)
  (F:FreeOk X scope cl fr js) (hjn:js.Nodup:=by decide) (hc:X.calm=true:=by rfl) (hs:∀ v,foldedSetIterable iter X.env v=pure v:=by intro _; rfl)
  (hsw:swapsWith (.ListComp elt [⟨tg,iter,ifs,0⟩] scope pos) (some (.Name y py)) spos.line X.env=pure true:=by rfl) :
  PS3 X (.Assign [.Name y py] (.ListComp elt [⟨tg,iter,ifs,0⟩] scope pos) spos) (uSetO i (uCompG w ug ut u ts.length js)):=by
 obtain ⟨_,h0,r0⟩:=hi
 obtain ⟨tg',hg',rg⟩:=joinG (K:=X.K) (Xs:=fun a:Addr×Shared×Hp×List Addr=>compCx X (ts ++ fr) scope cl a.1 a.2.1 a.2.2.1 a.2.2.2) (fun _=>rfl) fun a=>hg a.1 a.2.1 a.2.2.1 a.2.2.2
 obtain ⟨tt,ht',rt⟩:=joinI (K:=X.K) (Xs:=fun a:Addr×Shared×Hp×List Addr=>compCx X (ts ++ fr) scope cl a.1 a.2.1 a.2.2.1 a.2.2.2) (fun _=>rfl) fun a=>hts a.1 a.2.1 a.2.2.1 a.2.2.2
 obtain ⟨te,he',re⟩:=joinE (K:=X.K) (Xs:=fun a:Addr×Shared×Hp×List Addr=>compCx X (ts ++ fr) scope cl a.1 a.2.1 a.2.2.1 a.2.2.2) (fun _=>rfl) fun a=>helt a.1 a.2.1 a.2.2.1 a.2.2.2
 refine ⟨_,ps_compA hN hiN hy h0 (fun C s H ex=>hg' (C,s,H,ex)) (fun C s H ex=>ht' (C,s,H,ex)) (fun C s H ex=>he' (C,s,H,ex)) F hc hs hsw,fun U ρ h R W B H σ D e s=>?_⟩
 exact refCompG r0 rg rt re hjn ρ _ h R W B H σ _ e fun ds a vs B1 H1 z1 e1 g1 f1 f2 f3 f4 f5=>s.nx _ _ B1 H1 z1 (e1.setO i f1 f2 f3 f4 fun j _=>f5 j) g1
theorem s_thenFz {st:Stmt} {s:US} (i:Nat) (h:PS3 X st s):PS3 X st (fun U ρ=>s { U with nx:=fun ρ'=>∃ ds:List D,ρ'[i]?=some (.own ds)∧U.nx (ρ'.set i (.val (.lst ds))) } ρ):=by
 obtain ⟨_,h1,r1⟩:=h
 refine ⟨_,h1,fun U ρ h R W B H σ D e sm=>?_⟩
 refine r1 _ ρ h R W B H σ D e ⟨fun ρ' σ' B' H' z e' g=>?_,sm.bk,sm.ct,sm.rt⟩
 obtain ⟨ds,ho,z⟩:=z
 obtain ⟨B2,e2,g2⟩:=e'.fz ho
 exact sm.nx _ σ' B2 H' z e2 (g.trans g2)
end
end L3
namespace L3
open PySem L2
theorem forR_map {α:Type} {f:α→D} {s:US} {U:UEnds} {m:Nat} (I:List α→List Sl→Prop):∀ {rs done:List α} {ρ:List Sl},I done ρ →
  (∀ (pre:List α) (r:α) (rest:List α) ρ,done ++ rs=pre ++ r :: rest→I pre ρ→∀ N:List Sl→Prop,(∀ r',I (pre ++ [r]) r'→N r')→s { U with nx:=N,ct:=N,bk:=U.nx } (ρ.set m (.val (f r))))→(∀ ρ,I (done ++ rs) ρ→U.nx ρ)→forR (ugName m) s U (rs.map f) ρ
 | [],done,ρ,h0,_,h2=>h2 ρ (by rw [List.append_nil]; exact h0)
 | r :: rs,done,ρ,h0,h1,h2=>by
  refine h1 done r rs ρ rfl h0 _ fun r' hr=>?_
  have e:done ++ r :: rs=(done ++ [r]) ++ rs:=by simp
  rw [e] at h1 h2
  exact forR_map I hr h1 h2
theorem forR_rng0 {s:US} {U:UEnds} {m:Nat} (I:Nat→List Sl→Prop):∀ {n i:Nat} {ρ:List Sl},I i ρ→(∀ (j:Nat) ρ,i≤j→j < i + n→I j ρ→∀ N:List Sl→Prop,(∀ r,I (j + 1) r→N r)→s { U with nx:=N,ct:=N,bk:=U.nx } (ρ.set m (.val (.int j)))) →
  (∀ ρ,I (i + n) ρ→U.nx ρ)→forR (ugName m) s U ((List.range' i n).map fun j:Nat=>D.int j) ρ
 | 0,i,ρ,h0,_,h2=>h2 ρ h0
 | n + 1,i,ρ,h0,h1,h2=>by
  show forR (ugName m) s U (D.int i :: (List.range' (i + 1) n).map fun j:Nat=>D.int j) ρ
  refine h1 i ρ (Nat.le_refl _) (by omega) h0 _ fun r hr=>?_
  exact forR_rng0 I hr (fun j ρ hj hj2=>h1 j ρ (by omega) (by omega)) fun ρ h=>h2 ρ (by rw [show i + (n + 1)=i + 1 + n by omega]; exact h)
theorem forR_rng {s:US} {U:UEnds} {m n:Nat} {ρ:List Sl} (I:Nat→List Sl→Prop) (h0:I 0 ρ) (h1:∀ (j:Nat) ρ,j < n→I j ρ→∀ N:List Sl→Prop,(∀ r,I (j + 1) r→N r)→s { U with nx:=N,ct:=N,bk:=U.nx } (ρ.set m (.val (.int j))))
  (h2:∀ ρ,I n ρ→U.nx ρ):forR (ugName m) s U ((List.range n).map fun j:Nat=>D.int j) ρ:=by
 rw [List.range_eq_range']
 exact forR_rng0 I h0 (fun j ρ _ hj=>h1 j ρ (by omega)) fun ρ h=>h2 ρ (by rw [Nat.zero_add] at h; exact h)
theorem compG_map {α:Type} {f h:α→D} {u:UE} {fs:List Sl}:∀ {rs:List α} {v0:Sl} {k:List D→Prop},(∀ r∈rs,∀ k:D→Prop,k (h r)→u (.val (f r) :: fs) k)→k (rs.map h)→compG (ugName 0) utTrue u (rs.map f) (v0 :: fs) k
 | [],v0,k,_,hk=>hk
 | r :: rs,v0,k,hu,hk=>by
  show (if true=true then u (.val (f r) :: fs) fun y=>compG (ugName 0) utTrue u (rs.map f) (.val (f r) :: fs) fun ys=>k (y :: ys) else compG (ugName 0) utTrue u (rs.map f) (.val (f r) :: fs) k)
  rw [if_pos rfl]
  exact hu r List.mem_cons_self _ (compG_map (fun q hq=>hu q (List.mem_cons_of_mem _ hq)) hk)
theorem atI_map {α β:Type} {f:α→β} {rs:List α} {i:Int} {r:α} (h:atI rs i=some r):atI (rs.map f) i=some (f r):=by
 unfold atI at h ⊢
 rw [List.length_map]
 cases q:ixN rs.length i with
 | none=>rw [q] at h; cases h
 | some j =>
  rw [q] at h
  show (rs.map f)[j]?=_
  rw [List.getElem?_map,show rs[j]?=some r from h]
  rfl
theorem atI_ofNat {α:Type} {rs:List α} {i:Nat} (h:i < rs.length):atI rs (i:Int)=some rs[i]:=by
 unfold atI ixN
 rw [if_pos (by omega),if_pos (by omega)]
 show rs[((i:Int)).toNat]?=_
 rw [show ((i:Int)).toNat=i by omega,List.getElem?_eq_getElem h]
theorem cutL_drop {α:Type} {xs:List α} {i:Int} (h0:0≤i) (h1:i≤xs.length):cutL xs (some i) none=xs.drop i.toNat:=by
 unfold cutL
 have e1:HT.sIx xs.length 0 (some i)=i.toNat:=by
  unfold HT.sIx
  first | omega | (simp only []; split <;> omega) | (split <;> omega) | (dsimp only; split <;> (try split) <;> omega)
 have e2:HT.sIx xs.length xs.length none=xs.length:=rfl
 rw [e1,e2]
 exact List.take_of_length_le (by rw [List.length_drop]; omega)
theorem cutL_take {α:Type} {xs:List α} {i:Int} (h0:0≤i) (h1:i≤xs.length):cutL xs none (some i)=xs.take i.toNat:=by
 unfold cutL
 have e1:HT.sIx xs.length xs.length (some i)=i.toNat:=by
  unfold HT.sIx
  first | omega | (simp only []; split <;> omega) | (split <;> omega) | (dsimp only; split <;> (try split) <;> omega)
 have e2:HT.sIx xs.length 0 none=0:=rfl
 rw [e1,e2]
 rfl
end L3
namespace L3
open PySem L2
section
variable {K:PySem.W.Frag} {R:Hp} {W:Addr→Prop} {B B' H H':Hp} {σ:St} {ρ:List Sl}
end
section
variable {X:Cx} {F:FS} {pos p:Pos} {a0:Expr}
end
section
variable {X:Cx} {e:Expr} {u:UE} {pos p:Pos}
def uAll (u:UE):UE:=fun ρ k=>u ρ fun x=>∃ ds,x=.lst ds∧(∀ d∈ds,d=.bl true)∧k (.bl true)
theorem e_all (ha:PE3 X e u) (hc:X.calm=true) (hg:Gl X "all") (hm:X.mg "all" = none) (hs:starEach [e] X.env=(false,eval e X.env) :: starEach [] X.env:=by rfl):PE3 X (.Call (.Name "all" p) [e] [] pos) (uAll u):=by
 obtain ⟨_,h1,r1⟩:=ha
 refine ⟨_,pe_callB (call_all hc) hg hm (by decide +kernel) (pa_cons h1 pa_nil hs) (by decide) (by decide) hs,refCB1 (f:=fun x k=>∃ ds,x=.lst ds∧(∀ d∈ds,d=.bl true)∧k (.bl true)) r1 fun x k h R W B H σ ρ v Q e rx q=>?_⟩
 obtain ⟨ds,rfl,hd,hk⟩:=h
 obtain ⟨a,vs,rfl,ha,rs⟩:=rx.lstV
 refine ⟨a,vs,rfl,e.bh _ _ ha,fun y hy=>?_,q _ _ B H hk e (Grow.refl _ _) (.bl _)⟩
 obtain ⟨j,hj⟩:=List.getElem?_of_mem hy
 obtain ⟨d,ed,rd⟩:=rs.getV hj
 have:=hd d (List.mem_of_getElem? ed)
 subst this
 exact rd.blV
end
end L3
namespace L3
open PySem L2
section
variable {X:Cx} {e:Expr} {u:UE} {pos p:Pos}
end
section
variable {K:PySem.W.Frag}
end
end L3
namespace Cut
open PySem L2 L3
open PySem.Builtin.Int (intBits)
def dR (r:Int×Int):D:=.tup [.int r.1,.int r.2]
def dP (p:Int×Int×Int):D:=.tup [.int p.1,.int p.2.1,.int p.2.2]
def gsg (t b:Int):Int:=if b < 0 then -((Int.gcd t b:Nat):Int) else ((Int.gcd t b:Nat):Int)
def nrat (t b:Int):Int×Int:=(t.fdiv (gsg t b),b.fdiv (gsg t b))
theorem nrat_spec {t b:Int} (hb:b≠0):Low (nrat t b).1 (nrat t b).2∧(nrat t b).1 * b=t * (nrat t b).2∧(nrat t b).1.natAbs≤t.natAbs∧(nrat t b).2.natAbs≤b.natAbs:=by
 unfold nrat gsg
 split
 ·exact low_of hb rfl (.inr ⟨rfl,by assumption⟩)
 ·exact low_of hb rfl (.inl ⟨rfl,by omega⟩)
def g3 (a b n:Int):Int:=((Int.gcd (Int.gcd a n:Nat) b:Nat):Int)
def gsp (a b n:Int):Int:=if n < 0 then -g3 a b n else g3 a b n
def npt (a b n:Int):Int×Int×Int:=(a.fdiv (gsp a b n),b.fdiv (gsp a b n),n.fdiv (gsp a b n))
theorem npt_spec {a b n:Int} (hn:n≠0):Pt (npt a b n).1 (npt a b n).2.1 (npt a b n).2.2∧(npt a b n).1 * n=a * (npt a b n).2.2∧(npt a b n).2.1 * n=b * (npt a b n).2.2∧(npt a b n).1.natAbs≤a.natAbs∧(npt a b n).2.1.natAbs≤b.natAbs∧(npt a b n).2.2.natAbs≤n.natAbs:=by
 unfold npt gsp
 split
 ·exact pt_of hn rfl (.inr ⟨rfl,by assumption⟩)
 ·exact pt_of hn rfl (.inl ⟨rfl,by omega⟩)
theorem g3_xy (a b n:Int):((Int.gcd (Int.gcd a b:Nat) n:Nat):Int)=g3 a b n:=by
 unfold g3
 rw [gcd3]
 rfl
theorem g3_na (a b n:Int):((Int.gcd (Int.gcd n a:Nat) b:Nat):Int)=g3 a b n:=by
 unfold g3
 rw [gcd3n]
theorem g3_pos {a b n:Int} (hn:n≠0):0 < g3 a b n:=gcd3_pos hn
theorem g3_bits {a b n:Int} {k:Nat} (hn:n≠0) (h:intBits n≤k):intBits (g3 a b n)≤k:=gcd3_bits hn h
theorem gcd_bits {a b:Int} {k:Nat} (hb:b≠0) (h:intBits b≤k):intBits ((Int.gcd a b:Nat):Int)≤k:=by
 refine intBits_le_of_natAbs ?_ h
 exact Nat.le_of_dvd (by omega) (by simpa using Int.natAbs_dvd_natAbs.mpr (Int.gcd_dvd_right a b))
theorem bits30 {x:Int} (h0 : -(10 ^ 30) < x) (h1:x < 10 ^ 30):intBits x≤100:=by
 refine intBits_le_iff.mpr ?_
 have e30:(10:Int) ^ 30=1000000000000000000000000000000:=rfl
 have e100:(2:Nat) ^ 100=1267650600228229401496703205376:=rfl
 rw [e30] at h0 h1
 rw [e100]
 omega
theorem fdiv_of {a s x:Int} (h:a=s * x) (s0:s≠0):a.fdiv s=x:=by rw [h]; exact Int.mul_fdiv_cancel_left x s0
theorem gcd_fac {a b s x y:Int} (h1:a=s * x) (h2:b=s * y):Int.gcd a b=s.natAbs * Int.gcd x y:=by rw [h1,h2,Int.gcd_mul_left]
theorem dP_inj {p q:Int×Int×Int} (h:dP p=dP q):p=q:=by
 obtain ⟨a,b,c⟩:=p
 obtain ⟨d,e,f⟩:=q
 unfold dP at h
 cases h
 rfl
theorem nrat_cross {a b c d:Int} (hb:b≠0) (hd:d≠0) (h:a * d=c * b):nrat a b=nrat c d:=by
 obtain ⟨l1,e1,_⟩:=nrat_spec (t:=a) hb
 obtain ⟨l2,e2,_⟩:=nrat_spec (t:=c) hd
 have e:(nrat a b).1 * (nrat c d).2=(nrat c d).1 * (nrat a b).2:=by
  refine Int.eq_of_mul_eq_mul_right (Int.mul_ne_zero hb hd) ?_
  grind
 obtain ⟨x,y⟩:=low_uniq l1 l2 e
 exact Prod.ext x y
theorem nrat_low {x y:Int} (h:Low x y):nrat x y=(x,y):=by
 obtain ⟨l,e,_⟩:=nrat_spec (t:=x) (Int.ne_of_gt h.1)
 obtain ⟨a,b⟩:=low_uniq l h e
 exact Prod.ext a b
end Cut
namespace Cut
open PySem L2 L3
open PySem.Builtin.Int (intBits)
end Cut
namespace Cut
open PySem L2 L3
open PySem.Builtin.Int (intBits)
end Cut
namespace Cut
open PySem L2 L3
open PySem.Builtin.Int (intBits)
abbrev P3:=Int×Int×Int
def crs (p q:P3):P3:=(p.2.1 * q.2.2 - p.2.2 * q.2.1,p.2.2 * q.1 - p.1 * q.2.2,p.1 * q.2.1 - p.2.1 * q.1)
def sc (c:Int) (p:P3):P3:=(c * p.1,c * p.2.1,c * p.2.2)
def lc (a:Int) (p:P3) (b:Int) (q:P3):P3:=(a * p.1 + b * q.1,a * p.2.1 + b * q.2.1,a * p.2.2 + b * q.2.2)
def nP (p:P3):P3:=npt p.1 p.2.1 p.2.2
theorem p3_ext {p q:P3} (h1:p.1=q.1) (h2:p.2.1=q.2.1) (h3:p.2.2=q.2.2):p=q:=Prod.ext h1 (Prod.ext h2 h3)
variable {P:Program} {w:World} {K:PySem.W.Frag} {mg:Str→Option Value} {base:Heap}
theorem sc_out {c d:Int} {p q:P3} (h:sc c p=sc d q):c * p.1=d * q.1∧c * p.2.1=d * q.2.1∧c * p.2.2=d * q.2.2 :=
 ⟨congrArg (·.1) h,congrArg (·.2.1) h,congrArg (·.2.2) h⟩
theorem crs_sc (c d:Int) (p q:P3):crs (sc c p) (sc d q)=sc (c * d) (crs p q):=by
 refine p3_ext ?_ ?_ ?_ <;> simp only [crs,sc] <;> grind
theorem sc_sc (c d:Int) (p:P3):sc c (sc d p)=sc (c * d) p:=by
 refine p3_ext ?_ ?_ ?_ <;> simp only [sc] <;> grind
theorem nP_sc {p:P3} (hn:p.2.2≠0):∃ g,g≠0∧p=sc g (nP p):=by
 obtain ⟨pt,e1,e2,_⟩:=npt_spec (a:=p.1) (b:=p.2.1) hn
 have z0:(nP p).2.2≠0:=Int.ne_of_gt pt.1
 obtain ⟨g,hg⟩:=pt_dvd pt.2 e1 e2
 have g0:g≠0:=fun z=>hn (by rw [hg,z,Int.mul_zero])
 refine ⟨g,g0,p3_ext ?_ ?_ ?_⟩
 ·refine Int.eq_of_mul_eq_mul_right z0 ?_
  show p.1 * (npt p.1 p.2.1 p.2.2).2.2=g * (npt p.1 p.2.1 p.2.2).1 * (npt p.1 p.2.1 p.2.2).2.2
  rw [← e1]
  grind
 ·refine Int.eq_of_mul_eq_mul_right z0 ?_
  show p.2.1 * (npt p.1 p.2.1 p.2.2).2.2=g * (npt p.1 p.2.1 p.2.2).2.1 * (npt p.1 p.2.1 p.2.2).2.2
  rw [← e2]
  grind
 ·show p.2.2=g * (npt p.1 p.2.1 p.2.2).2.2
  rw [Int.mul_comm]
  exact hg
abbrev PtP (p:P3):Prop:=Pt p.1 p.2.1 p.2.2
theorem nP_pt {p:P3} (hn:p.2.2≠0):PtP (nP p):=(npt_spec hn).1
theorem nP_of_sc {M h:P3} {G c:Int} (hG:G≠0) (hc:c≠0) (hp:PtP h) (e:sc G M=sc c h):M.2.2≠0∧nP M=h:=by
 obtain ⟨e1,e2,e3⟩:=sc_out e
 have h0:h.2.2≠0:=Int.ne_of_gt hp.1
 have m0:M.2.2≠0:=fun z=>by
  rw [z,Int.mul_zero] at e3
  exact Int.mul_ne_zero hc h0 e3.symm
 refine ⟨m0,?_⟩
 obtain ⟨pt,f1,f2,_⟩:=npt_spec (a:=M.1) (b:=M.2.1) m0
 have k1:M.1 * h.2.2=h.1 * M.2.2:=Int.eq_of_mul_eq_mul_left (Int.mul_ne_zero hG hc) (by grind)
 have k2:M.2.1 * h.2.2=h.2.1 * M.2.2:=Int.eq_of_mul_eq_mul_left (Int.mul_ne_zero hG hc) (by grind)
 obtain ⟨q1,q2,q3⟩:=pt_uniq pt hp (Int.eq_of_mul_eq_mul_right m0 (by grind)) (Int.eq_of_mul_eq_mul_right m0 (by grind))
 exact p3_ext q1 q2 q3
theorem nP_self {h:P3} (hp:PtP h):nP h=h:=(nP_of_sc (M:=h) (h:=h) (G:=1) (c:=1) (by decide) (by decide) hp rfl).2
structure BP (m:Nat) (p:P3):Prop where
 a:intBits p.1≤m
 b:intBits p.2.1≤m
 c:intBits p.2.2≤m
theorem BP.mono {m n:Nat} {p:P3} (h:BP m p) (l:m≤n):BP n p:=⟨Nat.le_trans h.a l,Nat.le_trans h.b l,Nat.le_trans h.c l⟩
theorem BP.nP {m:Nat} {p:P3} (h:BP m p) (hn:p.2.2≠0):BP m (Cut.nP p):=by
 obtain ⟨_,_,_,c1,c2,c3⟩:=npt_spec (a:=p.1) (b:=p.2.1) hn
 exact ⟨bits_of_abs c1 h.a,bits_of_abs c2 h.b,bits_of_abs c3 h.c⟩
theorem BP.crs {m n:Nat} {p q:P3} (hp:BP m p) (hq:BP n q):BP (m + n + 1) (Cut.crs p q):=by
 have e:∀ {x y u v:Int},intBits x≤m→intBits y≤n→intBits u≤m→intBits v≤n→intBits (x * y - u * v)≤m + n + 1:=fun a b c d=>Nat.le_trans (intBits_sub_le (intBits_mul_le a b) (intBits_mul_le c d)) (by omega)
 exact ⟨e hp.b hq.c hp.c hq.b,e hp.c hq.a hp.a hq.c,e hp.a hq.b hp.b hq.a⟩
end Cut
namespace PySem
open Sem (wp)
section
variable {prog:Program} {w:World} {A:Around} {E:Value→Shared→Prop} {s:Shared}
end
section
variable {prog:Program} {w:World} {A:Around} {R:Result→Shared→Prop}
end
section
variable {prog:Program} {w:World} {A:Around} {E:Value→Shared→Prop} {s:Shared}
end
end PySem
namespace L2
open PySem PySem.Spec PyProof.Rows PySem.W
section
variable {X:Cx}
end
end L2
namespace L3
open PySem L2
section
variable {K:PySem.W.Frag} {R:Hp} {W:Addr→Prop} {σ:St} {ρ:List Sl}
end
section
variable {X:Cx} {e1 e2:Expr} {ua ub:UE}
end
end L3
namespace L2
open PySem PySem.Spec PyProof.Rows PySem.W
section
variable {X:Cx} {e st:Expr} {te ts:TE} {p2 pos:Pos}
end
end L2
namespace L3
open PySem L2
section
variable {X:Cx} {e st:Expr} {u us:UE} {p2 pos:Pos}
end
end L3
namespace Cut
open PySem L2 L3
open PySem.Builtin.Int (intBits)
abbrev F2:=Int×Int
def fneg (x:F2):F2:=(-x.1,x.2)
def IsF (r s:F2):Prop:=Low r.1 r.2∧0 < s.2∧r.1 * s.2=s.1 * r.2
theorem IsF.uniq {r t s:F2} (h:IsF r s) (g:IsF t s):r=t:=by
 have s0:=Int.ne_of_gt h.2.1
 have:=low_uniq h.1 g.1 (Int.eq_of_mul_eq_mul_right s0 (by have:=h.2.2; have:=g.2.2; grind))
 exact Prod.ext this.1 this.2
theorem IsF.low {c d:Int} (hd:0 < d):IsF (nrat c d) (c,d):=by
 obtain ⟨l,e,_⟩:=nrat_spec (t:=c) (b:=d) (Int.ne_of_gt hd)
 exact ⟨l,hd,e⟩
theorem IsF.neg {r s:F2} (h:IsF r s):IsF (fneg r) (fneg s):=⟨⟨h.1.1,by show Int.gcd (-r.1) r.2=1; rw [Int.neg_gcd]; exact h.1.2⟩,h.2.1,by have:=h.2.2; simp only [fneg]; grind⟩
end Cut
namespace Cut
open PySem L2 L3
open PySem.Builtin.Int (intBits)
end Cut
namespace Cut
open PySem L2 L3
open PySem.Builtin.Int (intBits)
theorem nrat_negTop {t b:Int} (hb:0 < b):nrat (-t) b=fneg (nrat t b):=(IsF.low hb).uniq ((IsF.low hb).neg)
end Cut
namespace L2
open PySem PySem.Spec PyProof.Rows PySem.W
section
variable {X:Cx} {pins:List (Addr×Obj)} {σ:St} {H:Hp} {s:Shared}
end
end L2
namespace L3
open PySem L2 PySem.W
section
variable {X:Cx} {a b:Expr} {ua ub:UE} {pos:Pos}
end
end L3
namespace L2
open PySem PySem.Spec PyProof.Rows
section
variable {X:Cx} {pos:Pos}
end
end L2
namespace L3
open PySem L2
section
variable {X:Cx} {w:UL} {pos:Pos}
end
end L3
namespace L3
open PySem L2
section
variable {K:PySem.W.Frag} {R:Hp} {W:Addr→Prop} {B B' H H':Hp} {σ:St} {ρ:List Sl}
def fz1:Sl→Sl
 | .own (.l ds)=>.val (.lst ds)
 | .own (.d b _ ks ds)=>.val (.dct b ks ds)
 | s=>s
def frW (W:Addr→Prop) (σ:St) (ρ:List Sl) (a:Addr):Prop:=W a∨∃ i:Nat,σ[i]?=some (some (.ref a))∧ρ[i]?=some .bag
def OwnAd (σ:St) (ρ:List Sl) (a:Addr):Prop:=∃ (i:Nat) (ds:Cn),σ[i]?=some (some (.ref a))∧ρ[i]?=some (.own ds)
open Classical in
noncomputable def frB (B H:Hp) (σ:St) (ρ:List Sl):Hp:=fun a=>if OwnAd σ ρ a then H a else B a
theorem frB_own {a:Addr} (h:OwnAd σ ρ a):frB B H σ ρ a=H a:=by unfold frB; rw [if_pos h]
theorem frB_not {a:Addr} (h:¬ OwnAd σ ρ a):frB B H σ ρ a=B a:=by unfold frB; rw [if_neg h]
theorem Ev.frW_B (e:Ev K R W B H σ ρ) {a:Addr} (h:frW W σ ρ a):B a=none∧Bag H a:=by
 rcases h with h | ⟨i,h1,h2⟩
 ·exact ⟨e.wb a h,e.wh a h⟩
 ·obtain ⟨b,c1,_,c3,c4⟩:=e.bagAt h2
  rw [h1] at c1; cases c1
  exact ⟨c3,c4⟩
theorem Ev.own_out (e:Ev K R W B H σ ρ) {a:Addr} (h:OwnAd σ ρ a):R a=none∧B a=none∧H a≠none∧¬ frW W σ ρ a:=by
 obtain ⟨i,ds,h1,h2⟩:=h
 obtain ⟨b,c1,c2,c3,c4⟩:=e.ownC h2
 rw [h1] at c1; cases c1
 refine ⟨c2,c3,c4.ne,fun z=>?_⟩
 rcases z with z | ⟨j,z1,z2⟩
 ·exact e.wr a z c2
 ·have:=e.sep i j a ⟨h1,.inr ⟨ds,h2⟩⟩ ⟨z1,.inl z2⟩
  subst this
  rw [h2] at z2; cases z2
theorem Ev.frB_same (e:Ev K R W B H σ ρ):Same B (frB B H σ ρ):=fun a o h=>by
 by_cases z:OwnAd σ ρ a
 ·rw [(e.own_out z).2.1] at h; cases h
 ·rw [frB_not z]; exact h
theorem Ev.frame (e:Ev K R W B H σ ρ):Ev K H (frW W σ ρ) (frB B H σ ρ) H σ (ρ.map fz1):=by
 have nb:∀ a,frW W σ ρ a→frB B H σ ρ a=none:=fun a h=>by
  by_cases z:OwnAd σ ρ a
  ·exact absurd h (e.own_out z).2.2.2
  ·rw [frB_not z]; exact (e.frW_B h).1
 refine ⟨⟨fun _ _ z _=>z,fun a o h=>?_,nb,fun a h=>(e.frW_B h).2,fun a h=>?_⟩,by rw [List.length_map]; exact e.len,fun i k h=>?_,fun i j a m1 m2=>?_⟩
 ·by_cases z:OwnAd σ ρ a
  ·rw [frB_own z] at h; exact h
  ·rw [frB_not z] at h; exact e.bh a o h
 ·obtain ⟨x,y,q,_⟩:=(e.frW_B h).2
  rw [q]; simp
 ·rw [List.getElem?_map] at h
  cases q:ρ[i]? with
  | none=>rw [q] at h; cases h
  | some k0 =>
   rw [q] at h
   have h:=Option.some.inj h
   subst h
   have z:=e.ok i _ q
   cases k0 with
   | no=>trivial
   | new d =>
    obtain ⟨v,h1,h2⟩:=z
    refine ⟨v,h1,h2.mono (mixB_re e.toWd e.frB_same (fun a o h=>?_) (fun a z hr=>?_) nb)⟩
    ·by_cases z:OwnAd σ ρ a
     ·rw [frB_own z] at h; exact h
     ·rw [frB_not z] at h; exact e.bh a o h
    ·rcases z with z | ⟨i,z1,z2⟩
     ·exact z
     ·obtain ⟨b,c1,c2,_⟩:=e.bagAt z2
      rw [z1] at c1; cases c1
      exact c2.resolve_right hr
   | pin v d =>
    obtain ⟨h1,h2⟩:=z
    refine ⟨h1,h2.mono (mixB_re e.toWd e.frB_same (fun a o h=>?_) (fun a z hr=>?_) nb)⟩
    ·by_cases z:OwnAd σ ρ a
     ·rw [frB_own z] at h; exact h
     ·rw [frB_not z] at h; exact e.bh a o h
    ·rcases z with z | ⟨i,z1,z2⟩
     ·exact z
     ·obtain ⟨b,c1,c2,_⟩:=e.bagAt z2
      rw [z1] at c1; cases c1
      exact c2.resolve_right hr
   | val d =>
    obtain ⟨v,h1,h2⟩:=z
    exact ⟨v,h1,h2.mono e.frB_same⟩
   | own ds =>
    obtain ⟨a,h1,h2,h3,z⟩:=z
    cases ds with
    | l ds =>
     obtain ⟨vs,h4,h5⟩:=z
     exact ⟨.ref a,h1,.lst (by rw [frB_own ⟨i,_,join_some h1,q⟩]; exact h4) (h5.mono e.frB_same)⟩
    | d b t ks ds =>
     obtain ⟨ep,as,vs,_,h4,h5,h6,h7⟩:=z
     exact ⟨.ref a,h1,.dct (by rw [frB_own ⟨i,_,join_some h1,q⟩]; exact h4) (h5.mono e.frB_same) h6 (h7.mono e.frB_same)⟩
   | bag =>
    obtain ⟨b,h1,h2,h3,h4⟩:=z
    have w:frW W σ ρ b:=.inr ⟨i,join_some h1,q⟩
    exact ⟨b,h1,.inl w,nb b w,h4⟩
 ·have back:∀ i,MutAt σ (ρ.map fz1) i a→MutAt σ ρ i a:=fun i m=>by
   obtain ⟨h1,h2⟩:=m
   refine ⟨h1,?_⟩
   rw [List.getElem?_map] at h2
   cases q:ρ[i]? with
   | none=>rw [q] at h2; rcases h2 with h2 | ⟨_,h2⟩ <;> cases h2
   | some k0 =>
    rw [q] at h2
    cases k0 with
    | bag=>exact .inl rfl
    | no=>rcases h2 with h2 | ⟨_,h2⟩ <;> cases h2
    | new d=>rcases h2 with h2 | ⟨_,h2⟩ <;> cases h2
    | pin v d=>rcases h2 with h2 | ⟨_,h2⟩ <;> cases h2
    | val d=>rcases h2 with h2 | ⟨_,h2⟩ <;> cases h2
    | own ds=>cases ds <;> rcases h2 with h2 | ⟨_,h2⟩ <;> cases h2
  exact e.sep i j a (back i m1) (back j m2)
theorem Ev.unframe (e:Ev K R W B H σ ρ) (fr:∀ a o,H a=some o→¬ frW W σ ρ a→H' a=some o) (wh:∀ a,frW W σ ρ a→Bag H' a):Ev K R W B H' σ ρ:=by
 have nW:∀ a,R a≠none→¬ W a→¬ frW W σ ρ a:=fun a h1 h2 z=>by
  rcases z with z | ⟨i,z1,z2⟩
  ·exact h2 z
  ·obtain ⟨b,c1,c2,_⟩:=e.bagAt z2
   rw [z1] at c1; cases c1
   rcases c2 with c2 | c2
   ·exact h2 c2
   ·exact h1 c2
 refine ⟨⟨fun a o h nw=>fr a o (e.fr a o h nw) (nW a (by rw [h]; simp) nw),fun a o h=>fr a o (e.bh a o h) fun z=>?_,e.wb,fun a h=>wh a (.inl h),e.wr⟩,e.len,fun i k h=>?_,e.sep⟩
 ·rw [(e.frW_B z).1] at h; cases h
 ·have z:=e.ok i k h
  cases k with
  | no=>trivial
  | new d=>exact z
  | pin v d=>exact z
  | val d=>exact z
  | own ds =>
   obtain ⟨a,h1,h2,h3,h4⟩:=z
   refine ⟨a,h1,h2,h3,h4.mono (Same.refl _) ?_⟩
   cases q:H a with
   | none=>exact absurd q h4.ne
   | some o=>exact fr a _ q (e.own_out ⟨i,ds,join_some h1,h⟩).2.2.2
  | bag =>
   obtain ⟨b,h1,h2,h3,h4⟩:=z
   exact ⟨b,h1,h2,h3,wh b (.inr ⟨i,join_some h1,h⟩)⟩
theorem Ev.forget (e:Ev K R W B H σ ρ) {σ':St} {ρ':List Sl} (hl:σ'.length=ρ'.length) (h:∀ (i:Nat) (k:Sl),ρ'[i]?=some k→k=.no∨(ρ[i]?=some k∧σ'[i]?=σ[i]?)):Ev K R W B H σ' ρ':=by
 have back:∀ i a,MutAt σ' ρ' i a→MutAt σ ρ i a:=fun i a m=>by
  obtain ⟨h1,h2⟩:=m
  rcases h2 with h2 | ⟨ds,h2⟩
  ·rcases h i _ h2 with z | ⟨z1,z2⟩
   ·cases z
   ·exact ⟨by rw [← z2]; exact h1,.inl z1⟩
  ·rcases h i _ h2 with z | ⟨z1,z2⟩
   ·cases z
   ·exact ⟨by rw [← z2]; exact h1,.inr ⟨ds,z1⟩⟩
 refine ⟨e.toWd,hl,fun i k q=>?_,fun i j a m1 m2=>e.sep i j a (back i a m1) (back j a m2)⟩
 rcases h i k q with rfl | ⟨z1,z2⟩
 ·trivial
 ·rw [z2]; exact e.ok i k z1
end
section
variable {K:PySem.W.Frag} {X:Cx} {e:Expr} {es:List Expr} {u:UE} {w:UL} {pos p:Pos}
mutual
def flat:D→Bool
 | .tup xs=>flats xs
 | .lst _=>false
 | .scr _=>false
 | .ktup _=>false
 | .dct _ _ _=>false
 | .non=>true
 | .bl _=>true
 | .int _=>true
 | .str _=>true
 | .ty _=>true
def flats:List D→Bool
 | []=>true
 | x :: r=>flat x && flats r
end
theorem newL_tup {R B:Hp} {a:Addr} {vs:List V} (h:B a=some (.tup vs)):newL R B a=some (.tup vs):=by
 unfold newL
 rw [h]
mutual
theorem Rep.flat {R B:Hp}:∀ {v:V} {d:D},Rep K B v d→flat d=true→Rep K (newL R B) v d
 | _,_,.non,_=>.non
 | _,_,.bl b,_=>.bl b
 | _,_,.int i,_=>.int i
 | _,_,.str x,_=>.str x
 | _,_,.ty n,_=>.ty n
 | _,_,.tup h r,f=>.tup (newL_tup h) (Reps.flat r f)
 | _,_,.lst h r,f=>by simp [L3.flat] at f
 | _,_,.scr h,f=>by simp [L3.flat] at f
 | _,_,.ktup h _,f=>by simp [L3.flat] at f
 | _,_,.dct _ _ _ _,f=>by simp [L3.flat] at f
theorem Reps.flat {R B:Hp}:∀ {vs:List V} {ds:List D},Reps K B vs ds→flats ds=true→Reps K (newL R B) vs ds
 | _,_,.nil,_=>.nil
 | _,_,.cons h r,f=>by
  rw [flats,Bool.and_eq_true] at f
  exact .cons (Rep.flat h f.1) (Reps.flat r f.2)
end
def RefD (K:PySem.W.Frag) (t:TE) (u:UE):Prop:=∀ (ρ:List Sl) (k:D→Prop),u ρ k→∀ (R:Hp) (W:Addr→Prop) (B H:Hp) (σ:St) (Q:VK),Ev K R W B H σ ρ →
 (∀ d v B' H',k d→Ev K R W B' H' σ ρ→Grow R B B'→Rep K (newL R B') v d→Q v H')→t σ H Q
def RefDL (K:PySem.W.Frag) (t:TA) (u:UL):Prop:=∀ (ρ:List Sl) (k:List D→Prop),u ρ k→∀ (R:Hp) (W:Addr→Prop) (B H:Hp) (σ:St) (Q:List V→Hp→Prop),Ev K R W B H σ ρ →
 (∀ ds vs B' H',k ds→Ev K R W B' H' σ ρ→Grow R B B'→Reps K (newL R B') vs ds→Q vs H')→t σ H Q
def PD3 (X:Cx) (e:Expr) (u:UE):Prop:=∃ t,PE X e t∧RefD X.K t u
def PDL3 (X:Cx) (es:List Expr) (u:UL):Prop:=∃ t,PA X es t∧RefDL X.K t u
def unF (u:UE):UE:=fun ρ k=>u ρ fun d=>flat d=true∧k d
def unO (w:UL):UE:=fun ρ k=>w ρ fun ds=>flats ds=true∧k (.lst ds)
theorem d_flat (h:PE3 X e u):PD3 X e (unF u):=by
 obtain ⟨_,h1,r1⟩:=h
 refine ⟨_,h1,fun ρ k h R W B H σ Q e q=>?_⟩
 exact r1 ρ _ h R W B H σ _ e fun d v B1 H1 z1 e1 g1 s1=>q d v B1 H1 z1.2 e1 g1 (s1.flat z1.1)
theorem d_list (h:PO3 X e w):PD3 X e (unO w):=by
 obtain ⟨_,h1,r1⟩:=h
 refine ⟨_,h1,fun ρ k h R W B H σ Q e q=>?_⟩
 refine r1 ρ _ h R W B H σ _ e fun ds a vs B1 H1 z1 e1 g1 f1 f2 f3 f4 f5=>?_
 obtain ⟨e2,g2⟩:=e1.freeze f3 f1 f2 f5
 exact q _ _ _ _ z1.2 e2 (g1.trans g2) (.lst (newL_at upd_same f1) ((f4.mono g2.s).flat z1.1))
theorem dl_nil:PDL3 X [] uNil:=⟨_,pa_nil,fun ρ k h R W B H σ Q e q=>q [] [] B H h e (Grow.refl _ _) .nil⟩
theorem dl_cons (ha:PD3 X e u) (hr:PDL3 X es w) (hs:starEach (e :: es) X.env=(false,eval e X.env) :: starEach es X.env:=by rfl):PDL3 X (e :: es) (uCons u w):=by
 obtain ⟨_,h1,r1⟩:=ha; obtain ⟨_,h2,r2⟩:=hr
 refine ⟨_,pa_cons h1 h2 hs,fun ρ k h R W B H σ Q e q=>?_⟩
 refine r1 ρ _ h R W B H σ _ e fun d v B1 H1 z1 e1 g1 s1=>?_
 refine r2 ρ _ z1 R W B1 H1 σ _ e1 fun ds vs B2 H2 z2 e2 g2 s2=>?_
 exact q _ _ B2 H2 z2 e2 (g1.trans g2) (.cons (s1.mono (newL_mono g2.s)) s2)
theorem d_tup {x1} (h:PDL3 X es w):PD3 X (.Tuple es x1 pos) (uTup w):=by
 obtain ⟨_,h1,r1⟩:=h
 refine ⟨_,pe_tup h1,fun ρ k z R W B H σ Q e q=>?_⟩
 refine r1 ρ _ z R W B H σ _ e fun ds vs B1 H1 z1 e1 g1 s1=>?_
 refine ⟨by rw [s1.length]; exact z1.1,fun p hp=>?_⟩
 have g2:=e1.grow hp (.tup vs)
 exact q _ _ _ _ z1.2 (e1.alloc hp _) (g1.trans g2) (.tup (newL_tup upd_same) (s1.mono (newL_mono g2.s)))
def uCallD (n:Nat) (F:FS) (w:UA):UE:=fun ρ k=>w ρ fun as=>sh as n=true∧F (as.map Arg.sl) fun r=>∃ d,r=.new d∧k d
theorem d_call {n:Nat} {F:FS} {w:UA} {x:Str} {ps:List Str} {j lv:Nat} (c:Cal X.prog X.w X.K X.mg X.base x ps j (Con X.K n F)) (hr:Room lv X.A) (hg:Gl X x) (ha:PA3 X (e :: es) w) (hjk:j≤lv:=by decide)
  (hdb:(x == ("__debug__" : Str))=false:=by decide) (he:starEach (e :: es) X.env=(false,eval e X.env) :: starEach es X.env:=by rfl) (hpl:(backTo pos (starEach es X.env)).any (·.1)=false:=by rfl) :
  PD3 X (.Call (.Name x p) (e :: es) [] pos) (uCallD n F w):=by
 obtain ⟨_,h1,r1⟩:=ha
 refine ⟨_,pe_cal c hr hg h1 hjk hdb he hpl,fun ρ k h R W B H σ Q e q=>?_⟩
 refine r1 ρ _ h R W B H σ _ e fun as vs B1 H1 z1 e1 g1 s1=>?_
 rw [List.append_nil]
 refine call_ok e1 s1 z1.1 z1.2 fun r v B2 H2 hk e2 g2 res=>?_
 obtain ⟨d,rfl,hk⟩:=hk
 have res:Rep X.K (newL H1 B2) v d:=res
 exact q d v B2 H2 hk e2 (g1.trans g2) (res.mono (newL_weak fun a z=>(e1.toWd.fresh z).1))
def uRetD (u:UE):US:=fun U ρ=>u ρ fun d=>U.rt (.new d)
theorem s_retD (h:PD3 X e u):PS3 X (.Return (some e) pos) (uRetD u):=by
 obtain ⟨_,h1,r1⟩:=h
 refine ⟨_,ps_ret h1,fun U ρ h R W B H σ D e s=>?_⟩
 exact r1 ρ _ h R W B H σ _ e fun d v B1 H1 z1 e1 g1 s1=>s.rt (.new d) v B1 H1 z1 e1.toWd g1 s1
theorem refCompD {wi:TI} {g:TG} {tt:TT} {te:TE} {ug:UG} {ut:UT} {nt:Nat} {js:List Nat} (h0:RefI K wi w) (hg:RefG K g ug) (ht:RefT K tt ut) (h1:RefD K te u) (hnd:js.Nodup):RefD K (tCompG wi g tt te nt js) (fun ρ k=>uCompG w ug ut u nt js ρ fun ds=>k (.lst ds)):=by
 intro ρ k h R W B H σ Q e q
 refine h0 ρ _ h R W B H σ _ e fun ds J B1 H1 z1 e1 g1 it=>?_
 obtain ⟨hl,z1⟩:=z1
 intro D hD
 obtain ⟨f1,f2,f3⟩:=e1.toWd.fresh hD
 have nm1:∀ i,¬ MutAt σ ρ i D:=fun i m=>e1.notNew hD m rfl
 have ei:=e1.within nt hnd
 have hmi:∀ j a,MutAt (List.replicate nt none ++ freeV σ js) (List.replicate nt .no ++ js.map (frS ρ)) j a→∃ j,j∈js∧σ[j]?=some (some (V.ref a))∧ρ[j]?=some Sl.bag:=fun j a m=>by
  rcases m.2 with z | ⟨es,z⟩
  ·obtain ⟨c,c1,c2,_⟩:=ei.bagAt z
   rw [m.1] at c1; cases c1
   rcases c2 with c2 | c2
   ·exact c2
   ·obtain ⟨_,q2⟩:=ei.mutOk m
    exact absurd c2 q2
  ·obtain ⟨c,c1,c2,_⟩:=ei.ownC z
   rw [m.1] at c1; cases c1
   obtain ⟨_,q2⟩:=ei.mutOk m
   exact absurd c2 q2
 generalize hWW:(fun a=>∃ j,j∈js∧σ[j]?=some (some (V.ref a))∧ρ[j]?=some Sl.bag)=WW at ei
 have hmi:∀ j a,MutAt (List.replicate nt none ++ freeV σ js) (List.replicate nt .no ++ js.map (frS ρ)) j a→WW a:=fun j a m=>by rw [← hWW]; exact hmi j a m
 have hW:∀ a,WW a→∃ i:Nat,σ[i]?=some (some (.ref a))∧ρ[i]?=some .bag:=fun a z=>by
  rw [← hWW] at z
  obtain ⟨j,_,z⟩:=z
  exact ⟨j,z⟩
 have nWD:¬ WW D:=fun z=>by
  obtain ⟨i',y1,y2⟩:=hW D z
  exact nm1 i' ⟨y1,.inl y2⟩
 refine ⟨fun i m σi H'=>∃ B' ys es ρi,m=ds.length - i∧i≤ds.length∧Ev K H1 WW B' H' σi ρi∧Grow H1 B1 B'∧H' D=some (.lst ys)∧B' D=none∧(∀ j a,MutAt σi ρi j a→WW a)∧ys.length≤i∧Reps K (newL H1 B') ys es∧compG ug ut u (ds.drop i) ρi fun r=>k (.lst (es ++ r)),
  ⟨ds.length,B1,[],[],_,by simp,Nat.zero_le _,ei.allocH hD _,Grow.refl _ _,upd_same,f3,hmi,Nat.le_refl _,.nil,by simpa using z1⟩,?_⟩
 rintro i m σi H2 ⟨B2,ys,es,ρi,rfl,hi,e2,g2,hy,hb,hnm,hyl,ry,z2⟩
 obtain ⟨t1,t2,t3⟩:=it H2 (g2.s.trans e2.bh) i
 by_cases hlt:i < ds.length
 ·refine .inr ⟨t1 hlt,fun x H' y=>?_⟩
  obtain ⟨rfl,d,hd,rx⟩:=t3 x H' hlt y
  have ed:ds.drop i=d :: ds.drop (i + 1):=by
   rw [List.drop_eq_getElem_cons hlt]
   rw [List.getElem?_eq_getElem hlt] at hd
   rw [Option.some.inj hd]
  rw [ed] at z2
  refine hg d ρi _ z2 H1 WW B2 H' σi x _ e2 (rx.mono g2.s) fun ρ3 σ3 z3 e3 mm=>?_
  have hnm3:∀ j a,MutAt σ3 ρ3 j a→WW a:=fun j a m=>hnm j a (mm j a m)
  have bD:∀ {B4:Hp},Grow H' B2 B4→B4 D=none:=fun {B4} g4=>by
   cases qd:B4 D with
   | none=>rfl
   | some o =>
    rcases g4.n D o qd with z | z
    ·rw [hb] at z; cases z
    ·rw [hy] at z; cases z
  refine ht ρ3 _ z3 H' WW B2 H' σ3 _ (e3.rebase hnm3) fun b B4 H4 z4 e4 g4=>?_
  have hD4:H4 D=some (.lst ys):=e4.fr D _ hy nWD
  cases b with
  | false =>
   rw [if_neg Bool.false_ne_true] at z4 ⊢
   obtain ⟨e5,g5⟩:=e3.unbase hnm3 e4 g4
   exact ⟨ds.length - (i + 1),by omega,B4,ys,es,ρ3,rfl,hlt,e5,g2.trans g5,hD4,bD g4,hnm3,by omega,ry.mono (newL_mono g4.s),z4⟩
  | true =>
   rw [if_pos rfl] at z4 ⊢
   refine h1 ρ3 _ z4 H' WW B4 H4 σ3 _ e4 fun y' v B5 H5 z5 e5 g5 s5=>?_
   have g45:=g4.trans g5
   have hD5:H5 D=some (.lst ys):=e5.fr D _ hy nWD
   obtain ⟨e6,g6⟩:=e3.unbase hnm3 e5 g45
   have s5:=s5.mono (newL_weak (R:=H1) fun a z=>(e2.toWd.fresh z).1)
   refine ⟨ys,hD5,by omega,ds.length - (i + 1),by omega,B5,ys ++ [v],es ++ [y'],ρ3,rfl,hlt,e6.scribble hD (bD g45) (fun j m=>nWD (hnm3 j D m)) _,g2.trans g6,upd_same,bD g45,hnm3,by rw [List.length_append,List.length_singleton]; omega,(ry.mono (newL_mono g45.s)).append (.cons s5 .nil),?_⟩
   simpa [List.append_assoc] using z5
 ·have eq:i=ds.length:=by omega
  subst eq
  rw [List.drop_length] at z2
  obtain ⟨e4,g4⟩:=e1.after hW e2.toWd g2
  obtain ⟨e5,g5⟩:=e4.freeze hy f1 hb nm1
  refine .inl ⟨t2 (Nat.le_refl _),q _ (.ref D) _ H2 (by simpa [compG] using z2) e5 ((g1.trans g4).trans g5) (.lst (newL_at upd_same f1) ?_)⟩
  exact (ry.mono (newL_weak fun a z=>(e1.toWd.fresh z).1)).mono (newL_mono g5.s)
theorem joinD {elt:Expr} {α:Type} {Xs:α→Cx} (hK:∀ a,(Xs a).K=K) (h:∀ a,PD3 (Xs a) elt u):∃ t,(∀ a,PE (Xs a) elt t)∧RefD K t u:=by
 refine ⟨fun σ H Q=>∀ a,∃ t,PE (Xs a) elt t∧RefD K t u∧t σ H Q,fun a pins s σ H Q I q=>?_,fun ρ k q R W B H σ Q e z a=>?_⟩
 ·obtain ⟨t,ht,_,hq⟩:=q a
  exact ht pins s σ H Q I hq
 ·obtain ⟨t,ht,hr⟩:=h a
  rw [hK a] at hr
  exact ⟨t,ht,hr,hr ρ k q R W B H σ Q e z⟩
variable {elt iter tg:Expr} {ifs:List Expr} {scope:Scope} {cl:List (Str×Addr)} {ts fr:List Str} {js:List Nat} {ug:UG} {ut:UT}
def unC (w:UL):UE:=fun ρ k=>w ρ fun ds=>k (.lst ds)
theorem d_comp (hi:PI3 X tg iter w) (hg:∀ C s H ex,PG3 (compCx X (ts ++ fr) scope cl C s H ex) tg ug) (hts:∀ C s H ex,PIfs3 (compCx X (ts ++ fr) scope cl C s H ex) ifs ut) (helt:∀ C s H ex,PD3 (compCx X (ts ++ fr) scope cl C s H ex) elt u)
  (F:FreeOk X scope cl fr js) (hjn:js.Nodup:=by decide) (hc:X.calm=true:=by rfl) (hs:∀ v,foldedSetIterable iter X.env v=pure v:=by intro _; rfl):PD3 X (.ListComp elt [⟨tg,iter,ifs,0⟩] scope pos) (unC (uCompG w ug ut u ts.length js)):=by
 obtain ⟨_,h0,r0⟩:=hi
 obtain ⟨tg',hg',rg⟩:=joinG (K:=X.K) (Xs:=fun a:Addr×Shared×Hp×List Addr=>compCx X (ts ++ fr) scope cl a.1 a.2.1 a.2.2.1 a.2.2.2) (fun _=>rfl) fun a=>hg a.1 a.2.1 a.2.2.1 a.2.2.2
 obtain ⟨tt,ht',rt⟩:=joinI (K:=X.K) (Xs:=fun a:Addr×Shared×Hp×List Addr=>compCx X (ts ++ fr) scope cl a.1 a.2.1 a.2.2.1 a.2.2.2) (fun _=>rfl) fun a=>hts a.1 a.2.1 a.2.2.1 a.2.2.2
 obtain ⟨te,he',re⟩:=joinD (K:=X.K) (Xs:=fun a:Addr×Shared×Hp×List Addr=>compCx X (ts ++ fr) scope cl a.1 a.2.1 a.2.2.1 a.2.2.2) (fun _=>rfl) fun a=>helt a.1 a.2.1 a.2.2.1 a.2.2.2
 exact ⟨_,pe_compG h0 (fun C s H ex=>hg' (C,s,H,ex)) (fun C s H ex=>ht' (C,s,H,ex)) (fun C s H ex=>he' (C,s,H,ex)) F hc hs,refCompD r0 rg rt re hjn⟩
end
end L3
namespace L3
open PySem L2
section
variable {K:PySem.W.Frag} {X:Cx} {e:Expr} {es:List Expr} {u:UE} {w:UL} {pos p:Pos} {I:List Nat} {i:Nat} {rest:List Stmt} {uz:UEnds→List Sl→D→List Sl→Prop}
theorem Rep.lst_of {B:Hp} {v:V} {ds:List D} (r:Rep K B v (.lst ds)):∃ a vs,v=.ref a∧B a=some (.lst vs)∧Reps K B vs ds:=by
 cases r with | lst h r=>exact ⟨_,_,rfl,h,r⟩
theorem Rep.tup_of {B:Hp} {v:V} {ds:List D} (r:Rep K B v (.tup ds)):∃ a vs,v=.ref a∧B a=some (.tup vs)∧Reps K B vs ds:=by
 cases r with | tup h r=>exact ⟨_,_,rfl,h,r⟩
theorem atI_zero {α:Type} {x:α} {r:List α}:atI (x :: r) 0=some x:=by simp [atI,ixN]
def RefZ (K:PySem.W.Frag) (I:List Nat) (i:Nat) (t:TS) (uz:UEnds→List Sl→D→List Sl→Prop):Prop :=
 ∀ (U:UEnds) (ρ:List Sl) (d:D) (ρz:List Sl),uz U ρ d ρz→∀ (R:Hp) (W:Addr→Prop) (B H:Hp) (σ:St) (E:Ends),Ev K R W B H σ ρ→Sim K R W B U E →
  ∀ (Bz Hz:Hp) (σz:St) (v:V),Ev K H (frW W σ ρ) Bz Hz σz ρz→σz[i]?=some (some v)→Rep K (newL H Bz) v d→(∀ j,j ∉ I→σz[j]?=σ[j]?)→σz.length=σ.length→t E σz Hz
def PZ3 (X:Cx) (I:List Nat) (i:Nat) (st:List Stmt) (uz:UEnds→List Sl→D→List Sl→Prop):Prop:=∃ t,PSs X st t∧RefZ X.K I i t uz
def zIf (uc:UT) (uz:UEnds→List Sl→D→List Sl→Prop):UEnds→List Sl→D→List Sl→Prop:=fun U ρ d ρz=>uc ρz fun b=>b=false∧uz U ρ d ρz
theorem z_if {c:Expr} {a:List Stmt} {uc:UT} {s:US} (hc:PT3 X c uc) (ha:PSs3 X a s) (hr:PZ3 X I i rest uz):PZ3 X I i (.If c a [] pos :: rest) (zIf uc uz):=by
 obtain ⟨_,h0,r0⟩:=hc; obtain ⟨_,h1,_⟩:=ha; obtain ⟨_,h2,r2⟩:=hr
 refine ⟨_,pss_cons (ps_if h0 h1 pss_nil) h2,fun U ρ d ρz h R W B H σ E e sm Bz Hz σz v ez hv hr hj hl=>?_⟩
 refine r0 ρz _ h _ _ Bz Hz σz _ ez fun b B1 H1 z1 e1 g1=>?_
 obtain ⟨rfl,z⟩:=z1
 rw [if_neg Bool.false_ne_true]
 exact r2 U ρ d ρz z R W B H σ E e sm B1 H1 σz v e1 hv (hr.mono (newL_mono g1.s)) hj hl
def uZ (i:Nat) (u:UE) (uz:UEnds→List Sl→D→List Sl→Prop):US:=fun U ρ=>i < ρ.length∧u (ρ.map fz1) fun d=>uz U ρ d ((ρ.map fz1).set i (.val d))
theorem z_start {x:Str} {pos':Pos} (hI:i∈I) (hN:X.N.Nodup) (hi:X.N[i]?=some x) (hx:Loc X.env.scope x) (he:PD3 X e u) (hr:PZ3 X I i rest uz) (hs:swapsWith e (some (.Name x pos')) pos.line X.env=pure false:=by rfl) (hf:X.fn x=true∨X.env.scope.names.lookup x=some .local:=by first | exact .inl rfl | exact .inr rfl | assumption) :
  PSs3 X (.Assign [.Name x pos'] e pos :: rest) (uZ i u uz):=by
 obtain ⟨_,h1,r1⟩:=he; obtain ⟨_,h2,r2⟩:=hr
 refine ⟨_,pss_cons (ps_set hN hi hx h1 hs hf) h2,fun U ρ h R W B H σ E e sm=>?_⟩
 obtain ⟨hl,h⟩:=h
 refine r1 (ρ.map fz1) _ h H (frW W σ ρ) _ H σ _ e.frame fun d v B1 H1 z1 e1 g1 s1=>?_
 refine r2 U ρ d _ z1 R W B H σ E e sm B1 H1 (σ.set i (some v)) v (e1.setV i (s1.mono newL_sub)) ?_ s1 (fun j hj=>?_) (by rw [List.length_set])
 ·rw [List.getElem?_set_self (by rw [e.len]; exact hl)]
 ·exact List.getElem?_set_ne (fun (z:i=j)=>hj (by rw [← z]; exact hI))
theorem flats_at:∀ {ds:List D} {n:Nat} {d:D},flats ds=true→ds[n]?=some d→flat d=true
 | [],n,d,_,h=>by simp at h
 | x :: r,0,d,f,h=>by rw [flats,Bool.and_eq_true] at f; simp at h; subst h; exact f.1
 | x :: r,n + 1,d,f,h=>by rw [flats,Bool.and_eq_true] at f; exact flats_at (n:=n) f.2 (by simpa using h)
structure Emp (K:PySem.W.Frag) (W:Addr→Prop) (σ:St) (ρ:List Sl) (H N H':Hp):Prop where
 fr:∀ a o,H a=some o→¬ frW W σ ρ a→H' a=some o
 wh:∀ a,frW W σ ρ a→Bag H' a
 tp:∀ a vs,N a=some (.tup vs)→H' a=some (.tup vs)
 ls:∀ a vs,N a=some (.lst vs)→∃ ws,H' a=some (.lst ws)
theorem Emp.clear {W:Addr→Prop} {σ:St} {ρ:List Sl} {H N H':Hp} (m:Emp K W σ ρ H N H') (hb:∀ a,frW W σ ρ a→H a≠none) {b:Addr} {vs:List V} (hN:N b=some (.lst vs)) (hH:H b=none):Emp K W σ ρ H N (upd H' b (.lst [])):=by
 refine ⟨fun a o h nw=>?_,fun a h=>?_,fun a ws h=>?_,fun a ws h=>?_⟩
 ·rw [upd_ne (by rintro rfl; rw [hH] at h; cases h)]; exact m.fr a o h nw
 ·exact (m.wh a h).upd (by rintro rfl; exact hb _ h hH)
 ·rw [upd_ne (by rintro rfl; rw [hN] at h; cases h)]; exact m.tp a ws h
 ·by_cases z:a=b
  ·subst z; exact ⟨[],upd_same⟩
  ·rw [upd_ne z]; exact m.ls a ws h
theorem Emp.start {R:Hp} {W:Addr→Prop} {B H Bz Hz:Hp} {σ σz:St} {ρ ρz:List Sl} (e:Ev K R W B H σ ρ) (ez:Ev K H (frW W σ ρ) Bz Hz σz ρz):Emp K W σ ρ H (newL H Bz) Hz∧∀ a,frW W σ ρ a→H a≠none :=
 ⟨⟨ez.fr,ez.wh,fun a vs h=>ez.bh a _ (newL_sub a _ h),fun a vs h=>⟨vs,ez.bh a _ (newL_sub a _ h)⟩⟩,ez.wr⟩
end
end L3
namespace L3
open PySem L2
section
variable {K:PySem.W.Frag} {X:Cx} {e:Expr} {es:List Expr} {u:UE} {w:UL} {pos p:Pos} {i:Nat} {rest:List Stmt}
end
end L3
namespace L2
open PySem PySem.Spec PyProof.Rows PySem.W
section
variable {X:Cx} {e st:Expr} {te ts:TE} {p2 pos:Pos}
end
end L2
namespace L3
open PySem L2
section
variable {X:Cx} {e st:Expr} {u us:UE} {p2 pos p:Pos} {F:FS} {a0:Expr}
end
end L3
namespace L3
open PySem L2
section
variable {X:Cx} {a b:Expr} {ua ub:UE} {pos:Pos}
def itsK:D→Option (List D)
 | .tup ds=>some ds
 | .lst ds=>some ds
 | .ktup ds=>some ds
 | _=>none
def rIxA (K:PySem.W.Frag):R2:=fun x y H Q=>∃ p xs i v,x=.ref p∧y=.int i∧(SqT K H p xs∨SqL K H p xs)∧atI xs i=some v∧Q v H
theorem ix_all:IxR X (rIxA X.K):=by
 intro value slice pins s σ H x y v u Q I rx ry h hs
 obtain ⟨p,xs,i,z,e1,e2,hq,he,q⟩:=h
 rcases hq with hq | hq
 ·exact ix_tup value slice pins s σ H x y v u Q I rx ry ⟨p,xs,i,z,e1,e2,hq,he,q⟩ hs
 ·exact ix_list value slice pins s σ H x y v u Q I rx ry ⟨p,xs,i,z,e1,e2,hq,he,q⟩ hs
def uIxA (ua ub:UE):UE:=fun ρ k=>ua ρ fun x=>ub ρ fun y=>∃ ds i d,itsK x=some ds∧y=.int i∧atI ds i=some d∧k d
theorem e_ixA (ha:PE3 X a ua) (hb:PE3 X b ub) (hs:PlainIx b):PE3 X (.Subscript a b pos) (uIxA ua ub):=by
 obtain ⟨_,h1,r1⟩:=ha; obtain ⟨_,h2,r2⟩:=hb
 refine ⟨_,pe_ix ix_all h1 h2 hs,ref2 r1 r2 fun x y k h R W B H σ ρ v w' Q e rx ry q=>?_⟩
 obtain ⟨ds,i,d,hx,rfl,ha,hk⟩:=h
 cases rx with
 | tup hp rp =>
  cases hx
  obtain ⟨z,hz,rz⟩:=atI_reps rp ha
  exact ⟨_,_,i,z,rfl,ry.intV,.inl (SqT.of (e.bh _ _ hp)),hz,q d z B H hk e (Grow.refl _ _) rz⟩
 | lst hp rp =>
  cases hx
  obtain ⟨z,hz,rz⟩:=atI_reps rp ha
  exact ⟨_,_,i,z,rfl,ry.intV,.inr (SqL.of (e.bh _ _ hp)),hz,q d z B H hk e (Grow.refl _ _) rz⟩
 | ktup hp rp =>
  cases hx
  obtain ⟨z,hz,rz⟩:=atI_reps rp ha
  exact ⟨_,_,i,z,rfl,ry.intV,.inl (sameT e.bh hp),hz,q d z B H hk e (Grow.refl _ _) rz⟩
 | _=>cases hx
structure GTup (K:PySem.W.Frag) (mg:Str→Option Value) (x:Str) (ns:List Int):Prop where
 ex:∃ p:Addr,mg x=some (.ref p)∧∀ H:Hp,SqT K H p (ns.map V.int)
theorem e_glb {x:Str} {ns:List Int} (g:GTup X.K X.mg x ns) (hg:Gl X x) (hd:(x == ("__debug__" : Str))=false:=by decide):PE3 X (.Name x pos) (uC (.ktup (ns.map D.int))):=by
 obtain ⟨p,hm,hs⟩:=g.ex
 refine ⟨_,pe_glob (v:=.ref p) hg hm rfl hd,fun ρ k h R W B H σ Q e q=>?_⟩
 exact q _ _ B H h e (Grow.refl _ _) (.ktup (hs B) (Reps.ints ns))
theorem gtup_mk {K:PySem.W.Frag} {mg:Str→Option Value} {x:Str} {p:Addr} {i j:Int} {ti tj:Tok} {od:Option Addr} {sl:Array (Option Value)} {n:Nat} (hm:mg x=some (.ref p)) (hl:K.lookup p=some ⟨.type "tuple", od,.seq #[.int i ti,.int j tj] n,sl⟩):GTup K mg x [i,j] :=
 ⟨p,hm,fun H=>.inr ⟨_,_,_,hl,rfl,rfl,by show 2≤sizeLine; decide,.cons ⟨_,rfl⟩ (.cons ⟨_,rfl⟩ .nil)⟩⟩
end
end L3
namespace L3
open PySem PySem.W L2
def allK (h:Heap):Frag:=(List.range h.objs.size).filterMap fun a=>(h.get? a).map fun o=>(a,o)
theorem lookup_pairs (g:Nat→Option Obj) (a:Nat):∀ l:List Nat,(l.filterMap fun b=>(g b).map fun o=>(b,o)).lookup a=if a∈l then g a else none
 | []=>rfl
 | b :: l=>by
  have ih:=lookup_pairs g a l
  cases q:g b with
  | none =>
   rw [List.filterMap_cons_none (by rw [q]; rfl),ih]
   by_cases e:a=b
   ·subst e; rw [q]; simp
   ·simp [e]
  | some o =>
   rw [List.filterMap_cons_some (b:=(b,o)) (by rw [q]; rfl),List.lookup_cons]
   by_cases e:a=b
   ·subst e; simp [q]
   ·have:(a == b)=false:=by simpa using e
    simp only [this,ih,List.mem_cons,e,false_or]
theorem allK_at (h:Heap) (a:Addr):(allK h).lookup a=h.get? a:=by
 refine (lookup_pairs h.get? a _).trans ?_
 by_cases e:a < h.objs.size
 ·rw [if_pos (List.mem_range.mpr e)]
 ·rw [if_neg (fun z=>e (List.mem_range.mp z))]
  exact (Heap.get?_none_of_le (Nat.le_of_not_lt e)).symm
theorem allK_in (h:Heap):Frag.In (allK h) h:=fun a o e=>by rw [allK_at] at e; exact e
theorem nsH_is (h:Heap) (name:Str):nsIn (allK h) mainGlobals name=nsH h name:=by unfold nsIn nsH; rw [allK_at]; rfl
theorem cdH_is (h:Heap) (cd:Value) (q:Str):codeIn (allK h) cd q=cdH h cd q:=by
 unfold codeIn cdH
 cases cd <;> first | rfl | (simp only [allK_at]; rfl)
def FunOf (K:Frag) (x:Str) (st:Stmt):Prop:=∃ f fd,nsIn K mainGlobals x=some (some (.ref f))∧Fun K x x st f fd
theorem dueF_is (x:Str) (st:Stmt):dueF x st=some (x,x,defArgs st,.stmts (defBody st),defScope st,mainGlobals,[],.none,builtinsNs,true):=by cases st <;> rfl
theorem seeF_ok {h:Heap} {x:Str} {st:Stmt} (e:seeF h x=dueF x st):FunOf (allK h) x st:=by
 unfold seeF at e
 split at e
 ·rename_i f hf
  split at e
  ·rename_i oc od fd osl ho
   obtain ⟨nm,qn,ps,bd,sc,gl,cl,df,kd,doc,pm,an,cdv,ct,bu⟩:=fd
   rw [dueF_is] at e
   simp only [Option.some.injEq,Prod.mk.injEq] at e
   obtain ⟨rfl,rfl,rfl,rfl,rfl,rfl,rfl,rfl,rfl,e⟩:=e
   refine ⟨f,_,by rw [nsH_is]; exact hf,fun_mk (oc:=oc) (od:=od) (osl:=osl) (kV:=kd) (doc:=doc) (pm:=pm) (an:=an) (cdv:=cdv) (ct:=ct) (by rw [allK_at]; exact ho) (by rw [cdH_is]; exact e) ?_⟩
   unfold keepIn
   simp only [allK_at,ho]
  ·rw [dueF_is] at e; cases e
 ·rw [dueF_is] at e; cases e
def AllF (K:Frag):List (Str×Stmt)→Prop
 | []=>True
 | p :: l=>FunOf K p.1 p.2∧AllF K l
def AllB (K:Frag):List Str→Prop
 | []=>True
 | b :: l=>nsIn K mainGlobals b=some none∧AllB K l
def TupOf (K:Frag) (x:Str) (i j:Int):Prop:=∃ p od sl n ti tj,nsIn K mainGlobals x=some (some (.ref p))∧K.lookup p=some ⟨.type "tuple", od,.seq #[.int i ti,.int j tj] n,sl⟩
def AllT (K:Frag):List (Str×Int×Int)→Prop
 | []=>True
 | p :: l=>TupOf K p.1 p.2.1 p.2.2∧AllT K l
def ConOf (K:Frag) (x:Str) (c:Int ⊕ Str):Prop:=match c with
 | .inl i=>∃ t,nsIn K mainGlobals x=some (some (.int i t))
 | .inr s=>∃ t,nsIn K mainGlobals x=some (some (.str s t))
def AllC (K:Frag):List (Str×(Int ⊕ Str))→Prop
 | []=>True
 | p :: l=>ConOf K p.1 p.2∧AllC K l
structure Tab (t:Tabs) (K:Frag):Prop where
 tf:AllF K t.fs
 tb:AllB K t.bs
 tt:AllT K t.ts
 tc:AllC K t.cs
def saysH (t:Tabs) (_:World) (h:Heap):Prop:=∃ K:Frag,K.In h∧Tab t K
theorem allF_of {h:Heap}:∀ {l:List (Str×Stmt)},(l.map fun p=>seeF h p.1)=(l.map fun p=>dueF p.1 p.2)→AllF (allK h) l
 | [],_=>trivial
 | p :: l,e=>by
  simp only [List.map_cons,List.cons.injEq] at e
  exact ⟨seeF_ok e.1,allF_of e.2⟩
theorem allB_of {h:Heap}:∀ {l:List Str},(l.map fun b=>nsH h b)=(l.map fun _=>some none)→AllB (allK h) l
 | [],_=>trivial
 | p :: l,e=>by
  simp only [List.map_cons,List.cons.injEq] at e
  exact ⟨by rw [nsH_is]; exact e.1,allB_of e.2⟩
theorem seeT_ok {h:Heap} {x:Str} {i j:Int} (e:seeT h x=some (x,i,j)):TupOf (allK h) x i j:=by
 unfold seeT at e
 split at e
 ·rename_i p hp
  split at e
  ·rename_i od its n sl ho
   split at e
   ·rename_i i' ti j' tj hi
    simp only [Option.some.injEq,Prod.mk.injEq] at e
    obtain ⟨_,rfl,rfl⟩:=e
    have ea:its = #[.int i' ti,.int j' tj]:=Array.toList_inj.mp hi
    subst ea
    exact ⟨p,od,sl,n,ti,tj,by rw [nsH_is]; exact hp,by rw [allK_at]; exact ho⟩
   ·cases e
  ·cases e
 ·cases e
theorem allT_of {h:Heap}:∀ {l:List (Str×Int×Int)},(l.map fun p=>seeT h p.1)=(l.map fun p=>some p)→AllT (allK h) l
 | [],_=>trivial
 | p :: l,e=>by
  simp only [List.map_cons,List.cons.injEq] at e
  exact ⟨seeT_ok e.1,allT_of e.2⟩
theorem seeC_ok {h:Heap} {x:Str} {c:Int ⊕ Str} (e:seeC h x=some (x,c)):ConOf (allK h) x c:=by
 unfold seeC at e
 split at e
 ·rename_i i t hp
  simp only [Option.some.injEq,Prod.mk.injEq] at e
  obtain ⟨_,rfl⟩:=e
  exact ⟨t,by rw [nsH_is]; exact hp⟩
 ·rename_i i t hp
  simp only [Option.some.injEq,Prod.mk.injEq] at e
  obtain ⟨_,rfl⟩:=e
  exact ⟨t,by rw [nsH_is]; exact hp⟩
 ·cases e
theorem allC_of {h:Heap}:∀ {l:List (Str×(Int ⊕ Str))},(l.map fun p=>seeC h p.1)=(l.map fun p=>some p)→AllC (allK h) l
 | [],_=>trivial
 | p :: l,e=>by
  simp only [List.map_cons,List.cons.injEq] at e
  exact ⟨seeC_ok e.1,allC_of e.2⟩
theorem ofH (t:Tabs) (w:World) (s:Shared) (e:obsH t s=valH t w):saysH t w s.heap:=by
 simp only [obsH,valH,Prod.mk.injEq] at e
 exact ⟨allK s.heap,allK_in _,allF_of e.1,allB_of e.2.1,allT_of e.2.2.1,allC_of e.2.2.2⟩
theorem keepsH (t:Tabs) (w:World) (h h':Heap) (y:saysH t w h) (k:∀ b o,h.get? b=some o→h'.get? b=some o):saysH t w h':=by
 obtain ⟨K,x,r⟩:=y
 exact ⟨K,x.keeps k,r⟩
theorem FunOf.fnd {K:Frag} {h:Heap} {mg:Str→Option Value} {x:Str} {st:Stmt} {ps:List Str} (X:K.In h) (G:h.Ns mainGlobals mg) (F:FunOf K x st) (b:∀ f fd,Fun K x x st f fd→Binds K fd ps []):Fnd K mg x st ps:=by
 obtain ⟨f,fd,m,F⟩:=F
 exact ⟨f,fd,mg_of X G m,F,b f fd F⟩
theorem TupOf.gtup {K:Frag} {h:Heap} {mg:Str→Option Value} {x:Str} {i j:Int} (X:K.In h) (G:h.Ns mainGlobals mg) (F:TupOf K x i j):GTup K mg x [i,j]:=by
 obtain ⟨p,od,sl,n,ti,tj,m,l⟩:=F
 exact gtup_mk (mg_of X G m) l
theorem walkH {l:OpenLaw} {k:Nat} {q:Program} {loose:List Str} {XP:(Str→Option Value)→Heap→Prop} {t:Tabs} {d:DefRec} (hn:l.most=some 63) (hdf:d.params.defaults=[]) (hr:Room k callerA)
  (F:∀ (w:World) (K:Frag) (mg:Str→Option Value) (fa:Addr) (h:Heap),Tab t K→K.In h→h.Ns mainGlobals mg→mg d.name=some (.ref fa) →
   ∃ fd:FuncData,(∀ (s:Shared) (u:Value),BindsTo s fd ⟨[u],[]⟩ [("_law_script", u)])∧∀ base:Heap,K.In base→base.Ns mainGlobals mg→FnOk l.prog w K mg base CX0 k fa fd ["_law_script"] (spLaw K)) :
  WalkO q loose XP (saysH t) l.row.toRowW d [] (fun f vs=>PySem.call f vs):=by
 refine Att.attach_call hn hdf fun w s₀ s₁ mg mb fa o pm cd doc a vs ns G Y ho hd hcd hmg hobj hints hlen hg=>?_
 obtain ⟨K,KX,T⟩:=Y
 obtain ⟨fd,hb,hF⟩:=F w K mg fa _ T KX G.T.g hmg
 exact law_call KX G.T.g G.T.b G.T.builtins G.T.nolimit hg hobj hints (Nat.le_trans hlen (by decide)) hr hF hb (fun H hO hS=>⟨a,ns,rfl,hS,hlen,fun _=>rfl⟩) fun H e s' z=>z
end L3
namespace L2
open PySem PySem.Spec PyProof.Rows PySem.W
section
variable {prog:Program} {w:World} {A:Around} {E:Value→Shared→Prop} {s:Shared}
theorem wpAny_draw_list {it t:Addr} {items:Array Value} (hne:t≠it):∀ (n i:Nat) (s:Shared) (Q:List Value→Shared→Prop),s.heap.IsListIter it t i→s.heap.IsList t items→i + n≤items.size →
  (∀ h',h'.IsListIter it t (i + n)→Heap.SameBut it s.heap h'→Q ((items.toList.drop i).take n) { s with heap:=h' })→wpAny (model prog w) A (draw (.ref it) n) Q E s
 | 0,i,s,Q,hit,_,_,hQ=>by
  show wpAny _ _ (pure []) Q E s
  exact wpAny_pure (by simpa using hQ s.heap hit (Heap.SameBut.refl ..))
 | n + 1,i,s,Q,hit,ht,hle,hQ=>by
  have hlt:i < items.size:=by omega
  show wpAny _ _ (pyNext (.ref it) >>= _) Q E s
  refine wpAny_bind (wpAny_pyNext_list_item hit ht (x:=items[i]) (by simp [hlt]) fun h₁ hit₁ hs₁=>?_)
  refine wpAny_bind (wpAny_holding (wpAny_draw_list hne n (i + 1) _ _ hit₁ (ht.extBut hs₁.extBut hne) (by omega) fun h₂ hit₂ hs₂=>wpAny_pure ?_))
  have hd:items.toList.drop i=items[i] :: items.toList.drop (i + 1):=by simp [List.drop_eq_getElem_cons,hlt]
  have:=hQ h₂ (by rw [show i + (n + 1)=i + 1 + n by omega]; exact hit₂) (hs₁.trans hs₂)
  rw [hd,List.take_succ_cons] at this
  exact this
theorem unpackItems_list {t:Addr} {items:Array Value} {Q:List Value→Shared→Prop} (hh:A.handled=none) (ht:s.heap.IsList t items)
  (hQ:∀ h',Heap.ExtBut s.heap.objs.size s.heap h'→Q items.toList { s with heap:=h' }):wpAny (model prog w) A (unpackItems (.ref t) items.size none) Q E s:=by
 have hlt:t≠s.heap.objs.size:=by obtain ⟨o,ho,_⟩:=ht; exact Nat.ne_of_lt (Heap.lt_size ho)
 unfold unpackItems
 refine wpAny_bind ?_
 ·unfold notIterableAtAll
  refine wpAny_bind (wpAny_specialOf ht.typeIs F.slot_list_iter.lookup ?_)
  refine wpAny_pure ?_
  simp only [Bool.false_eq_true,if_false]
  refine wpAny_bind (wpAny_holding (wpAny_pyIter_list ht ?_))
  refine wpAny_bind (wpAny_holding (wpAny_draw_list hlt items.size 0 _ _ ⟨_,Heap.get?_push_size _ rfl,rfl,rfl⟩ (ht.push _) (by omega) fun h₁ hit₁ hs₁=>?_))
  have hall:List.take items.size (List.drop 0 items.toList)=items.toList:=by
   rw [List.drop_zero]; exact List.take_of_length_le (by simp)
  rw [hall]
  rw [if_neg (by simp)]
  have ht₁:h₁.IsList t items:=(ht.push _).extBut hs₁.extBut hlt
  refine wpAny_bind (wpAny_holding (wpAny_pyNext_list_end hh hit₁ ht₁ (by simp) fun h₂ he₂=>?_))
  simp only [Option.isSome_none,Bool.false_eq_true,if_false]
  refine wpAny_pure (hQ h₂ fun b o hb e=>he₂ b o hb (hs₁.extBut b o hb (Heap.get?_push_of_some _ e)))
theorem assign_Tuple_list {env:PySem.Env} {elts:List Expr} {x1} {pos:Pos} {t:Addr} {items:Array Value} {Q:Unit→Shared→Prop} (hh:A.handled=none) (ht:s.heap.IsList t items)
  (hn:(assignEach elts env).length=items.size) (hstar:(assignEach elts env).findIdx? (·.1)=none)
  (h:∀ h',Heap.ExtBut s.heap.objs.size s.heap h'→wpAny (model prog w) A (assignInOrder ((assignEach elts env).map (·.2)) items.toList) Q E { s with heap:=h' }) :
  wpAny (model prog w) A (assign (.Tuple elts x1 pos) env (.ref t)) Q E s:=by
 rw [arm_assign_Tuple]
 refine wpAny_bind (wpAny_standAt ?_)
 unfold unpack
 rw [hn,hstar]
 exact wpAny_bind (wpAny_holding (unpackItems_list hh ht h))
end
section
variable {X:Cx} {pos:Pos}
def gLst (K:PySem.W.Frag) (n:Nat) (t:TGs):TG:=fun v σ H Q=>∃ a xs,v=.ref a∧SqL K H a xs∧xs.length=n∧t xs σ H Q
theorem pg_lst {es:List Expr} {k:Nat} {t:TGs} {n:Nat} (hc:X.calm=true) (h:PGs X es t)
  (hn:(assignEach es X.env).length=n:=by rfl) (hst:(assignEach es X.env).findIdx? (·.1)=none:=by rfl):PG X (.Tuple es k pos) (gLst X.K n t):=by
 intro pins s σ H v u Q I r hw
 obtain ⟨a,xs,e1,hq,hl,hw⟩:=hw
 subst e1
 cases r
 obtain ⟨its,rv,ht,hz⟩:=I.list hq
 refine assign_Tuple_list (I.ok.hd hc) ht.isList (by simp [hn,← hl,rv.length]) hst fun h' hx=>?_
 have I1:Inv X pins σ H { s with heap:=h' }:=I.kept (t':=s.toks) fun b o e=>hx b o (Nat.ne_of_lt (Heap.lt_size e)) e
 exact h pins _ σ H xs _ Q I1 (by simpa using rv) hw
end
end L2
namespace L3
open PySem L2
section
variable {X:Cx} {es:List Expr} {pos:Pos}
def ugLst (n:Nat) (gs:UGs):UG:=fun d ρ k=>∃ ds,d=.lst ds∧ds.length=n∧gs ds ρ k
theorem g_lst {k0:Nat} {gs:UGs} {n:Nat} (hc:X.calm=true) (h:PGs3 X es gs) (hn:(assignEach es X.env).length=n:=by rfl) (hst:(assignEach es X.env).findIdx? (·.1)=none:=by rfl):PG3 X (.Tuple es k0 pos) (ugLst n gs):=by
 obtain ⟨_,h1,r1⟩:=h
 refine ⟨_,pg_lst hc h1 hn hst,fun d ρ k h R W B H σ v Q e r q=>?_⟩
 obtain ⟨ds,rfl,hl,h⟩:=h
 obtain ⟨a,vs,rfl,ha,rs⟩:=r.lstV
 exact ⟨a,vs,rfl,SqL.of (e.bh _ _ ha),by rw [rs.length]; exact hl,r1 ds ρ k h R W B H σ vs Q e rs q⟩
end
end L3
namespace Cut
open PySem L2 L3
open PySem.Builtin.Int (intBits)
def sld (g p:P3):P3:=(p.1 * g.2.2 + g.1 * p.2.2,p.2.1 * g.2.2 + g.2.1 * p.2.2,p.2.2 * g.2.2)
def trn (p:P3):P3:=(-p.1,-p.2.1,p.2.2)
def mt4 (p q r s:P3):P3:=crs (crs p q) (crs r s)
def det3 (p q r:P3):Int:=(crs p q).1 * r.1 + (crs p q).2.1 * r.2.1 + (crs p q).2.2 * r.2.2
def sg (x:Int):Int:=if 0 < x then 1 else if x < 0 then -1 else 0
theorem sg_eq {x y c d:Int} (hc:0 < c) (hd:0 < d) (h:c * x=d * y):sg x=sg y:=by
 have pos:0 < x↔0 < y:=by
  constructor
  ·intro hx
   have:=Int.mul_pos hc hx
   rw [h] at this
   exact Int.pos_of_mul_pos_right this hd
  ·intro hy
   have:=Int.mul_pos hd hy
   rw [← h] at this
   exact Int.pos_of_mul_pos_right this hc
 have zer:x=0↔y=0:=by
  constructor
  ·intro hx
   rw [hx,Int.mul_zero] at h
   exact (Int.mul_eq_zero.mp h.symm).resolve_left (Int.ne_of_gt hd)
  ·intro hy
   rw [hy,Int.mul_zero] at h
   exact (Int.mul_eq_zero.mp h).resolve_left (Int.ne_of_gt hc)
 unfold sg
 by_cases h1:0 < x
 ·rw [if_pos h1,if_pos (pos.mp h1)]
 ·rw [if_neg h1,if_neg (fun z=>h1 (pos.mpr z))]
  by_cases h2:x=0
  ·rw [if_neg (by omega),if_neg (by have:=zer.mp h2; omega)]
  ·have:y≠0:=fun z=>h2 (zer.mpr z)
   have:¬ 0 < y:=fun z=>h1 (pos.mpr z)
   rw [if_pos (by omega),if_pos (by omega)]
structure Lin (L:P3→P3):Prop where
 hom:∀ c p,L (sc c p)=sc c (L p)
 z:∃ k,0 < k∧∀ p,(L p).2.2=k * p.2.2
 mt:∃ d,d≠0∧∀ p q r s,mt4 (L p) (L q) (L r) (L s)=sc d (L (mt4 p q r s))
 dt:∃ d,0 < d∧∀ p q r,det3 (L p) (L q) (L r)=d * det3 p q r
def cs (g c:P3):P3:=(g.2.2 * c.1,g.2.2 * c.2.1,g.2.2 * c.2.2 - g.1 * c.1 - g.2.1 * c.2.1)
theorem crs_sld (g p q:P3):crs (sld g p) (sld g q)=sc g.2.2 (cs g (crs p q)):=by
 refine p3_ext ?_ ?_ ?_ <;> simp only [crs,sc,sld,cs] <;> grind
theorem crs_cs (g u v:P3):crs (cs g u) (cs g v)=sc g.2.2 (sld g (crs u v)):=by
 refine p3_ext ?_ ?_ ?_ <;> simp only [crs,sc,sld,cs] <;> grind
theorem lin_sld {g:P3} (hg:0 < g.2.2):Lin (sld g):=by
 have g0:=Int.ne_of_gt hg
 refine ⟨fun c p=>by refine p3_ext ?_ ?_ ?_ <;> simp only [sc,sld] <;> grind,⟨g.2.2,hg,fun p=>by simp only [sld]; grind⟩,⟨g.2.2 * g.2.2 * g.2.2,Int.mul_ne_zero (Int.mul_ne_zero g0 g0) g0,fun p q r s=>?_⟩,⟨g.2.2 * g.2.2 * g.2.2,Int.mul_pos (Int.mul_pos hg hg) hg,fun p q r=>?_⟩⟩
 ·unfold mt4
  rw [crs_sld,crs_sld,crs_sc,crs_cs,sc_sc]
 ·unfold det3
  rw [crs_sld]
  generalize crs p q=c
  simp only [sc,cs,sld]
  grind
theorem Lin.low {L:P3→P3} (l:Lin L) {p:P3} (hp:0 < p.2.2):0 < (L p).2.2∧∃ k,0 < k∧L p=sc k (nP (L p)):=by
 obtain ⟨k,k0,e⟩:=l.z
 have pos:0 < (L p).2.2:=by rw [e]; exact Int.mul_pos k0 hp
 obtain ⟨g,g0,eg⟩:=nP_sc (Int.ne_of_gt pos)
 have n0:=(nP_pt (Int.ne_of_gt pos)).1
 refine ⟨pos,g,?_,eg⟩
 have e3:(L p).2.2=g * (nP (L p)).2.2:=congrArg (fun p:P3=>p.2.2) eg
 rw [e3] at pos
 exact Int.pos_of_mul_pos_left pos n0
theorem det3_sc (a b c:Int) (p q r:P3):det3 (sc a p) (sc b q) (sc c r)=a * b * c * det3 p q r:=by
 simp only [det3,crs_sc]
 generalize crs p q=u
 simp only [sc]
 grind
theorem Lin.side {L:P3→P3} (l:Lin L) {p q r:P3} (hp:0 < p.2.2) (hq:0 < q.2.2) (hr:0 < r.2.2):sg (det3 (nP (L p)) (nP (L q)) (nP (L r)))=sg (det3 p q r):=by
 obtain ⟨_,a,a0,ea⟩:=l.low hp
 obtain ⟨_,b,b0,eb⟩:=l.low hq
 obtain ⟨_,c,c0,ec⟩:=l.low hr
 obtain ⟨d,d0,ed⟩:=l.dt
 refine sg_eq (Int.mul_pos (Int.mul_pos a0 b0) c0) d0 ?_
 rw [← det3_sc,← ea,← eb,← ec,ed]
end Cut
namespace Cut
open PySem L2 L3
open PySem.Builtin.Int (intBits)
theorem cop_of {a b:Int} (h:∀ k:Int,k ∣ a→k ∣ b→k ∣ 1):Int.gcd a b=1:=by
 have q:=Int.natAbs_dvd_natAbs.mpr (h _ (Int.gcd_dvd_left a b) (Int.gcd_dvd_right a b))
 simpa using q
theorem cop_out {a b k:Int} (g:Int.gcd a b=1) (h1:k ∣ a) (h2:k ∣ b):k ∣ 1:=by
 have:=Int.dvd_coe_gcd h1 h2
 rw [g] at this
 exact this
theorem dvd_co' {k n m:Int} (h:k ∣ n * m) (g:Int.gcd k m=1):k ∣ n:=dvd_co (by rw [Int.mul_comm]; exact h) g
theorem cop_sub {a b k:Int} (g:Int.gcd a b=1) (h:k ∣ a):Int.gcd k b=1:=cop_of fun j h1 h2=>cop_out g (Int.dvd_trans h1 h) h2
theorem nrat_eq {x y t b:Int} (l:Low x y) (hb:b≠0) (e:x * b=t * y):nrat t b=(x,y):=by
 rw [← nrat_low l]
 exact nrat_cross hb (Int.ne_of_gt l.1) e.symm
theorem npt_eq {x y z a b n:Int} (p:Pt x y z) (hn:n≠0) (e1:x * n=a * z) (e2:y * n=b * z):npt a b n=(x,y,z):=by
 obtain ⟨q,f1,f2,_⟩:=npt_spec (a:=a) (b:=b) hn
 obtain ⟨h1,h2,h3⟩:=pt_uniq q p (Int.eq_of_mul_eq_mul_right hn (by grind)) (Int.eq_of_mul_eq_mul_right hn (by grind))
 exact Prod.ext h1 (Prod.ext h2 h3)
theorem gcd_parts {a b:Int} (h:a≠0∨b≠0):∃ x y:Int,a=((Int.gcd a b:Nat):Int) * x∧b=((Int.gcd a b:Nat):Int) * y∧Int.gcd x y=1:=by
 obtain ⟨x,hx⟩:=Int.gcd_dvd_left a b
 obtain ⟨y,hy⟩:=Int.gcd_dvd_right a b
 refine ⟨x,y,hx,hy,?_⟩
 have pos:0 < Int.gcd a b:=by
  rcases h with h | h
  ·exact Int.gcd_pos_of_ne_zero_left b h
  ·exact Int.gcd_pos_of_ne_zero_right a h
 have q:Int.gcd a b=(((Int.gcd a b:Nat):Int)).natAbs * Int.gcd x y:=gcd_fac hx hy
 rw [Int.natAbs_natCast] at q
 exact Nat.eq_of_mul_eq_mul_left pos (by omega)
theorem gcd_ne {a b:Int} (h:a≠0∨b≠0):((Int.gcd a b:Nat):Int)≠0:=by
 have pos:0 < Int.gcd a b:=by
  rcases h with h | h
  ·exact Int.gcd_pos_of_ne_zero_left b h
  ·exact Int.gcd_pos_of_ne_zero_right a h
 omega
theorem gcd_pos2 {a b:Int} (h:a≠0∨b≠0):0 < ((Int.gcd a b:Nat):Int):=by
 have:=gcd_ne h
 omega
theorem pos_r {s y:Int} (s0:0 < s) (h:0 < s * y):0 < y:=Int.pos_of_mul_pos_right h s0
theorem sum_cop {x y u k Y V:Int} (g:Int.gcd x y=1) (hy:Y ∣ y) (gY:Int.gcd Y V=1) (h1:k ∣ x * V + u * Y) (h2:k ∣ Y):k ∣ 1:=by
 have h3:k ∣ x * V:=by
  have:=Int.dvd_sub h1 (Int.dvd_mul_of_dvd_right h2 (b:=u))
  simpa using this
 exact cop_out g (dvd_co' h3 (cop_sub gY h2)) (Int.dvd_trans h2 hy)
theorem plus_low {x y u v:Int} (l1:Low x y) (l2:Low u v) {s top d:Int} (hs:s=(Int.gcd y v:Nat)) (ht:top=x * v.fdiv s + u * y.fdiv s) (hd:d=(Int.gcd s top:Nat)) :
  (top.fdiv d,y.fdiv s * v.fdiv d)=nrat (x * v + u * y) (y * v):=by
 obtain ⟨y0,g1⟩:=l1
 obtain ⟨v0,g2⟩:=l2
 obtain ⟨Y,V,hY,hV,gYV⟩:=gcd_parts (a:=y) (b:=v) (.inl (Int.ne_of_gt y0))
 have s0:0 < s:=by rw [hs]; exact gcd_pos2 (.inl (Int.ne_of_gt y0))
 rw [← hs] at hY hV
 have s1:=Int.ne_of_gt s0
 rw [fdiv_of hV s1,fdiv_of hY s1] at ht
 obtain ⟨S,T,hS,hT,gST⟩:=gcd_parts (a:=s) (b:=top) (.inl s1)
 have d0:0 < d:=by rw [hd]; exact gcd_pos2 (.inl s1)
 rw [← hd] at hS hT
 have d1:=Int.ne_of_gt d0
 have hv2:v=d * (S * V):=by rw [hV,hS,Int.mul_assoc]
 rw [fdiv_of hT d1,fdiv_of hY s1,fdiv_of hv2 d1]
 have Y0:0 < Y:=pos_r s0 (by omega)
 have V0:0 < V:=pos_r s0 (by omega)
 have S0:0 < S:=pos_r d0 (by omega)
 refine (nrat_eq ⟨Int.mul_pos Y0 (Int.mul_pos S0 V0),?_⟩ (Int.ne_of_gt (Int.mul_pos y0 v0)) ?_).symm
 ·refine cop_of fun k h1 h2=>?_
  have kt:k ∣ top:=by rw [hT]; exact Int.dvd_mul_of_dvd_right h1
  have c1:Int.gcd k Y=1:=cop_of fun j j1 j2=>sum_cop g1 ⟨s,by rw [hY,Int.mul_comm]⟩ gYV (by rw [← ht]; exact Int.dvd_trans j1 kt) j2
  have c2:Int.gcd k V=1:=cop_of fun j j1 j2=>sum_cop (x:=u) (u:=x) (Y:=V) (V:=Y) g2 ⟨s,by rw [hV,Int.mul_comm]⟩ (by rw [Int.gcd_comm]; exact gYV) (by rw [Int.add_comm,← ht]; exact Int.dvd_trans j1 kt) j2
  exact cop_out gST (dvd_co' (dvd_co h2 c1) c2) h1
 ·grind
theorem times_low {x y u v:Int} (l1:Low x y) (l2:Low u v) :
  (x.fdiv ((Int.gcd x v:Nat):Int) * u.fdiv ((Int.gcd u y:Nat):Int),y.fdiv ((Int.gcd u y:Nat):Int) * v.fdiv ((Int.gcd x v:Nat):Int))=nrat (x * u) (y * v):=by
 obtain ⟨y0,g1⟩:=l1
 obtain ⟨v0,g2⟩:=l2
 obtain ⟨X,V,hX,hV,gXV⟩:=gcd_parts (a:=x) (b:=v) (.inr (Int.ne_of_gt v0))
 obtain ⟨U,Y,hU,hY,gUY⟩:=gcd_parts (a:=u) (b:=y) (.inr (Int.ne_of_gt y0))
 have f0:=gcd_pos2 (a:=x) (b:=v) (.inr (Int.ne_of_gt v0))
 have h0:=gcd_pos2 (a:=u) (b:=y) (.inr (Int.ne_of_gt y0))
 generalize ((Int.gcd x v:Nat):Int)=f at *
 generalize ((Int.gcd u y:Nat):Int)=h at *
 rw [fdiv_of hX (Int.ne_of_gt f0),fdiv_of hV (Int.ne_of_gt f0),fdiv_of hU (Int.ne_of_gt h0),fdiv_of hY (Int.ne_of_gt h0)]
 have Y0:0 < Y:=pos_r h0 (by omega)
 have V0:0 < V:=pos_r f0 (by omega)
 refine (nrat_eq ⟨Int.mul_pos Y0 V0,?_⟩ (Int.ne_of_gt (Int.mul_pos y0 v0)) ?_).symm
 ·refine cop_of fun k k1 k2=>?_
  have gXY:Int.gcd X Y=1:=cop_of fun j j1 j2=>cop_out g1 (by rw [hX]; exact Int.dvd_mul_of_dvd_right j1) (by rw [hY]; exact Int.dvd_mul_of_dvd_right j2)
  have gUV:Int.gcd U V=1:=cop_of fun j j1 j2=>cop_out g2 (by rw [hU]; exact Int.dvd_mul_of_dvd_right j1) (by rw [hV]; exact Int.dvd_mul_of_dvd_right j2)
  have c1:Int.gcd k Y=1:=cop_of fun j j1 j2=>by
   have h3:j ∣ X * U:=Int.dvd_trans j1 k1
   have h4:j ∣ U:=dvd_co h3 (cop_of fun i i1 i2=>cop_out gXY i2 (Int.dvd_trans i1 j2))
   exact cop_out gUY h4 j2
  have h5:k ∣ V:=dvd_co k2 c1
  have h6:k ∣ U:=dvd_co k1 (cop_of fun i i1 i2=>cop_out gXV i2 (Int.dvd_trans i1 h5))
  exact cop_out gUV h6 h5
 ·grind
theorem pt_cop {x y z:Int} (h:∀ k:Int,k ∣ x→k ∣ y→k ∣ z→k ∣ 1):Int.gcd (Int.gcd x y:Nat) z=1 :=
 cop_of fun k h1 h2=>h k (Int.dvd_trans h1 (Int.gcd_dvd_left x y)) (Int.dvd_trans h1 (Int.gcd_dvd_right x y)) h2
theorem pt_out {x y z k:Int} (g:Int.gcd (Int.gcd x y:Nat) z=1) (h1:k ∣ x) (h2:k ∣ y) (h3:k ∣ z):k ∣ 1:=cop_out g (Int.dvd_coe_gcd h1 h2) h3
theorem at_low {x y u v:Int} (l1:Low x y) (l2:Low u v) :
  (x * v.fdiv ((Int.gcd y v:Nat):Int),u * y.fdiv ((Int.gcd y v:Nat):Int),y.fdiv ((Int.gcd y v:Nat):Int) * v)=npt (x * v) (u * y) (y * v):=by
 obtain ⟨y0,g1⟩:=l1
 obtain ⟨v0,g2⟩:=l2
 obtain ⟨Y,V,hY,hV,gYV⟩:=gcd_parts (a:=y) (b:=v) (.inl (Int.ne_of_gt y0))
 have s0:=gcd_pos2 (a:=y) (b:=v) (.inl (Int.ne_of_gt y0))
 generalize ((Int.gcd y v:Nat):Int)=s at *
 rw [fdiv_of hV (Int.ne_of_gt s0),fdiv_of hY (Int.ne_of_gt s0)]
 have Y0:0 < Y:=pos_r s0 (by omega)
 refine (npt_eq ⟨Int.mul_pos Y0 v0,?_⟩ (Int.ne_of_gt (Int.mul_pos y0 v0)) ?_ ?_).symm
 ·refine pt_cop fun k h1 h2 h3=>?_
  have c1:Int.gcd k Y=1:=cop_of fun j j1 j2=>cop_out g1 (dvd_co' (Int.dvd_trans j1 h1) (cop_sub gYV j2)) (by rw [hY]; exact Int.dvd_mul_of_dvd_right j2)
  have c2:Int.gcd k V=1:=cop_of fun j j1 j2=>cop_out g2 (dvd_co' (Int.dvd_trans j1 h2) (cop_sub (by rw [Int.gcd_comm]; exact gYV) j2)) (by rw [hV]; exact Int.dvd_mul_of_dvd_right j2)
  have h4:k ∣ u:=dvd_co' h2 c1
  have h5:k ∣ v:=dvd_co h3 c1
  exact cop_out g2 h4 h5
 ·grind
 ·grind
theorem slid_cop {a b n r w k N M:Int} (g:Int.gcd (Int.gcd a b:Nat) n=1) (hn:N ∣ n) (gN:Int.gcd N M=1) (h1:k ∣ a * M + r * N) (h2:k ∣ b * M + w * N) (h3:k ∣ N):k ∣ 1:=by
 have q1:k ∣ a * M:=by
  have:=Int.dvd_sub h1 (Int.dvd_mul_of_dvd_right h3 (b:=r))
  simpa using this
 have q2:k ∣ b * M:=by
  have:=Int.dvd_sub h2 (Int.dvd_mul_of_dvd_right h3 (b:=w))
  simpa using this
 exact pt_out g (dvd_co' q1 (cop_sub gN h3)) (dvd_co' q2 (cop_sub gN h3)) (Int.dvd_trans h3 hn)
theorem slid_low {a b n r w m : Int} (p1 : Pt a b n) (p2 : Pt r w m) {s X Y d : Int} (hs : s = (Int.gcd n m : Nat)) (hX : X = a * m.fdiv s + r * n.fdiv s) (hYY : Y = b * m.fdiv s + w * n.fdiv s) (hd : d = (Int.gcd ((Int.gcd s X : Nat) : Int) Y : Nat)) :
    (X.fdiv d, Y.fdiv d, n.fdiv s * m.fdiv d) = npt (a * m + r * n) (b * m + w * n) (n * m) := by
  obtain ⟨n0, g1⟩ := p1
  obtain ⟨m0, g2⟩ := p2
  obtain ⟨N, M, hN, hM, gNM⟩ := gcd_parts (a := n) (b := m) (.inl (Int.ne_of_gt n0))
  have s0 : 0 < s := by rw [hs]; exact gcd_pos2 (.inl (Int.ne_of_gt n0))
  rw [← hs] at hN hM
  have s1 := Int.ne_of_gt s0
  rw [fdiv_of hN s1, fdiv_of hM s1] at hX hYY
  obtain ⟨S1, X1, hS1, hX1, gSX⟩ := gcd_parts (a := s) (b := X) (.inl s1)
  have e1 := gcd_ne (a := s) (b := X) (.inl s1)
  obtain ⟨E, Y1, hE, hY1, gEY⟩ := gcd_parts (a := ((Int.gcd s X : Nat) : Int)) (b := Y) (.inl e1)
  have d0 : 0 < d := by rw [hd]; exact gcd_pos2 (.inl e1)
  rw [← hd] at hE hY1
  have d1 := Int.ne_of_gt d0
  have hS : s = d * (E * S1) := by rw [hS1]; conv => lhs; rw [hE]
                                   rw [Int.mul_assoc]
  have hX2 : X = d * (E * X1) := by rw [hX1]; conv => lhs; rw [hE]
                                    rw [Int.mul_assoc]
  have hm2 : m = d * (E * S1 * M) := by rw [hM, hS, Int.mul_assoc]
  rw [fdiv_of hX2 d1, fdiv_of hY1 d1, fdiv_of hN s1, fdiv_of hm2 d1]
  have N0 : 0 < N := pos_r s0 (by omega)
  have M0 : 0 < M := pos_r s0 (by omega)
  have S0 : 0 < E * S1 := pos_r d0 (by omega)
  refine (npt_eq ⟨Int.mul_pos N0 (Int.mul_pos S0 M0), ?_⟩ (Int.ne_of_gt (Int.mul_pos n0 m0)) ?_ ?_).symm
  · refine pt_cop fun k h1 h2 h3 => ?_
    have kX : k ∣ X := by rw [hX2]; exact Int.dvd_mul_of_dvd_right h1
    have kY : k ∣ Y := by rw [hY1]; exact Int.dvd_mul_of_dvd_right h2
    have c1 : Int.gcd k N = 1 := cop_of fun j j1 j2 => slid_cop g1 ⟨s, by rw [hN, Int.mul_comm]⟩ gNM (by rw [← hX]; exact Int.dvd_trans j1 kX) (by rw [← hYY]; exact Int.dvd_trans j1 kY) j2
    have c2 : Int.gcd k M = 1 := cop_of fun j j1 j2 => slid_cop (a := r) (b := w) (n := m) (r := a) (w := b) (N := M) (M := N) g2 ⟨s, by rw [hM, Int.mul_comm]⟩ (by rw [Int.gcd_comm]; exact gNM) (by rw [Int.add_comm, ← hX]; exact Int.dvd_trans j1 kX) (by rw [Int.add_comm, ← hYY]; exact Int.dvd_trans j1 kY) j2
    have h4 : k ∣ E * S1 := dvd_co' (dvd_co h3 c1) c2
    have h5 : k ∣ E := by
      have z := Int.dvd_coe_gcd h4 h1
      rw [Int.gcd_mul_left, gSX, Nat.mul_one] at z
      exact Int.dvd_trans z (Int.natAbs_dvd.mpr (Int.dvd_refl E))
    exact cop_out gEY h5 h2
  · grind
  · grind
end Cut
namespace Cut
open PySem L2 L3
open PySem.Builtin.Int (intBits)
theorem BP.sld {m n:Nat} {g p:P3} (hg:BP m g) (hp:BP n p):BP (n + m + 1) (Cut.sld g p):=by
 refine ⟨?_,?_,?_⟩
 ·exact Nat.le_trans (intBits_add_le (intBits_mul_le hp.a hg.c) (intBits_mul_le hg.a hp.c)) (by omega)
 ·exact Nat.le_trans (intBits_add_le (intBits_mul_le hp.b hg.c) (intBits_mul_le hg.b hp.c)) (by omega)
 ·exact Nat.le_trans (intBits_mul_le hp.c hg.c) (by omega)
theorem BP.trn {m:Nat} {p:P3} (hp:BP m p):BP m (Cut.trn p):=⟨intBits_neg_le hp.a,intBits_neg_le hp.b,hp.c⟩
theorem PtP.trn {p:P3} (h:PtP p):PtP (Cut.trn p):=pt_neg h
theorem sld_ne {g p:P3} (hg:PtP g) (hp:PtP p):(sld g p).2.2≠0:=one_ne hp.1 hg.1
theorem PtP.sld {g p:P3} (hg:PtP g) (hp:PtP p):PtP (nP (Cut.sld g p)):=nP_pt (sld_ne hg hp)
theorem BP.sldN {m n:Nat} {g p:P3} (hg:BP m g) (hp:BP n p) (qg:PtP g) (qp:PtP p):BP (n + m + 1) (Cut.nP (Cut.sld g p)):=(hg.sld hp).nP (sld_ne qg qp)
theorem det3_two (p q:P3):det3 p q q=0:=by unfold det3 crs; grind
end Cut
namespace Cut
open PySem L2 L3
open PySem.Builtin.Int (intBits)
def nth (ps:List P3) (n:Nat):P3:=(ps[n]?).getD (0,0,1)
theorem nth_eq {ps:List P3} {n:Nat} (h:n < ps.length):nth ps n=ps[n]:=by unfold nth; rw [List.getElem?_eq_getElem h]; rfl
theorem nth_map {f:P3→P3} {ps:List P3} {n:Nat} (h:n < ps.length):nth (ps.map f) n=f (nth ps n):=by
 rw [nth_eq h,nth_eq (by rw [List.length_map]; exact h),List.getElem_map]
theorem nth_mem {ps:List P3} {n:Nat} (h:n < ps.length):nth ps n∈ps:=by rw [nth_eq h]; exact List.getElem_mem h
theorem atI_nth {ps:List P3} {n:Nat} (h:n < ps.length):atI (ps.map dP) (n:Int)=some (dP (nth ps n)):=by rw [nth_eq h]; exact atI_map (atI_ofNat h)
def Cvx (ps:List P3):Prop:=3≤ps.length∧∀ k j,k < ps.length→j < ps.length→j≠k→j≠(k + 1) % ps.length→sg (det3 (nth ps k) (nth ps ((k + 1) % ps.length)) (nth ps j))=1
theorem Cvx.map {f:P3→P3} {ps:List P3} (hf:∀ p q r,p∈ps→q∈ps→r∈ps→sg (det3 (f p) (f q) (f r))=sg (det3 p q r)) (h:Cvx ps):Cvx (ps.map f):=by
 refine ⟨by rw [List.length_map]; exact h.1,fun k j hk hj h1 h2=>?_⟩
 rw [List.length_map] at hk hj h2 ⊢
 have hk2:(k + 1) % ps.length < ps.length:=Nat.mod_lt _ (by omega)
 rw [nth_map hk,nth_map hj,nth_map hk2,hf _ _ _ (nth_mem hk) (nth_mem hk2) (nth_mem hj)]
 exact h.2 k j hk hj h1 h2
theorem cvx3 {p q r:P3} (h:sg (det3 p q r)=1):Cvx [p,q,r]:=by
 refine ⟨by simp,fun k j hk hj h1 h2=>?_⟩
 have l:[p,q,r].length=3:=rfl
 rw [l] at hk hj h2 ⊢
 have c1:det3 q r p=det3 p q r:=by unfold det3 crs; grind
 have c2:det3 r p q=det3 p q r:=by unfold det3 crs; grind
 have:k=0∨k=1∨k=2:=by omega
 rcases this with rfl | rfl | rfl
 ·have:j=2:=by omega
  subst this
  exact h
 ·have:j=0:=by omega
  subst this
  show sg (det3 q r p)=1
  rw [c1]; exact h
 ·have:j=1:=by omega
  subst this
  show sg (det3 r p q)=1
  rw [c2]; exact h
abbrev Piece:=List P3×Bool×P3
def dS (s:Piece):D:=.tup [.lst (s.1.map dP),.bl s.2.1,dP s.2.2]
structure GP (m:Nat) (p:P3):Prop where
 pt:PtP p
 bp:BP m p
theorem GP.mono {m n:Nat} {p:P3} (h:GP m p) (l:m≤n):GP n p:=⟨h.pt,h.bp.mono l⟩
def slS (g:P3) (s:Piece):Piece:=(s.1.map (fun p=>nP (sld g p)),s.2.1,nP (sld g s.2.2))
theorem GP.trn {m:Nat} {p:P3} (h:GP m p):GP m (Cut.trn p):=⟨h.pt.trn,h.bp.trn⟩
theorem GP.sl {m n:Nat} {g p:P3} (hg:GP m g) (h:GP n p):GP (n + m + 1) (nP (sld g p)):=⟨hg.pt.sld h.pt,hg.bp.sldN h.bp hg.pt h.pt⟩
theorem has_P (p:P3):has (.T [.I,.I,.I]) (dP p)=true:=rfl
theorem has_Ps (ps:List P3):has (.L (.T [.I,.I,.I])) (.lst (ps.map dP))=true:=by
 simp only [has,List.all_eq_true]
 intro x hx
 obtain ⟨p,_,rfl⟩:=List.mem_map.mp hx
 exact has_P p
abbrev tg3:UG:=ugTup 3 (ugCons (ugName 0) (ugCons (ugName 1) (ugCons (ugName 2) ugNil)))
theorem compG_sh {u:UE} {fs:List Sl} {h:Piece→D}:∀ {sh:List Piece} {v0 v1 v2:Sl} {k:List D→Prop},(∀ s∈sh,∀ k:D→Prop,k (h s)→u (.val (.lst (s.1.map dP)) :: .val (.bl s.2.1) :: .val (dP s.2.2) :: fs) k)→k (sh.map h)→compG tg3 utTrue u (sh.map dS) (v0 :: v1 :: v2 :: fs) k
 | [],_,_,_,_,_,hk=>hk
 | s :: sh,v0,v1,v2,k,hu,hk=>by
  refine ⟨_,rfl,rfl,_,_,rfl,_,_,rfl,_,_,rfl,rfl,?_⟩
  show (if true=true then u (.val (.lst (s.1.map dP)) :: .val (.bl s.2.1) :: .val (dP s.2.2) :: fs) fun y=>compG tg3 utTrue u (sh.map dS) (.val (.lst (s.1.map dP)) :: .val (.bl s.2.1) :: .val (dP s.2.2) :: fs) fun ys=>k (y :: ys) else compG tg3 utTrue u (sh.map dS) (.val (.lst (s.1.map dP)) :: .val (.bl s.2.1) :: .val (dP s.2.2) :: fs) k)
  rw [if_pos rfl]
  refine hu s List.mem_cons_self _ ?_
  exact compG_sh (fun x hx=>hu x (List.mem_cons_of_mem _ hx)) hk
theorem flats_P (f:P3→P3):∀ ps:List P3,flats (ps.map fun p=>dP (f p))=true
 | []=>rfl
 | p :: r=>by
  rw [List.map_cons,flats,flats_P f r]
  rfl
theorem flats_P0 (ps:List P3):flats (ps.map dP)=true:=flats_P id ps
theorem map_dP (f:P3→P3) (ps:List P3):(ps.map fun p=>dP (f p))=(ps.map f).map dP:=by rw [List.map_map]; rfl
abbrev shS:Sh:=.L (.T [.L (.T [.I,.I,.I]),.B,.T [.I,.I,.I]])
theorem has_S (sh:List Piece):has shS (.lst (sh.map dS))=true:=by
 simp only [has,List.all_eq_true]
 intro x hx
 obtain ⟨s,_,rfl⟩:=List.mem_map.mp hx
 have h1:=has_Ps s.1
 have h2:=has_P s.2.2
 simp only [dS,hass,has] at h1 h2 ⊢
 rw [h1]
 simpa using h2
def firstR (s:Piece):List P3:=if s.2.1=true then (s.1.map fun p=>nP (sld (trn s.2.2) p)).map trn else s.1.map fun p=>nP (sld (trn s.2.2) p)
theorem cutL_le {α:Type} (xs:List α) (lo hi:Option Int):(cutL xs lo hi).length≤xs.length:=by
 unfold cutL
 rw [List.length_take,List.length_drop]
 omega
end Cut
namespace Cut
open PySem L2 L3
open PySem.Builtin.Int (intBits)
theorem gcd_x0 (x y:Int):Int.gcd (Int.gcd x 0:Nat) y=Int.gcd x y:=by rw [Int.gcd_zero_right]; show Nat.gcd (Int.natAbs (x.natAbs:Int)) y.natAbs=_; rw [Int.natAbs_natCast]; rfl
theorem gcd_0x (x y:Int):Int.gcd (Int.gcd 0 x:Nat) y=Int.gcd x y:=by rw [Int.gcd_comm 0 x,gcd_x0]
theorem pt_x {w:Int×Int} (l:Low w.1 w.2):PtP (w.1,0,w.2):=⟨l.1,(gcd_x0 _ _).trans l.2⟩
theorem pt_y {w:Int×Int} (l:Low w.1 w.2):PtP (0,w.1,w.2):=⟨l.1,(gcd_0x _ _).trans l.2⟩
def top4 (w h:Int×Int):P3:=npt (w.1 * h.2) (h.1 * w.2) (w.2 * h.2)
def boxP (w h:Int×Int):List P3:=[(0,0,1),(w.1,0,w.2),top4 w h,(0,h.1,h.2)]
structure Bx (w h:Int×Int):Prop where
 lw:Low w.1 w.2
 lh:Low h.1 h.2
 w0:0 < w.1
 h0:0 < h.1
theorem Bx.top {w h:Int×Int} (b:Bx w h):PtP (top4 w h)∧(top4 w h).1 * w.2=w.1 * (top4 w h).2.2∧(top4 w h).2.1 * h.2=h.1 * (top4 w h).2.2∧0 < (top4 w h).1∧0 < (top4 w h).2.1:=by
 have n0:w.2 * h.2≠0:=one_ne b.lw.1 b.lh.1
 obtain ⟨p,e1,e2,_⟩:=npt_spec (a:=w.1 * h.2) (b:=h.1 * w.2) n0
 have p:PtP (top4 w h):=p
 have e1:(top4 w h).1 * (w.2 * h.2)=w.1 * h.2 * (top4 w h).2.2:=e1
 have e2:(top4 w h).2.1 * (w.2 * h.2)=h.1 * w.2 * (top4 w h).2.2:=e2
 have f1:(top4 w h).1 * w.2=w.1 * (top4 w h).2.2:=Int.eq_of_mul_eq_mul_right (Int.ne_of_gt b.lh.1) (by grind)
 have f2:(top4 w h).2.1 * h.2=h.1 * (top4 w h).2.2:=Int.eq_of_mul_eq_mul_right (Int.ne_of_gt b.lw.1) (by grind)
 refine ⟨p,f1,f2,?_,?_⟩
 ·have:0 < (top4 w h).1 * w.2:=by rw [f1]; exact Int.mul_pos b.w0 p.1
  exact Int.pos_of_mul_pos_left this b.lw.1
 ·have:0 < (top4 w h).2.1 * h.2:=by rw [f2]; exact Int.mul_pos b.h0 p.1
  exact Int.pos_of_mul_pos_left this b.lh.1
theorem sg_pos {x:Int} (h:0 < x):sg x=1:=by unfold sg; rw [if_pos h]
section
variable {w h:Int×Int}
theorem Bx.d012 (b:Bx w h):sg (det3 (0,0,1) (w.1,0,w.2) (top4 w h))=1:=by
 obtain ⟨_,_,_,x0,y0⟩:=b.top
 have e:det3 (0,0,1) (w.1,0,w.2) (top4 w h)=w.1 * (top4 w h).2.1:=by unfold det3 crs; simp
 rw [e]; exact sg_pos (Int.mul_pos b.w0 y0)
theorem Bx.d013 (b:Bx w h):sg (det3 (0,0,1) (w.1,0,w.2) (0,h.1,h.2))=1:=by
 have e:det3 (0,0,1) (w.1,0,w.2) (0,h.1,h.2)=w.1 * h.1:=by unfold det3 crs; simp
 rw [e]; exact sg_pos (Int.mul_pos b.w0 b.h0)
theorem Bx.d023 (b:Bx w h):sg (det3 (0,0,1) (top4 w h) (0,h.1,h.2))=1:=by
 obtain ⟨_,_,_,x0,y0⟩:=b.top
 have e:det3 (0,0,1) (top4 w h) (0,h.1,h.2)=(top4 w h).1 * h.1:=by unfold det3 crs; simp
 rw [e]; exact sg_pos (Int.mul_pos x0 b.h0)
theorem Bx.d312 (b:Bx w h):sg (det3 (0,h.1,h.2) (w.1,0,w.2) (top4 w h))=1:=by
 obtain ⟨p,e1,e2,x0,y0⟩:=b.top
 have e:det3 (0,h.1,h.2) (w.1,0,w.2) (top4 w h)=h.1 * w.1 * (top4 w h).2.2:=by unfold det3 crs; simp; grind
 rw [e]; exact sg_pos (Int.mul_pos (Int.mul_pos b.h0 b.w0) p.1)
end
theorem cvx4 {p q r s:P3} (h1:sg (det3 p q r)=1) (h2:sg (det3 p q s)=1) (h3:sg (det3 q r s)=1) (h4:sg (det3 p r s)=1):Cvx [p,q,r,s]:=by
 have cy:∀ a b c:P3,det3 b c a=det3 a b c:=fun a b c=>by unfold det3 crs; grind
 refine ⟨by simp,fun k j hk hj n1 n2=>?_⟩
 have l:[p,q,r,s].length=4:=rfl
 rw [l] at hk hj n2 ⊢
 have:k=0∨k=1∨k=2∨k=3:=by omega
 rcases this with rfl | rfl | rfl | rfl
 ·have:j=2∨j=3:=by omega
  rcases this with rfl | rfl
  ·exact h1
  ·exact h2
 ·have:j=0∨j=3:=by omega
  rcases this with rfl | rfl
  ·show sg (det3 q r p)=1
   rw [cy p q r]; exact h1
  ·exact h3
 ·have:j=0∨j=1:=by omega
  rcases this with rfl | rfl
  ·show sg (det3 r s p)=1
   rw [cy p r s]; exact h4
  ·show sg (det3 r s q)=1
   rw [cy q r s]; exact h3
 ·have:j=1∨j=2:=by omega
  rcases this with rfl | rfl
  ·show sg (det3 s p q)=1
   rw [← cy s p q]; exact h2
  ·show sg (det3 s p r)=1
   rw [← cy s p r]; exact h4
theorem Bx.cvx {w h:Int×Int} (b:Bx w h):Cvx (boxP w h):=by
 refine cvx4 b.d012 b.d013 ?_ b.d023
 have:det3 (w.1,0,w.2) (top4 w h) (0,h.1,h.2)=det3 (0,h.1,h.2) (w.1,0,w.2) (top4 w h):=by unfold det3 crs; grind
 rw [this]; exact b.d312
def hgt (s w:Int×Int):Int×Int:=nrat ((if s.1 < 0 then -s.1 else s.1) * w.1) (s.2 * w.2)
def cornP (s:Int×Int) (hi:Bool) (w:Int×Int):List P3 :=
 if 0 < s.1 then (if hi=true then [(0,0,1),top4 w (hgt s w),(0,(hgt s w).1,(hgt s w).2)] else [(0,0,1),(w.1,0,w.2),top4 w (hgt s w)])
 else (if hi=true then [(0,(hgt s w).1,(hgt s w).2),(w.1,0,w.2),top4 w (hgt s w)] else [(0,0,1),(w.1,0,w.2),(0,(hgt s w).1,(hgt s w).2)])
theorem hgt_bx {s w:Int×Int} (ls:Low s.1 s.2) (lw:Low w.1 w.2) (s0:s.1≠0) (w0:0 < w.1):Bx w (hgt s w):=by
 have n0:0 < s.2 * w.2:=Int.mul_pos ls.1 lw.1
 obtain ⟨l,e,_,_⟩:=nrat_spec (t:=(if s.1 < 0 then -s.1 else s.1) * w.1) (Int.ne_of_gt n0)
 refine ⟨lw,l,w0,?_⟩
 have a0:0 < (if s.1 < 0 then -s.1 else s.1):=by split <;> omega
 have:0 < (hgt s w).1 * (s.2 * w.2):=by
  show 0 < (nrat _ _).1 * (s.2 * w.2)
  rw [e]; exact Int.mul_pos (Int.mul_pos a0 w0) l.1
 exact Int.pos_of_mul_pos_left this n0
theorem rise_pos {s w:Int×Int} (h:0 < s.1):nrat (s.1 * w.1) (s.2 * w.2)=hgt s w:=by unfold hgt; rw [if_neg (by omega)]
theorem rise_neg {s w:Int×Int} (ls:Low s.1 s.2) (lw:Low w.1 w.2) (h:s.1 < 0):nrat (s.1 * w.1) (s.2 * w.2)=(-(hgt s w).1,(hgt s w).2):=by
 unfold hgt
 rw [if_pos h]
 have e:s.1 * w.1 = -(-s.1 * w.1):=by rw [Int.neg_mul,Int.neg_neg]
 rw [e,nrat_negTop (Int.mul_pos ls.1 lw.1)]
 rfl
section
variable {w h:Int×Int}
end
theorem atI_back1 {ps:List P3} {k:Nat} (h:k < ps.length):atI (ps.map dP) ((k:Int) - 1)=some (dP (nth ps ((k + ps.length - 1) % ps.length))):=by
 cases k with
 | zero =>
  have e:((0:Nat) + ps.length - 1) % ps.length=ps.length - 1:=by rw [Nat.zero_add]; exact Nat.mod_eq_of_lt (by omega)
  rw [e,nth_eq (by omega)]
  unfold atI ixN
  rw [if_neg (by omega),if_pos (by rw [List.length_map]; omega)]
  show (ps.map dP)[_]?=_
  rw [List.getElem?_map,List.length_map,show (((0:Nat):Int) - 1 + (ps.length:Int)).toNat=ps.length - 1 by omega,List.getElem?_eq_getElem (by omega)]
  rfl
 | succ k =>
  have e:(k + 1 + ps.length - 1) % ps.length=k:=by
   rw [show k + 1 + ps.length - 1=k + ps.length by omega,Nat.add_mod_right]; exact Nat.mod_eq_of_lt (by omega)
  rw [e,show (((k + 1:Nat):Int) - 1)=(k:Int) by omega]
  exact atI_nth (by omega)
theorem eqS_T:eqD (.str "high") (.str "high")=true:=eqD_self _
theorem eqS_F:eqD (.str "low") (.str "high")=false:=by
 unfold eqD
 exact @decide_eq_false _ (Classical.propDecidable _) fun h=>absurd (D.str.inj h) (by decide)
section
variable {s w h:Int×Int}
theorem corn_len (hi:Bool):(cornP s hi w).length=3:=by unfold cornP; split <;> split <;> rfl
theorem corn_cvx (b:Bx w (hgt s w)) (hi:Bool):Cvx (cornP s hi w):=by
 unfold cornP
 split <;> split
 ·exact cvx3 b.d023
 ·exact cvx3 b.d012
 ·exact cvx3 b.d312
 ·exact cvx3 b.d013
theorem Bx.gps (b:Bx w h) (b1:intBits w.1≤140) (b2:intBits w.2≤140) (b3:intBits h.1≤140) (b4:intBits h.2≤140):GP 350 (0,0,1)∧GP 350 (w.1,0,w.2)∧GP 350 (top4 w h)∧GP 350 (0,h.1,h.2):=by
 have m:∀ {x:Int},intBits x≤140→intBits x≤350:=fun h=>Nat.le_trans h (by decide)
 have z:intBits 0≤350:=by decide
 have n0:w.2 * h.2≠0:=one_ne b.lw.1 b.lh.1
 have bt:BP 350 (nP (w.1 * h.2,h.1 * w.2,w.2 * h.2)):=BP.nP ⟨Nat.le_trans (intBits_mul_le b1 b4) (by decide),Nat.le_trans (intBits_mul_le b3 b2) (by decide),Nat.le_trans (intBits_mul_le b2 b4) (by decide)⟩ n0
 exact ⟨⟨⟨(show (0:Int) < 1 by decide),(show Int.gcd (Int.gcd 0 0:Nat) 1=1 by decide)⟩,z,z,(show intBits 1≤350 by decide)⟩,⟨pt_x b.lw,m b1,z,m b2⟩,⟨b.top.1,bt⟩,⟨pt_y b.lh,z,m b3,m b4⟩⟩
theorem Bx.boxG (b:Bx w h) (b1:intBits w.1≤140) (b2:intBits w.2≤140) (b3:intBits h.1≤140) (b4:intBits h.2≤140):∀ p∈boxP w h,GP 350 p:=fun p hp=>by
 obtain ⟨g0,g1,g2,g3⟩:=b.gps b1 b2 b3 b4
 unfold boxP at hp
 simp only [List.mem_cons,List.not_mem_nil,or_false] at hp
 rcases hp with rfl | rfl | rfl | rfl <;> assumption
theorem Bx.cornG (b:Bx w (hgt s w)) (hi:Bool) (b1:intBits w.1≤140) (b2:intBits w.2≤140) (b3:intBits (hgt s w).1≤140) (b4:intBits (hgt s w).2≤140):∀ p∈cornP s hi w,GP 350 p:=fun p hp=>by
 obtain ⟨g0,g1,g2,g3⟩:=b.gps b1 b2 b3 b4
 unfold cornP at hp
 split at hp <;> split at hp <;> (simp only [List.mem_cons,List.not_mem_nil,or_false] at hp; rcases hp with rfl | rfl | rfl <;> assumption)
end
end Cut
namespace L2
open PySem PySem.Spec PyProof.Rows PySem.W
section
variable {X:Cx}
end
end L2
namespace L2
open PySem PySem.Spec PyProof.Rows PySem.W
section
variable {X:Cx}
end
end L2
namespace L3
open PySem L2
section
variable {X:Cx} {a b c e:Expr} {ua ub uc u:UE} {pos p p1 p2 p3:Pos}
section
variable {o:Expr} {uo:UE} {ul:UL} {apos cpos:Pos}
end
end
end L3
namespace L3
open PySem L2 PyProof.Rows
end L3
namespace L2
open PySem PySem.Spec PyProof.Rows PySem.W
section
variable {X:Cx}
end
end L2
namespace L3
open PySem L2
section
variable {X:Cx} {a b c e:Expr} {ua ub uc u:UE} {pos p p1 p2 p3:Pos}
section
variable {o:Expr} {uo:UE} {ul:UL} {apos cpos:Pos}
end
end
end L3
namespace L2
open PySem PySem.Spec PyProof.Rows PySem.W
end L2
namespace L3
open PySem L2 PySem.W
section
variable (K:PySem.W.Frag) (R:Hp)
end
section
variable {X:Cx} {R:Hp} {Z:Prop} {a b c e:Expr} {es:List Expr} {ua ub u u':UE} {ul:UL} {uc:UT} {s t:US} {pos p:Pos} {E:XK} {C:Addr}
end
section
variable {P:Program} {w:World} {K:PySem.W.Frag} {mg:Str→Option Value} {base:Heap}
end
end L3
namespace L3
open PySem L2 PyProof.Rows
end L3
namespace Cut
open PySem L2 L3
open PySem.Builtin.Int (intBits)
theorem d_cyc (p q r:P3):det3 q r p=det3 p q r:=by unfold det3 crs; grind
theorem d_same (p q:P3):det3 p p q=0:=by unfold det3 crs; grind
theorem plucker (o u a b c:P3):det3 o u b * det3 o a c=det3 o u a * det3 o b c + det3 o u c * det3 o a b:=by
 unfold det3 crs; grind
theorem sg_one {x:Int} (h:sg x=1):0 < x:=by
 unfold sg at h
 split at h
 ·assumption
 ·split at h <;> omega
def Tri (ps:List P3):Prop:=∀ i j k,i < j→j < k→k < ps.length→0 < det3 (nth ps i) (nth ps j) (nth ps k)
theorem Cvx.edge {ps:List P3} (h:Cvx ps) {k j:Nat} (hk:k + 1 < ps.length) (hj:j < ps.length) (n1:j≠k) (n2:j≠k + 1):0 < det3 (nth ps k) (nth ps (k + 1)) (nth ps j):=by
 have:=h.2 k j (by omega) hj n1 (by rw [Nat.mod_eq_of_lt hk]; exact n2)
 rw [Nat.mod_eq_of_lt hk] at this
 exact sg_one this
theorem Cvx.tri {ps:List P3} (h:Cvx ps):Tri ps:=by
 intro i j k hij hjk hk
 induction k with
 | zero=>omega
 | succ k ih =>
  by_cases e:j=k
  ·subst e
   rw [← d_cyc]
   exact h.edge hk (by omega) (by omega) (by omega)
  ·have h1:=ih (by omega) (by omega)
   have h2:0 < det3 (nth ps i) (nth ps k) (nth ps (k + 1)):=by
    rw [← d_cyc]
    exact h.edge hk (by omega) (by omega) (by omega)
   have ub:=h.edge (k:=i) (j:=k) (by omega) (by omega) (by omega) (by omega)
   have uc:=h.edge (k:=i) (j:=k + 1) (by omega) (by omega) (by omega) (by omega)
   have ua:0≤det3 (nth ps i) (nth ps (i + 1)) (nth ps j):=by
    by_cases z:j=i + 1
    ·subst z
     have:det3 (nth ps i) (nth ps (i + 1)) (nth ps (i + 1))=0:=det3_two _ _
     omega
    ·exact Int.le_of_lt (h.edge (by omega) (by omega) (by omega) z)
   have pl:=plucker (nth ps i) (nth ps (i + 1)) (nth ps j) (nth ps k) (nth ps (k + 1))
   have r1:=Int.mul_nonneg ua (Int.le_of_lt h2)
   have r2:=Int.mul_pos uc h1
   have:0 < det3 (nth ps i) (nth ps (i + 1)) (nth ps k) * det3 (nth ps i) (nth ps j) (nth ps (k + 1)):=by omega
   exact Int.pos_of_mul_pos_right this ub
theorem Tri.cvx {ps:List P3} (hl:3≤ps.length) (h:Tri ps):Cvx ps:=by
 refine ⟨hl,fun k j hk hj n1 n2=>sg_pos ?_⟩
 by_cases e:k + 1 < ps.length
 ·rw [Nat.mod_eq_of_lt e] at n2 ⊢
  by_cases z:k < j
  ·exact h k (k + 1) j (by omega) (by omega) hj
  ·rw [d_cyc]
   exact h j k (k + 1) (by omega) (by omega) e
 ·have ek:k + 1=ps.length:=by omega
  rw [ek,Nat.mod_self] at n2 ⊢
  rw [← d_cyc]
  exact h 0 j k (by omega) (by omega) hk
def T1 (a:P3):List P3→Prop
 | []=>True
 | b :: r=>(∀ c∈r,0 < det3 a b c)∧T1 a r
def T0:List P3→Prop
 | []=>True
 | a :: r=>T1 a r∧T0 r
theorem T1.sub {a:P3} {l m:List P3} (s:l.Sublist m):T1 a m→T1 a l:=by
 induction s with
 | slnil=>exact id
 | cons b s ih=>exact fun h=>ih h.2
 | cons_cons b s ih=>exact fun h=>⟨fun c hc=>h.1 c (s.subset hc),ih h.2⟩
theorem T0.sub {l m:List P3} (s:l.Sublist m):T0 m→T0 l:=by
 induction s with
 | slnil=>exact id
 | cons b s ih=>exact fun h=>ih h.2
 | cons_cons b s ih=>exact fun h=>⟨T1.sub s h.1,ih h.2⟩
theorem nth_succ (a:P3) (r:List P3) (i:Nat):nth (a :: r) (i + 1)=nth r i:=rfl
theorem nth_zero (a:P3) (r:List P3):nth (a :: r) 0=a:=rfl
theorem nth_memL {r:List P3} {i:Nat} (h:i < r.length):nth r i∈r:=by
 induction r generalizing i with
 | nil=>exact absurd h (by simp)
 | cons a r ih =>
  cases i with
  | zero=>exact List.mem_cons_self
  | succ i=>exact List.mem_cons_of_mem _ (ih (by simpa using h))
theorem mem_nthL {r:List P3} {c:P3} (h:c∈r):∃ i,i < r.length∧nth r i=c:=by
 induction r with
 | nil=>cases h
 | cons a r ih =>
  rcases List.mem_cons.mp h with rfl | h
  ·exact ⟨0,by simp,rfl⟩
  ·obtain ⟨i,hi,e⟩:=ih h
   exact ⟨i + 1,by simpa using hi,e⟩
theorem t1_iff (a:P3):∀ r:List P3,T1 a r↔∀ j k,j < k→k < r.length→0 < det3 a (nth r j) (nth r k)
 | []=>⟨fun _ j k _ h=>absurd h (by simp),fun _=>trivial⟩
 | b :: r=>by
  constructor
  ·rintro ⟨h1,h2⟩ j k hjk hk
   cases k with
   | zero=>omega
   | succ k =>
    have hk:k < r.length:=by simpa using hk
    cases j with
    | zero=>exact h1 _ (nth_memL hk)
    | succ j=>exact (t1_iff a r).mp h2 j k (by omega) hk
  ·intro h
   refine ⟨fun c hc=>?_,(t1_iff a r).mpr fun j k hjk hk=>h (j + 1) (k + 1) (by omega) (by simpa using hk)⟩
   obtain ⟨i,hi,rfl⟩:=mem_nthL hc
   exact h 0 (i + 1) (by omega) (by simpa using hi)
theorem t0_iff:∀ ps:List P3,T0 ps↔Tri ps
 | []=>⟨fun _ i j k _ _ h=>absurd h (by simp),fun _=>trivial⟩
 | a :: r=>by
  constructor
  ·rintro ⟨h1,h2⟩ i j k hij hjk hk
   cases k with
   | zero=>omega
   | succ k =>
    cases j with
    | zero=>omega
    | succ j =>
     have hk:k < r.length:=by simpa using hk
     cases i with
     | zero=>exact (t1_iff a r).mp h1 j k (by omega) hk
     | succ i=>exact (t0_iff r).mp h2 i j k (by omega) (by omega) hk
  ·intro h
   exact ⟨(t1_iff a r).mpr fun j k hjk hk=>h 0 (j + 1) (k + 1) (by omega) (by omega) (by simpa using hk),(t0_iff r).mpr fun i j k h1 h2 hk=>h (i + 1) (j + 1) (k + 1) (by omega) (by omega) (by simpa using hk)⟩
theorem triple_product (c a b:P3):crs c (crs a b)=lc (c.1 * b.1 + c.2.1 * b.2.1 + c.2.2 * b.2.2) a (-(c.1 * a.1 + c.2.1 * a.2.1 + c.2.2 * a.2.2)) b:=by
 unfold crs lc
 refine p3_ext ?_ ?_ ?_ <;> dsimp only <;> grind
theorem d_lc1 (s t:Int) (a b q r:P3):det3 (lc s a t b) q r=s * det3 a q r + t * det3 b q r:=by unfold det3 crs lc; dsimp only; grind
theorem d_sc1 (s:Int) (a q r:P3):det3 (sc s a) q r=s * det3 a q r:=by unfold det3 crs sc; dsimp only; grind
end Cut
namespace Cut
open PySem L2 L3
theorem t1_snoc {b a:P3}:∀ {r:List P3},T1 b r→(∀ c∈r,0 < det3 b c a)→T1 b (r ++ [a])
 | [],_,_=>⟨fun c hc=>absurd hc (by simp),trivial⟩
 | d :: r,h,k=>⟨fun c hc=>by
   rcases List.mem_append.mp hc with hc | hc
   ·exact h.1 c hc
   ·rw [List.mem_singleton.mp hc]; exact k d List.mem_cons_self,t1_snoc h.2 fun c hc=>k c (List.mem_cons_of_mem _ hc)⟩
theorem t0_snoc {a:P3}:∀ {r:List P3},T0 r→T1 a r→T0 (r ++ [a])
 | [],_,_=>⟨trivial,trivial⟩
 | b :: r,h,k=>⟨t1_snoc h.1 fun c hc=>by rw [d_cyc]; exact k.1 c hc,t0_snoc h.2 k.2⟩
theorem T0.rot {a:P3} {r:List P3} (h:T0 (a :: r)):T0 (r ++ [a]):=t0_snoc h.2 h.1
def C2:List P3→List P3→Prop
 | [],_=>True
 | x :: xs,zs=>(∀ y∈xs,∀ z∈zs,0 < det3 x y z)∧C2 xs zs
theorem t1_app {x:P3}:∀ {xs zs:List P3},T1 x (xs ++ zs)↔T1 x xs∧T1 x zs∧∀ y∈xs,∀ z∈zs,0 < det3 x y z
 | [],zs=>⟨fun h=>⟨trivial,h,fun y hy=>absurd hy (by simp)⟩,fun h=>h.2.1⟩
 | y :: xs,zs=>by
  constructor
  ·rintro ⟨h1,h2⟩
   obtain ⟨k1,k2,k3⟩:=t1_app.mp h2
   refine ⟨⟨fun c hc=>h1 c (List.mem_append_left _ hc),k1⟩,k2,fun w hw z hz=>?_⟩
   rcases List.mem_cons.mp hw with rfl | hw
   ·exact h1 z (List.mem_append_right _ hz)
   ·exact k3 w hw z hz
  ·rintro ⟨⟨h1,h2⟩,h3,h4⟩
   refine ⟨fun c hc=>?_,t1_app.mpr ⟨h2,h3,fun w hw z hz=>h4 w (List.mem_cons_of_mem _ hw) z hz⟩⟩
   rcases List.mem_append.mp hc with hc | hc
   ·exact h1 c hc
   ·exact h4 y List.mem_cons_self c hc
theorem t0_app:∀ {xs zs:List P3},T0 (xs ++ zs)↔T0 xs∧T0 zs∧(∀ x∈xs,T1 x zs)∧C2 xs zs
 | [],zs=>⟨fun h=>⟨trivial,h,fun y hy=>absurd hy (by simp),trivial⟩,fun h=>h.2.1⟩
 | x :: xs,zs=>by
  constructor
  ·rintro ⟨h1,h2⟩
   obtain ⟨k1,k2,k3,k4⟩:=t0_app.mp h2
   obtain ⟨j1,j2,j3⟩:=t1_app.mp h1
   refine ⟨⟨j1,k1⟩,k2,fun w hw=>?_,⟨j3,k4⟩⟩
   rcases List.mem_cons.mp hw with rfl | hw
   ·exact j2
   ·exact k3 w hw
  ·rintro ⟨⟨h1,h2⟩,h3,h4,h5,h6⟩
   exact ⟨t1_app.mpr ⟨h1,h4 x List.mem_cons_self,h5⟩,t0_app.mpr ⟨h2,h3,fun w hw=>h4 w (List.mem_cons_of_mem _ hw),h6⟩⟩
theorem c2_of {zs ws:List P3} (h:∀ x y,(∀ z∈zs,0 < det3 x y z)→∀ z∈ws,0 < det3 x y z):∀ {xs:List P3},C2 xs zs→C2 xs ws
 | [],_=>trivial
 | x :: xs,k=>⟨fun y hy=>h x y (k.1 y hy),c2_of h k.2⟩
def Btw (p q m:P3):Prop:=∃ s a b:Int,0 < s∧0 < a∧0 < b∧sc s m=lc a p b q
theorem pos_of {s x y:Int} (hs:0 < s) (e:s * x=y) (hy:0 < y):0 < x:=by
 rw [← e] at hy
 exact Int.pos_of_mul_pos_right hy hs
theorem btw_d1 {p q m u v:P3} (h:Btw p q m) (h1:0≤det3 p u v) (h2:0≤det3 q u v) (h3:0 < det3 p u v∨0 < det3 q u v):0 < det3 m u v:=by
 obtain ⟨s,a,b,hs,ha,hb,e⟩:=h
 have k:s * det3 m u v=a * det3 p u v + b * det3 q u v:=by rw [← d_sc1,e,d_lc1]
 refine pos_of hs k ?_
 have n1:=Int.mul_nonneg (Int.le_of_lt ha) h1
 have n2:=Int.mul_nonneg (Int.le_of_lt hb) h2
 rcases h3 with h3 | h3
 ·have:=Int.mul_pos ha h3; omega
 ·have:=Int.mul_pos hb h3; omega
theorem btw_d2 {p q m u v:P3} (h:Btw p q m) (h1:0≤det3 u p v) (h2:0≤det3 u q v) (h3:0 < det3 u p v∨0 < det3 u q v):0 < det3 u m v:=by
 rw [← d_cyc] at h1 h2 ⊢
 rw [← d_cyc u p v,← d_cyc u q v] at h3
 exact btw_d1 h h1 h2 h3
theorem btw_d3 {p q m u v:P3} (h:Btw p q m) (h1:0≤det3 u v p) (h2:0≤det3 u v q) (h3:0 < det3 u v p∨0 < det3 u v q):0 < det3 u v m:=by
 rw [d_cyc] at h1 h2 ⊢
 rw [d_cyc p u v,d_cyc q u v] at h3
 exact btw_d1 h h1 h2 h3
theorem btw_t1 {p q m:P3} (h:Btw p q m):∀ {ys:List P3},T1 p ys→T1 q ys→T1 m ys
 | [],_,_=>trivial
 | y :: ys,h1,h2=>⟨fun c hc=>btw_d1 h (Int.le_of_lt (h1.1 c hc)) (Int.le_of_lt (h2.1 c hc)) (.inl (h1.1 c hc)),btw_t1 h h1.2 h2.2⟩
theorem le0 {x:Int} (z:0 < x):0≤x:=Int.le_of_lt z
theorem eq0 {x:Int} (z:x=0):0≤x:=by omega
theorem T0.back {xs ys:List P3} {p q m:P3} (h:T0 (xs ++ p :: q :: ys)) (hm:Btw p q m):T0 (xs ++ p :: m :: ys):=by
 obtain ⟨h1,⟨⟨p1,p2⟩,q1,q2⟩,h3,h4⟩:=t0_app.mp h
 refine t0_app.mpr ⟨h1,⟨⟨fun c hc=>?_,p2⟩,btw_t1 hm p2 q1,q2⟩,fun x hx=>?_,c2_of (fun x y hz z hw=>?_) h4⟩
 ·exact btw_d2 hm (eq0 (d_same p c)) (le0 (p1 c hc)) (.inr (p1 c hc))
 ·obtain ⟨k1,k2,k3⟩:=h3 x hx
  refine ⟨fun c hc=>?_,fun c hc=>?_,k3⟩
  ·rcases List.mem_cons.mp hc with rfl | hc
   ·exact btw_d3 hm (eq0 (det3_two x p)) (le0 (k1 q List.mem_cons_self)) (.inr (k1 q List.mem_cons_self))
   ·exact k1 c (List.mem_cons_of_mem _ hc)
  ·exact btw_d2 hm (le0 (k1 c (List.mem_cons_of_mem _ hc))) (le0 (k2 c hc)) (.inr (k2 c hc))
 ·rcases List.mem_cons.mp hw with rfl | hw
  ·exact hz _ List.mem_cons_self
  ·rcases List.mem_cons.mp hw with rfl | hw
   ·exact btw_d3 hm (le0 (hz p List.mem_cons_self)) (le0 (hz q (List.mem_cons_of_mem _ List.mem_cons_self))) (.inl (hz p List.mem_cons_self))
   ·exact hz z (List.mem_cons_of_mem _ (List.mem_cons_of_mem _ hw))
theorem T0.on {xs ys:List P3} {p q m:P3} (h:T0 (xs ++ p :: q :: ys)) (hm:Btw p q m):T0 (xs ++ m :: q :: ys):=by
 obtain ⟨h1,⟨⟨p1,p2⟩,q1,q2⟩,h3,h4⟩:=t0_app.mp h
 refine t0_app.mpr ⟨h1,⟨⟨fun c hc=>?_,btw_t1 hm p2 q1⟩,q1,q2⟩,fun x hx=>?_,c2_of (fun x y hz z hw=>?_) h4⟩
 ·exact btw_d1 hm (le0 (p1 c hc)) (eq0 (d_same q c)) (.inl (p1 c hc))
 ·obtain ⟨k1,k2,k3⟩:=h3 x hx
  refine ⟨fun c hc=>?_,k2,k3⟩
  rcases List.mem_cons.mp hc with rfl | hc
  ·exact btw_d2 hm (le0 (k1 c List.mem_cons_self)) (eq0 (det3_two x c)) (.inl (k1 c List.mem_cons_self))
  ·exact btw_d2 hm (le0 (k1 c (List.mem_cons_of_mem _ hc))) (le0 (k2 c hc)) (.inr (k2 c hc))
 ·rcases List.mem_cons.mp hw with rfl | hw
  ·exact btw_d3 hm (le0 (hz p List.mem_cons_self)) (le0 (hz q (List.mem_cons_of_mem _ List.mem_cons_self))) (.inl (hz p List.mem_cons_self))
  ·exact hz z (List.mem_cons_of_mem _ hw)
theorem T0.off {xs ys:List P3} {p q r m n:P3} (h:T0 (xs ++ p :: q :: r :: ys)) (hm:Btw p q m) (hn:Btw q r n):T0 (xs ++ p :: m :: n :: r :: ys):=by
 have e1:=T0.on (xs:=xs ++ [p]) (p:=q) (q:=r) (by rw [List.append_assoc]; exact h) hn
 rw [List.append_assoc] at e1
 obtain ⟨h1,⟨⟨p1,p2⟩,q1,q2⟩,h3,h4⟩:=t0_app.mp h
 obtain ⟨_,⟨⟨a1,a2⟩,b1,b2⟩,c3,c4⟩:=t0_app.mp (show T0 (xs ++ p :: n :: r :: ys) from e1)
 have pq:T0 (xs ++ p :: m :: r :: ys):=h.back hm
 obtain ⟨_,⟨⟨d1,d2⟩,f1,f2⟩,g3,g4⟩:=t0_app.mp pq
 have pqn:0 < det3 p q n:=btw_d3 hn (eq0 (det3_two p q)) (le0 (p1 r List.mem_cons_self)) (.inr (p1 r List.mem_cons_self))
 have mn:∀ c∈r :: ys,0 < det3 m n c:=fun c hc=>by
  refine btw_d1 hm (le0 (a1 c hc)) ?_ (.inl (a1 c hc))
  rcases List.mem_cons.mp hc with rfl | hc
  ·exact eq0 (by
    obtain ⟨s,a,b,hs,_,_,e⟩:=hn
    have k:s * det3 q n c=a * det3 q q c + b * det3 q c c:=by
     rw [← d_cyc q n c,← d_cyc q q c,← d_cyc q c c,← d_sc1,e,d_lc1]
    rw [d_same,det3_two,Int.mul_zero,Int.mul_zero] at k
    rcases Int.mul_eq_zero.mp k with z | z
    ·omega
    ·exact z)
  ·exact le0 (btw_d2 hn (eq0 (d_same q c)) (le0 (q1.1 c hc)) (.inr (q1.1 c hc)))
 refine t0_app.mpr ⟨h1,⟨⟨fun c hc=>?_,a1,a2⟩,⟨mn,f1⟩,b1,b2⟩,fun x hx=>?_,c2_of (fun x y hz z hw=>?_) h4⟩
 ·rcases List.mem_cons.mp hc with rfl | hc
  ·exact btw_d2 hm (eq0 (d_same p c)) (le0 pqn) (.inr pqn)
  ·exact d1 c hc
 ·obtain ⟨k1,k2,k3⟩:=h3 x hx
  obtain ⟨l1,l2,l3⟩:=c3 x hx
  obtain ⟨o1,o2,o3⟩:=g3 x hx
  refine ⟨fun c hc=>?_,fun c hc=>?_,l2,l3⟩
  ·rcases List.mem_cons.mp hc with rfl | hc
   ·exact o1 c List.mem_cons_self
   ·exact l1 c hc
  ·rcases List.mem_cons.mp hc with rfl | hc
   ·have xqn:0 < det3 x q c:=btw_d3 hn (eq0 (det3_two x q)) (le0 (k2 r List.mem_cons_self)) (.inr (k2 r List.mem_cons_self))
    exact btw_d2 hm (le0 (l1 c List.mem_cons_self)) (le0 xqn) (.inr xqn)
   ·exact o2 c hc
 ·have zq:=hz q (List.mem_cons_of_mem _ List.mem_cons_self)
  have zp:=hz p List.mem_cons_self
  have zr:=hz r (List.mem_cons_of_mem _ (List.mem_cons_of_mem _ List.mem_cons_self))
  rcases List.mem_cons.mp hw with rfl | hw
  ·exact zp
  ·rcases List.mem_cons.mp hw with rfl | hw
   ·exact btw_d3 hm (le0 zp) (le0 zq) (.inl zp)
   ·rcases List.mem_cons.mp hw with rfl | hw
    ·exact btw_d3 hn (le0 zq) (le0 zr) (.inl zq)
    ·exact hz z (List.mem_cons_of_mem _ (List.mem_cons_of_mem _ hw))
def ln (l p:P3):Int:=l.1 * p.1 + l.2.1 * p.2.1 + l.2.2 * p.2.2
theorem four (l p q r s:P3):det3 q r s * ln l p - det3 p r s * ln l q + det3 p q s * ln l r - det3 p q r * ln l s=0:=by
 unfold det3 crs ln; grind
end Cut
namespace Cut
open PySem L2 L3
theorem T1.one {a:P3}:∀ {xs:List P3},C2 xs [a]→T1 a xs
 | [],_=>trivial
 | x :: xs,h=>⟨fun c hc=>by rw [← d_cyc]; exact h.1 c hc a List.mem_cons_self,T1.one h.2⟩
theorem T0.unrot {a:P3} {r:List P3} (h:T0 (r ++ [a])):T0 (a :: r):=by
 obtain ⟨h1,_,_,h4⟩:=t0_app.mp h
 exact ⟨T1.one h4,h1⟩
theorem T0.turn:∀ {xs ys:List P3},T0 (xs ++ ys)→T0 (ys ++ xs)
 | [],ys,h=>by rw [List.append_nil]; exact h
 | x :: xs,ys,h=>by
  have h1:T0 (xs ++ (ys ++ [x])):=by rw [← List.append_assoc]; exact T0.rot h
  have h2:=T0.turn h1
  rw [List.append_assoc] at h2
  exact h2
section
variable (f:P3→Int) (mt:P3→P3→P3)
def kp (p:P3):List P3:=if 0≤f p then [p] else []
def mx (p q:P3):List P3:=if f p * f q < 0 then [mt p q] else []
def sgs:List P3→P3→List P3
 | [],_=>[]
 | p :: r,w=>kp f p ++ mx f mt p (r.headD w) ++ sgs r w
def cutR (ps:List P3):List P3:=sgs f mt ps (ps.headD (0,0,1))
end
variable {f:P3→Int} {mt:P3→P3→P3}
theorem headD_app (xs ys:List P3) (w:P3):(xs ++ ys).headD w=xs.headD (ys.headD w):=by
 cases xs <;> rfl
theorem sgs_app (w:P3):∀ xs ys:List P3,sgs f mt (xs ++ ys) w=sgs f mt xs (ys.headD w) ++ sgs f mt ys w
 | [],_=>rfl
 | p :: xs,ys=>by
  show kp f p ++ mx f mt p ((xs ++ ys).headD w) ++ sgs f mt (xs ++ ys) w=kp f p ++ mx f mt p (xs.headD (ys.headD w)) ++ sgs f mt xs (ys.headD w) ++ sgs f mt ys w
  rw [sgs_app w xs ys,headD_app,List.append_assoc,List.append_assoc,List.append_assoc]
theorem cutR_swap (xs ys:List P3):∃ P Q,cutR f mt (xs ++ ys)=P ++ Q∧cutR f mt (ys ++ xs)=Q ++ P:=by
 cases xs with
 | nil=>exact ⟨[],cutR f mt ys,rfl,by rw [List.append_nil,List.append_nil]⟩
 | cons x xs =>
  cases ys with
  | nil=>exact ⟨cutR f mt (x :: xs),[],by rw [List.append_nil,List.append_nil],rfl⟩
  | cons y ys =>
   refine ⟨sgs f mt (x :: xs) y,sgs f mt (y :: ys) x,?_,?_⟩
   ·unfold cutR; rw [sgs_app]; rfl
   ·unfold cutR; rw [sgs_app]; rfl
theorem cutR_turn {xs ys:List P3} (h:T0 (cutR f mt (ys ++ xs))∧3≤(cutR f mt (ys ++ xs)).length):T0 (cutR f mt (xs ++ ys))∧3≤(cutR f mt (xs ++ ys)).length:=by
 obtain ⟨P,Q,e1,e2⟩:=cutR_swap (f:=f) (mt:=mt) xs ys
 rw [e1]
 rw [e2] at h
 refine ⟨T0.turn h.1,?_⟩
 have:=h.2
 rw [List.length_append] at this ⊢
 omega
theorem sgs_in {w:P3}:∀ {a:P3} {A:List P3},(∀ p∈A ++ [a],0≤f p)→sgs f mt (A ++ [a]) w=A ++ [a] ++ mx f mt a w
 | a,[],h=>by
  show kp f a ++ mx f mt a w ++ []=[a] ++ mx f mt a w
  unfold kp
  rw [if_pos (h a (by simp)),List.append_nil]
 | a,p :: A,h=>by
  show kp f p ++ mx f mt p ((A ++ [a]).headD w) ++ sgs f mt (A ++ [a]) w=p :: A ++ [a] ++ mx f mt a w
  rw [sgs_in fun q hq=>h q (List.mem_cons_of_mem _ hq)]
  have hp:=h p List.mem_cons_self
  have hq:0≤f ((A ++ [a]).headD w):=by
   cases A with
   | nil=>exact h a (by simp)
   | cons b A=>exact h b (by simp)
  unfold kp mx
  rw [if_pos hp,if_neg (by have:=Int.mul_nonneg hp hq; omega)]
  simp
theorem sgs_out {w:P3}:∀ {s:P3} {N:List P3},(∀ p∈N ++ [s],f p < 0)→sgs f mt (N ++ [s]) w=mx f mt s w
 | s,[],h=>by
  show kp f s ++ mx f mt s w ++ []=mx f mt s w
  unfold kp
  rw [if_neg (by have:=h s (by simp); omega),List.append_nil,List.nil_append]
 | s,p :: N,h=>by
  show kp f p ++ mx f mt p ((N ++ [s]).headD w) ++ sgs f mt (N ++ [s]) w=mx f mt s w
  rw [sgs_out fun q hq=>h q (List.mem_cons_of_mem _ hq)]
  have hp:=h p List.mem_cons_self
  have hq:f ((N ++ [s]).headD w) < 0:=by
   cases N with
   | nil=>exact h s (by simp)
   | cons b N=>exact h b (by simp)
  unfold kp mx
  rw [if_neg (by omega),if_neg (by have:=Int.mul_pos_of_neg_of_neg hp hq; omega)]
  rfl
def Meets (f:P3→Int) (mt:P3→P3→P3):Prop:=∀ p q,f p * f q < 0→Btw p q (mt p q)
theorem mx_yes {p q:P3} (h:f p * f q < 0):mx f mt p q=[mt p q]:=by unfold mx; rw [if_pos h]
theorem mx_no {p q:P3} (h:¬ f p * f q < 0):mx f mt p q=[]:=by unfold mx; rw [if_neg h]
theorem neg_mul {a b:Int} (ha:0 < a) (hb:b < 0):a * b < 0:=Int.mul_neg_of_pos_of_neg ha hb
theorem cut_norm {b:P3} {A N:List P3} {s:P3} (hM:Meets f mt) (h:T0 ((A ++ [b]) ++ (N ++ [s]))) (hA:∀ p∈A ++ [b],0≤f p) (hN:∀ p∈N ++ [s],f p < 0) (hl:3≤((A ++ [b]) ++ (N ++ [s])).length) (hp:∃ p∈A ++ [b],0 < f p) :
  T0 (cutR f mt ((A ++ [b]) ++ (N ++ [s])))∧3≤(cutR f mt ((A ++ [b]) ++ (N ++ [s]))).length:=by
 obtain ⟨a,A',ea⟩:∃ a A',A ++ [b]=a :: A':=by
  cases A with
  | nil=>exact ⟨b,[],rfl⟩
  | cons a A=>exact ⟨a,A ++ [b],rfl⟩
 obtain ⟨n,N',en⟩:∃ n N',N ++ [s]=n :: N':=by
  cases N with
  | nil=>exact ⟨s,[],rfl⟩
  | cons n N=>exact ⟨n,N ++ [s],rfl⟩
 have fa:0≤f a:=hA a (by rw [ea]; exact List.mem_cons_self)
 have fb:0≤f b:=hA b (by simp)
 have fn:f n < 0:=hN n (by rw [en]; exact List.mem_cons_self)
 have fs:f s < 0:=hN s (by simp)
 have e:cutR f mt ((A ++ [b]) ++ (N ++ [s]))=(A ++ [b]) ++ mx f mt b n ++ mx f mt s a:=by
  unfold cutR
  rw [sgs_app,sgs_in hA,sgs_out hN,ea,en]
  rfl
 rw [e]
 have two:N≠[]→T0 ((A ++ [b]) ++ [n,s]):=fun z=>by
  refine T0.sub (List.Sublist.append (List.Sublist.refl _) ?_) h
  cases N with
  | nil=>exact absurd rfl z
  | cons m N =>
   have:m=n:=(List.cons.inj en).1
   subst this
   exact List.Sublist.cons_cons _ (List.sublist_append_right N [s])
 have oneN:T0 ((A ++ [b]) ++ [n]):=T0.sub (List.Sublist.append (List.Sublist.refl _) (List.singleton_sublist.mpr (by rw [en]; exact List.mem_cons_self))) h
 have oneS:T0 ((A ++ [b]) ++ [s]):=T0.sub (List.Sublist.append (List.Sublist.refl _) (List.singleton_sublist.mpr (by simp))) h
 by_cases hb:0 < f b
 ·have mb:f b * f n < 0:=neg_mul hb fn
  have Mb:=hM b n mb
  rw [mx_yes mb]
  by_cases ha:0 < f a
  ·have ma:f s * f a < 0:=by rw [Int.mul_comm]; exact neg_mul ha fs
   have Ma:=hM s a ma
   rw [mx_yes ma]
   refine ⟨?_,by simp⟩
   by_cases z:N=[]
   ·subst z
    have es:s=n:=(List.cons.inj en).1
    subst es
    cases A with
    | nil=>simp at hl
    | cons a2 A2 =>
     have:a2=a:=(List.cons.inj ea).1
     subst this
     have r1:T0 (A2 ++ b :: s :: a2 :: []):=by
      have:=T0.rot (a:=a2) (r:=A2 ++ [b] ++ [s]) oneS
      simpa using this
     have r2:=T0.unrot (a:=a2) (r:=A2 ++ [b,mt b s,mt s a2]) (by simpa using r1.off Mb Ma)
     simpa using r2
   ·have t:=two z
    have r1:T0 (A ++ b :: mt b n :: [s]):=T0.back (by simpa using t) Mb
    have r2:T0 (a :: (A' ++ [mt b n,s])):=by
     have:T0 ((A ++ [b]) ++ [mt b n,s]):=by simpa using r1
     rw [ea] at this
     exact this
    have r3:T0 ((A' ++ [mt b n]) ++ s :: a :: []):=by simpa using T0.rot r2
    have r4:=T0.unrot (a:=a) (r:=A' ++ [mt b n,mt s a]) (by simpa using r3.on Ma)
    rw [ea]
    simpa using r4
  ·have a0:f a=0:=by omega
   have na:A≠[]:=by
    rintro rfl
    have:b=a:=(List.cons.inj ea).1
    subst this
    exact ha hb
   rw [mx_no (by rw [a0,Int.mul_zero]; omega),List.append_nil]
   refine ⟨?_,?_⟩
   ·have r:=T0.back (xs:=A) (p:=b) (q:=n) (ys:=[]) (by simpa using oneN) Mb
    simpa using r
   ·have:=List.length_pos_iff.mpr na
    simp; omega
 ·have b0:f b=0:=by omega
  rw [mx_no (by rw [b0,Int.zero_mul]; omega),List.append_nil]
  by_cases ha:0 < f a
  ·have ma:f s * f a < 0:=by rw [Int.mul_comm]; exact neg_mul ha fs
   have Ma:=hM s a ma
   have na:A≠[]:=by
    rintro rfl
    have:b=a:=(List.cons.inj ea).1
    subst this
    exact hb ha
   rw [mx_yes ma]
   refine ⟨?_,?_⟩
   ·have r1:T0 (a :: (A' ++ [s])):=by rw [ea] at oneS; exact oneS
    have r3:T0 (A' ++ s :: a :: []):=by simpa using T0.rot r1
    have r4:=T0.unrot (a:=a) (r:=A' ++ [mt s a]) (by simpa using r3.on Ma)
    rw [ea]
    exact r4
   ·have:=List.length_pos_iff.mpr na
    simp; omega
  ·have a0:f a=0:=by omega
   rw [mx_no (by rw [a0,Int.mul_zero]; omega),List.append_nil]
   refine ⟨T0.sub (List.sublist_append_left _ _) h,?_⟩
   obtain ⟨p,hp1,hp2⟩:=hp
   have e1:p≠b:=by rintro rfl; omega
   have e2:p≠a:=by rintro rfl; omega
   have hp3:p∈A:=by
    rcases List.mem_append.mp hp1 with q | q
    ·exact q
    ·exact absurd (List.mem_singleton.mp q) e1
   cases A with
   | nil=>cases hp3
   | cons a2 A2 =>
    have:a2=a:=(List.cons.inj ea).1
    subst this
    rcases List.mem_cons.mp hp3 with q | q
    ·exact absurd q e2
    ·have:=List.length_pos_of_mem q
     simp; omega
theorem span {P:P3→Prop}:∀ ps:List P3,(∀ p,P p∨¬ P p)→∃ A r,ps=A ++ r∧(∀ p∈A,P p)∧(r=[]∨∃ x r',r=x :: r'∧¬ P x)
 | [],_=>⟨[],[],rfl,fun p hp=>absurd hp (by simp),.inl rfl⟩
 | p :: ps,em=>by
  rcases em p with h | h
  ·obtain ⟨A,r,e,hA,hr⟩:=span ps em
   refine ⟨p :: A,r,by rw [e]; rfl,fun q hq=>?_,hr⟩
   rcases List.mem_cons.mp hq with rfl | hq
   ·exact h
   ·exact hA q hq
  ·exact ⟨[],p :: ps,rfl,fun q hq=>absurd hq (by simp),.inr ⟨p,ps,rfl,h⟩⟩
theorem alt {l p q r s:P3} (h:T0 [p,q,r,s]):¬ (0≤ln l p∧ln l q < 0∧0≤ln l r∧ln l s < 0)∧¬ (ln l p < 0∧0≤ln l q∧ln l r < 0∧0≤ln l s):=by
 obtain ⟨⟨h1,h2,_⟩,⟨h3,_⟩,_⟩:=h
 have d1:=h1 r (by simp)
 have d2:=h1 s (by simp)
 have d3:=h2 s (by simp)
 have d4:=h3 s (by simp)
 have k:=four l p q r s
 constructor
 ·rintro ⟨a,b,c,d⟩
  have t1:=Int.mul_nonneg (le0 d4) a
  have t2:=Int.mul_neg_of_pos_of_neg d3 b
  have t3:=Int.mul_nonneg (le0 d2) c
  have t4:=Int.mul_neg_of_pos_of_neg d1 d
  omega
 ·rintro ⟨a,b,c,d⟩
  have t1:=Int.mul_neg_of_pos_of_neg d4 a
  have t2:=Int.mul_nonneg (le0 d3) b
  have t3:=Int.mul_neg_of_pos_of_neg d2 c
  have t4:=Int.mul_nonneg (le0 d1) d
  omega
theorem four_sub {a b c d:P3} {A B C D:List P3} (ha:a∈A) (hb:b∈B) (hc:c∈C) (hd:d∈D):[a,b,c,d].Sublist (A ++ (B ++ (C ++ D))) :=
 List.Sublist.append (List.singleton_sublist.mpr ha) (List.Sublist.append (List.singleton_sublist.mpr hb) (List.Sublist.append (List.singleton_sublist.mpr hc) (List.singleton_sublist.mpr hd)))
theorem cut_t0 {l:P3} {ps:List P3} (hM:Meets (ln l) mt) (h:T0 ps) (hl:3≤ps.length) (hp:∃ p∈ps,0 < ln l p):T0 (cutR (ln l) mt ps)∧3≤(cutR (ln l) mt ps).length:=by
 have em:∀ p,0≤ln l p∨¬ 0≤ln l p:=fun p=>by omega
 have norm:∀ A N:List P3,A≠[]→N≠[]→T0 (A ++ N)→3≤(A ++ N).length→(∀ p∈A,0≤ln l p)→(∀ p∈N,ln l p < 0)→(∃ p∈A,0 < ln l p)→T0 (cutR (ln l) mt (A ++ N))∧3≤(cutR (ln l) mt (A ++ N)).length:=fun A N hA hN t0 len pA pN ex=>by
  obtain ⟨A',b,rfl⟩:∃ A' b,A=A' ++ [b]:=⟨_,_,(List.dropLast_concat_getLast hA).symm⟩
  obtain ⟨N',s,rfl⟩:∃ N' s,N=N' ++ [s]:=⟨_,_,(List.dropLast_concat_getLast hN).symm⟩
  exact cut_norm hM t0 pA pN len ex
 obtain ⟨A1,r,rfl,hA1,hr⟩:=span (P:=fun p=>0≤ln l p) ps em
 rcases hr with rfl | ⟨x,r',rfl,hx⟩
 ·rw [List.append_nil] at h hl hp ⊢
  have ne:A1≠[]:=by rintro rfl; simp at hl
  obtain ⟨A',b,rfl⟩:∃ A' b,A1=A' ++ [b]:=⟨_,_,(List.dropLast_concat_getLast ne).symm⟩
  have e:cutR (ln l) mt (A' ++ [b])=A' ++ [b]:=by
   unfold cutR
   rw [sgs_in hA1,mx_no,List.append_nil]
   have h1:=hA1 b (by simp)
   have h2:0≤ln l ((A' ++ [b]).headD (0,0,1)):=by
    cases A' with
    | nil=>exact h1
    | cons a A'=>exact hA1 a (by simp)
   have:=Int.mul_nonneg h1 h2
   omega
  rw [e]
  exact ⟨h,hl⟩
 obtain ⟨N1,r2,e2,hN1,hr2⟩:=span (P:=fun p=>¬ 0≤ln l p) (x :: r') (fun p=>by omega)
 have nN:N1≠[]:=by
  rintro rfl
  rcases hr2 with rfl | ⟨y,q,e,hy⟩
  ·cases e2
  ·rw [e] at e2
   have:x=y:=(List.cons.inj e2).1
   subst this
   exact hy hx
 have hN1':∀ p∈N1,ln l p < 0:=fun p hp=>by have:=hN1 p hp; omega
 obtain ⟨n1,hn1⟩:=List.exists_mem_of_ne_nil N1 nN
 rw [e2] at h hl hp ⊢
 by_cases zA:A1=[]
 ·subst zA
  simp only [List.nil_append] at h hl hp ⊢
  rcases hr2 with rfl | ⟨y,q,rfl,hy⟩
  ·obtain ⟨p,hp1,hp2⟩:=hp
   rw [List.append_nil] at hp1
   have:=hN1' p hp1
   omega
  ·have hy:0≤ln l y:=by omega
   obtain ⟨A2,r3,e3,hA2,hr3⟩:=span (P:=fun p=>0≤ln l p) (y :: q) em
   have nA:A2≠[]:=by
    rintro rfl
    rcases hr3 with rfl | ⟨z,q',e,hz⟩
    ·cases e3
    ·rw [e] at e3
     have:y=z:=(List.cons.inj e3).1
     subst this
     exact hz hy
   rw [e3] at h hl hp ⊢
   have hr3':∀ w∈r3,ln l w < 0:=fun w hw=>by
    rcases hr3 with rfl | ⟨z,q',rfl,hz⟩
    ·cases hw
    ·by_cases pw:0≤ln l w
     ·rcases List.mem_cons.mp hw with rfl | hw
      ·exact absurd pw hz
      ·obtain ⟨a2,ha2⟩:=List.exists_mem_of_ne_nil A2 nA
       have t:=T0.sub (four_sub (a:=n1) (b:=a2) (c:=z) (d:=w) (A:=N1) (B:=A2) (C:=[z]) (D:=q') hn1 ha2 List.mem_cons_self hw) (by simpa using h)
       exact absurd ⟨hN1' n1 hn1,hA2 a2 ha2,by omega,pw⟩ (alt t).2
     ·omega
   refine cutR_turn ?_
   rw [List.append_assoc]
   refine norm A2 (r3 ++ N1) nA (by simp [nN]) (by rw [← List.append_assoc]; exact T0.turn h) (by simp at hl ⊢; omega) hA2 (fun p hp=>?_) ?_
   ·rcases List.mem_append.mp hp with z | z
    ·exact hr3' p z
    ·exact hN1' p z
   ·obtain ⟨p,hp1,hp2⟩:=hp
    refine ⟨p,?_,hp2⟩
    rcases List.mem_append.mp hp1 with z | z
    ·have:=hN1' p z; omega
    ·rcases List.mem_append.mp z with z | z
     ·exact z
     ·have:=hr3' p z; omega
 ·obtain ⟨a1,ha1⟩:=List.exists_mem_of_ne_nil A1 zA
  have hr2':∀ w∈r2,0≤ln l w:=fun w hw=>by
   rcases hr2 with rfl | ⟨y,q,rfl,hy⟩
   ·cases hw
   ·by_cases pw:0≤ln l w
    ·exact pw
    ·have hy:0≤ln l y:=by omega
     rcases List.mem_cons.mp hw with rfl | hw
     ·exact hy
     ·have t:=T0.sub (four_sub (a:=a1) (b:=n1) (c:=y) (d:=w) (A:=A1) (B:=N1) (C:=[y]) (D:=q) ha1 hn1 List.mem_cons_self hw) (by simpa using h)
      exact absurd ⟨hA1 a1 ha1,hN1' n1 hn1,hy,by omega⟩ (alt t).1
  rw [← List.append_assoc] at h hl hp ⊢
  refine cutR_turn ?_
  rw [← List.append_assoc]
  refine norm (r2 ++ A1) N1 (by simp [zA]) nN (by rw [List.append_assoc]; exact T0.turn h) (by simp at hl ⊢; omega) (fun p hp=>?_) hN1' ?_
  ·rcases List.mem_append.mp hp with z | z
   ·exact hr2' p z
   ·exact hA1 p z
  ·obtain ⟨p,hp1,hp2⟩:=hp
   refine ⟨p,?_,hp2⟩
   rcases List.mem_append.mp hp1 with z | z
   ·rcases List.mem_append.mp z with z | z
    ·exact List.mem_append_right _ z
    ·have:=hN1' p z; omega
   ·exact List.mem_append_left _ z
end Cut
namespace Cut
open PySem L2 L3
def mtQ (l p q:P3):P3:=if 0 < p.2.2∧0 < q.2.2 then nP (crs l (crs p q)) else if 0 < ln l q then lc (ln l q) p (-ln l p) q else lc (-ln l q) p (ln l p) q
theorem opp {x y:Int} (h:x * y < 0):(0 < x∧y < 0)∨(x < 0∧0 < y):=by
 rcases Int.lt_trichotomy x 0 with z | z | z
 ·rcases Int.lt_trichotomy y 0 with w | w | w
  ·have:=Int.mul_pos_of_neg_of_neg z w; omega
  ·rw [w,Int.mul_zero] at h; omega
  ·exact .inr ⟨z,w⟩
 ·rw [z,Int.zero_mul] at h; omega
 ·rcases Int.lt_trichotomy y 0 with w | w | w
  ·exact .inl ⟨z,w⟩
  ·rw [w,Int.mul_zero] at h; omega
  ·have:=Int.mul_pos z w; omega
theorem sc_one (p:P3):sc 1 p=p:=by unfold sc; simp
theorem sc_neg_lc {g a b:Int} {m p q:P3} (h:lc a p b q=sc g m):sc (-g) m=lc (-a) p (-b) q:=by
 have h1:=congrArg (fun x:P3=>x.1) h
 have h2:=congrArg (fun x:P3=>x.2.1) h
 have h3:=congrArg (fun x:P3=>x.2.2) h
 unfold sc lc at *
 dsimp only at h1 h2 h3 ⊢
 refine p3_ext ?_ ?_ ?_ <;> dsimp only <;> grind
theorem btw_mtQ {l p q:P3} (h:ln l p * ln l q < 0):Btw p q (mtQ l p q):=by
 unfold mtQ
 by_cases w:0 < p.2.2∧0 < q.2.2
 ·rw [if_pos w]
  have tp:crs l (crs p q)=lc (ln l q) p (-ln l p) q:=triple_product l p q
  have e3:(crs l (crs p q)).2.2=ln l q * p.2.2 + -ln l p * q.2.2:=by rw [tp]; rfl
  rcases opp h with ⟨h1,h2⟩ | ⟨h1,h2⟩
  ·have n1:ln l q * p.2.2 < 0:=by rw [Int.mul_comm]; exact Int.mul_neg_of_pos_of_neg w.1 h2
   have n2 : -ln l p * q.2.2 < 0:=by rw [Int.mul_comm]; exact Int.mul_neg_of_pos_of_neg w.2 (by omega)
   have n0:(crs l (crs p q)).2.2≠0:=by omega
   obtain ⟨g,_,hg⟩:=nP_sc n0
   have hp:=(nP_pt n0).1
   have h3:(crs l (crs p q)).2.2=g * (nP (crs l (crs p q))).2.2:=congrArg (fun x:P3=>x.2.2) hg
   have g0:g < 0:=by
    by_cases z:g < 0
    ·exact z
    ·have:=Int.mul_nonneg (show 0≤g by omega) (le0 hp)
     omega
   rw [tp] at hg
   refine ⟨-g,-ln l q,ln l p,by omega,by omega,h1,?_⟩
   have:=sc_neg_lc hg
   rw [Int.neg_neg,← tp] at this
   exact this
  ·have n1:0 < ln l q * p.2.2:=Int.mul_pos h2 w.1
   have n2:0 < -ln l p * q.2.2:=Int.mul_pos (by omega) w.2
   have n0:(crs l (crs p q)).2.2≠0:=by omega
   obtain ⟨g,_,hg⟩:=nP_sc n0
   have hp:=(nP_pt n0).1
   have h3:(crs l (crs p q)).2.2=g * (nP (crs l (crs p q))).2.2:=congrArg (fun x:P3=>x.2.2) hg
   have g0:0 < g:=by
    by_cases z:0 < g
    ·exact z
    ·have:=Int.mul_nonneg (show 0 ≤ -g by omega) (le0 hp)
     rw [Int.neg_mul] at this
     omega
   refine ⟨g,ln l q,-ln l p,g0,h2,by omega,?_⟩
   rw [← hg,tp]
 ·rw [if_neg w]
  rcases opp h with ⟨h1,h2⟩ | ⟨h1,h2⟩
  ·rw [if_neg (by omega)]
   exact ⟨1,_,_,by decide,by omega,h1,sc_one _⟩
  ·rw [if_pos h2]
   exact ⟨1,_,_,by decide,h2,by omega,sc_one _⟩
theorem ln_lc (l p q:P3) (a b:Int):ln l (lc a p b q)=a * ln l p + b * ln l q:=by unfold ln lc; dsimp only; grind
theorem ln_sc (l p:P3) (s:Int):ln l (sc s p)=s * ln l p:=by unfold ln sc; dsimp only; grind
theorem sgs_mem {f:P3→Int} {mt:P3→P3→P3} {x:P3}:∀ {ps:List P3} {w:P3},x∈sgs f mt ps w→(x∈ps∧0≤f x)∨∃ p∈ps,∃ q,(q∈ps∨q=w)∧f p * f q < 0∧x=mt p q
 | [],_,h=>by cases h
 | p :: r,w,h=>by
  have h:x∈kp f p ++ mx f mt p (r.headD w) ++ sgs f mt r w:=h
  rcases List.mem_append.mp h with h | h
  ·rcases List.mem_append.mp h with h | h
   ·unfold kp at h
    split at h
    ·rename_i z
     rw [List.mem_singleton.mp h]
     exact .inl ⟨List.mem_cons_self,z⟩
    ·cases h
   ·unfold mx at h
    split at h
    ·rename_i z
     refine .inr ⟨p,List.mem_cons_self,r.headD w,?_,z,List.mem_singleton.mp h⟩
     cases r with
     | nil=>exact .inr rfl
     | cons y r=>exact .inl (List.mem_cons_of_mem _ List.mem_cons_self)
    ·cases h
  ·rcases sgs_mem h with ⟨h1,h2⟩ | ⟨p',h1,q,h2,h3,h4⟩
   ·exact .inl ⟨List.mem_cons_of_mem _ h1,h2⟩
   ·refine .inr ⟨p',List.mem_cons_of_mem _ h1,q,?_,h3,h4⟩
    rcases h2 with h2 | h2
    ·exact .inl (List.mem_cons_of_mem _ h2)
    ·exact .inr h2
theorem cutR_mem {f:P3→Int} {mt:P3→P3→P3} {x:P3} {ps:List P3} (h:x∈cutR f mt ps):(x∈ps∧0≤f x)∨∃ p∈ps,∃ q∈ps,f p * f q < 0∧x=mt p q:=by
 rcases sgs_mem h with h | ⟨p,h1,q,h2,h3⟩
 ·exact .inl h
 ·refine .inr ⟨p,h1,q,?_,h3⟩
  rcases h2 with h2 | h2
  ·exact h2
  ·cases ps with
   | nil=>cases h1
   | cons a r=>rw [h2]; exact List.mem_cons_self
end Cut
namespace L2
open PySem PySem.Spec PyProof.Rows PySem.W
section
variable {X:Cx} {pins:List (Addr×Obj)} {σ:St} {H:Hp} {s:Shared} {h':Heap}
theorem Inv.turned2 {t':Nat} {it e:Addr} (I:Inv X pins σ H s) (k:∀ b o,b≠it→b≠e→s.heap.get? b=some o→h'.get? b=some o) (fi:FpOk X pins H it) (fe:FpOk X pins H e):Inv X pins σ H { s with heap:=h',toks:=t' }:=by
 obtain ⟨i0,i1,i2,i3,i4,i5⟩:=fi
 obtain ⟨e0,e1,e2,e3,e4,e5⟩:=fe
 have nit:∀ b u,H b=some u→b≠it∧b≠e:=fun b u q=>⟨(fun z=>by rw [z,i0] at q; cases q),(fun z=>by rw [z,e0] at q; cases q)⟩
 have kk:∀ b o,b ∉ [it,e]→s.heap.get? b=some o→h'.get? b=some o:=fun b o hc q=>k b o (fun z=>hc (by simp [z])) (fun z=>hc (by simp [z])) q
 refine I.step (g':=s.gens) (d':=s.drawn) (ch:=[it,e]) (fun b hb=>?_) (fun b o _ _ hc q _=>kk b o hc q) (fun b o _ _ hc q _=>⟨o.slots,kk b o hc q⟩) (fun _ _ _ _ n=>n)
  (fun b o hc q=>⟨o,kk b o hc q⟩) (fun _ _ e=>e) (fun _ _ _ e=>e) (fun b ps q=>⟨#[],by rw [q]; simp⟩) (fun m hm=>?_) (fun b u q=>?_) I.bare
 ·rcases List.mem_cons.mp hb with rfl | hb
  ·exact ⟨i3,i1,i4,i5⟩
  ·rw [List.mem_singleton.mp hb]; exact ⟨e3,e1,e4,e5⟩
 ·obtain ⟨o,es,ep,ho,r⟩:=hm
  exact ⟨o,es,ep,k _ o (Ne.symm i1) (Ne.symm e1) ho,r⟩
 ·refine (I.hok b u q).stay (fun c v hc y=>k c v ?_ ?_ y) (fun _ q=>q) fun _ _ q=>q
  ·rcases hc with z | z
   ·rw [z]; exact (nit b u q).1
   ·exact (nit c _ z).1
  ·rcases hc with z | z
   ·rw [z]; exact (nit b u q).2
   ·exact (nit c _ z).2
end
def Ite (K:PySem.W.Frag) (a:Addr):It :=
 ⟨fun i H=>∃ xs x,SqL K H a xs∧xs[i]?=some x,fun i H x H'=>∃ p y,H p=none∧x=.ref p∧H'=upd H p (.tup [.int i,y])∧∀ xs,SqL K H a xs→xs[i]?=some y,fun i H=>∃ xs,SqL K H a xs∧xs.length≤i⟩
theorem turn_enum {P:Program} {w:World} {K:PySem.W.Frag} {elts:List Expr} {k:Nat} {pos:Pos} (a it e:Addr) (hne:e≠it):Turn P w K (.Tuple elts k pos) (Ite K a) [e,it] e (fun i h=>(∃ old,IsEnum h e it (i:Nat) old)∧h.IsListIter it a i) where
 mem:=by simp
 obj:=fun i h st b hb=>by
  obtain ⟨⟨old,he⟩,o,ho,c,d⟩:=st
  rcases List.mem_cons.mp hb with rfl | hb
  ·exact ⟨_,he,fun v z=>by cases z⟩
  ·rw [List.mem_singleton.mp hb]
   exact ⟨o,ho,fun v z=>by rw [d] at z; cases z⟩
 keep:=fun i h h' st kp=>by
  obtain ⟨⟨old,he⟩,hi⟩:=st
  exact ⟨⟨old,kp e (by simp) _ he⟩,hi.at fun o q=>kp it (by simp) o q⟩
 item:=by
  intro X hP hw hK hc i pins s σ H E I hf st hg
  subst hP hw hK
  obtain ⟨xs,x,hq,hx⟩:=hg
  obtain ⟨⟨old,he⟩,hi⟩:=st
  obtain ⟨its,rv,p,hz⟩:=I.list hq
  obtain ⟨u,hu,ru⟩:=rv.get hx
  have fe:=hf e (by simp)
  have fi:=hf it (by simp)
  have elt:e < s.heap.objs.size:=Heap.lt_size he
  have ilt:it < s.heap.objs.size:=by obtain ⟨o,ho,_⟩:=id hi; exact Heap.lt_size ho
  refine wpAny_pyNext_enum_item he hi p.isList (x:=u) (by simpa using hu) hne fun h1 out hi1 ht hs1 kp=>⟨_,rfl,wpAny_letOwnedTupleGo_enum out fun h2 he2 sb=>?_⟩
  have Te:s.heap.objs.size≠e:=Nat.ne_of_gt elt
  have Ti:s.heap.objs.size≠it:=Nat.ne_of_gt ilt
  have I0:Inv X pins σ (upd H s.heap.objs.size (.tup [.int i,x])) { s with heap:=s.heap.push { cls:=.type "tuple", data:=.seq #[.int i s.toks,u] },toks:=s.toks + 1 } :=
   I.laid (t':=s.toks + 1) (fun _ _ q=>Heap.get?_push_of_some _ q) (Nat.le_refl _) ⟨by show 2≤sizeLine; decide,[.int i s.toks,u],.cons ⟨_,rfl⟩ (.cons ru .nil),⟨_,Heap.get?_push_size _ rfl,rfl,_,rfl⟩⟩
  have up:∀ b,FpOk X pins H b→b≠s.heap.objs.size→FpOk X pins (upd H s.heap.objs.size (.tup [.int i,x])) b:=fun b f n=>⟨by rw [upd_ne n]; exact f.1,f.2⟩
  have I1:=I0.turned2 (h':=h2) (t':=s.toks + 1) (it:=it) (e:=e) (fun b o n1 n2 q=>by
   rw [sb.2 b n2]
   by_cases z:b=s.heap.objs.size
   ·subst z
    rw [Heap.get?_push_size _ rfl] at q
    rw [← q]; exact ht
   ·refine kp b o n2 n1 ?_
    rw [← q]
    exact (Heap.get?_push_ne s.heap b _ z).symm) (up it fi (Ne.symm Ti)) (up e fe (Ne.symm Te))
  refine ⟨.ref s.heap.objs.size,_,I1,rfl,⟨s.heap.objs.size,x,I.fresh,rfl,rfl,fun ys hy=>by rw [I.list_inj hy hq]; exact hx⟩,⟨⟨_,he2⟩,hi1.at fun o q=>(sb.2 it (Ne.symm hne)).trans q⟩,fun b hb=>?_⟩
  rcases List.mem_cons.mp hb with rfl | hb
  ·exact (up _ fe (Ne.symm Te)).1
  ·rw [List.mem_singleton.mp hb]; exact (up it fi (Ne.symm Ti)).1
 done:=by
  intro X hP hw hK hc i pins s σ H E I hf st hg
  subst hP hw hK
  obtain ⟨xs,hq,hx⟩:=hg
  obtain ⟨⟨old,he⟩,hi⟩:=st
  obtain ⟨its,rv,p,hz⟩:=I.list hq
  obtain ⟨f0,f1,f2,f3,f4,f5⟩:=hf it (by simp)
  have hl:=rv.length
  exact wpAny_pyNext_enum_end (I.ok.hd hc) he hi p.isList (by simp; omega) fun h' eb=>⟨rfl,I.turned (t':=s.toks) (fun b o hb q=>eb b o hb q) f0 f1 f3 f4 f5⟩
 self:=fun _ _ _ _ _ st h=>by
  obtain ⟨⟨old,he⟩,_⟩:=st
  exact wpAny_pyIter_enum he h
def iEnum (K:PySem.W.Frag) (ta:TA):TI:=fun σ H R=>ta σ H fun vs H1=>∃ a,vs=[.ref a]∧(∃ xs,SqL K H1 a xs)∧R (Ite K a) H1
theorem pi_enum {X:Cx} {elts:List Expr} {k:Nat} {tp:Pos} {a:Expr} {ta:TA} {p pos:Pos} (hg:Gl X "enumerate") (hm:X.mg "enumerate" = none) (ha:PA X [a] ta) (hs:starEach [a] X.env=[(false,eval a X.env)]:=by rfl):PI X (.Tuple elts k tp) (.Call (.Name "enumerate" p) [a] [] pos) (iEnum X.K ta):=by
 intro pins s σ H R I h
 refine Call_ (ld_blt I hg hm (by decide +kernel:bootBuiltins "enumerate" = some (.type "enumerate")) (PyProof.Rows.callWith_type1 (thn (ha pos pins s σ H _ I h) fun us s1 ⟨vs,H1,I1,r1,q1⟩=>?_) hs rfl))
 obtain ⟨l,e,⟨xs,hq⟩,q⟩:=q1
 subst e
 obtain ⟨u,rfl,r⟩:=vals1 r1
 cases r
 obtain ⟨its,rv,pl,hz⟩:=I1.list hq
 refine call_enumerate_list pl.isList fun h' en li sz kp=>wpAny_pyIter_enum en ?_
 refine ⟨s1.heap.objs.size + 1,[s1.heap.objs.size + 1,s1.heap.objs.size],_,_,H1,rfl,I1.kept (t':=s1.toks) kp,turn_enum l s1.heap.objs.size (s1.heap.objs.size + 1) (Nat.succ_ne_self _),⟨⟨_,en⟩,li⟩,fun b hb=>?_,q⟩
 rcases List.mem_cons.mp hb with rfl | hb
 ·exact I1.fpOk (Nat.le_succ _) (I1.hok.fresh (Nat.le_succ _))
 ·rw [List.mem_singleton.mp hb]; exact I1.fpOk (Nat.le_refl _) (I1.hok.fresh (Nat.le_refl _))
end L2
namespace L3
open PySem L2
def prs:Nat→List D→List D
 | _,[]=>[]
 | n,d :: r=>.tup [.int (n:Nat),d] :: prs (n + 1) r
section
variable {X:Cx} {a:Expr} {u:UE} {pos p:Pos}
end
end L3
namespace L3
open PySem L2
theorem forR_prs {α:Type} {f:α→D} {s:US} {U:UEnds} {i j:Nat} (I:List α→List Sl→Prop):∀ {rs done:List α} {ρ:List Sl},I done ρ →
  (∀ (pre:List α) (r:α) (rest:List α) ρ,done ++ rs=pre ++ r :: rest→I pre ρ→∀ N:List Sl→Prop,(∀ r',I (pre ++ [r]) r'→N r')→s { U with nx:=N,ct:=N,bk:=U.nx } ((ρ.set i (.val (.int pre.length))).set j (.val (f r))))→(∀ ρ,I (done ++ rs) ρ→U.nx ρ) →
  forR (ugTup 2 (ugCons (ugName i) (ugCons (ugName j) ugNil))) s U (prs done.length (rs.map f)) ρ
 | [],done,ρ,h0,_,h2=>h2 ρ (by rw [List.append_nil]; exact h0)
 | r :: rs,done,ρ,h0,h1,h2=>by
  refine ⟨_,rfl,rfl,_,_,rfl,_,_,rfl,rfl,h1 done r rs ρ rfl h0 _ fun r' hr=>?_⟩
  have e:done ++ r :: rs=(done ++ [r]) ++ rs:=by simp
  rw [e] at h1 h2
  have:=forR_prs I hr h1 h2
  rw [List.length_append] at this
  exact this
end L3
namespace Cut
open PySem L2 L3
theorem sg_mul_neg {x y:Int}:sg x * sg y < 0↔x * y < 0:=by
 constructor
 ·intro h
  rcases opp h with ⟨a,b⟩ | ⟨a,b⟩
  ·have h1:0 < x:=by unfold sg at a; split at a <;> first | assumption | (split at a <;> omega)
   have h2:y < 0:=by unfold sg at b; split at b <;> first | omega | (split at b <;> first | assumption | omega)
   exact Int.mul_neg_of_pos_of_neg h1 h2
  ·have h1:x < 0:=by unfold sg at a; split at a <;> first | omega | (split at a <;> first | assumption | omega)
   have h2:0 < y:=by unfold sg at b; split at b <;> first | assumption | (split at b <;> omega)
   rw [Int.mul_comm]
   exact Int.mul_neg_of_pos_of_neg h2 h1
 ·intro h
  rcases opp h with ⟨a,b⟩ | ⟨a,b⟩
  ·have e1:sg x=1:=sg_pos a
   have e2:sg y = -1:=by unfold sg; rw [if_neg (by omega),if_pos b]
   rw [e1,e2]; decide
  ·have e1:sg x = -1:=by unfold sg; rw [if_neg (by omega),if_pos a]
   have e2:sg y=1:=sg_pos b
   rw [e1,e2]; decide
theorem sg_ge {x:Int}:0≤sg x↔0≤x:=by unfold sg; split <;> first | omega | (split <;> omega)
theorem sg_le {x:Int}:sg x≤0↔x≤0:=by unfold sg; split <;> first | omega | (split <;> omega)
theorem next_at {pre rest:List P3} {c a0:P3} (h:(pre ++ c :: rest).headD a0=a0):nth (pre ++ c :: rest) ((pre.length + 1) % (pre ++ c :: rest).length)=rest.headD a0:=by
 cases rest with
 | nil =>
  have e:(pre.length + 1) % (pre ++ [c]).length=0:=by rw [List.length_append]; simp
  rw [e]
  cases pre with
  | nil=>exact h
  | cons p pre=>exact h
 | cons d rest =>
  rw [Nat.mod_eq_of_lt (by simp)]
  unfold nth
  rw [List.getElem?_append_right (by omega)]
  simp
end Cut
namespace Cut
open PySem L2 L3
theorem atI_nat {α:Type} {xs:List α} {i:Nat} {x:α} (h:xs[i]?=some x):atI xs (i:Int)=some x:=by
 have lt:i < xs.length:=(List.getElem?_eq_some_iff.mp h).1
 unfold atI
 have e:L2.ixN xs.length (i:Int)=some i:=by
  unfold L2.ixN
  rw [if_pos (by omega)]
  simp [lt]
 rw [e]
 exact h
theorem at_mid {α:Type} {h:P3→α} {pre rest:List P3} {c:P3}:atI ((pre ++ c :: rest).map h) (pre.length:Int)=some (h c):=by
 refine atI_nat ?_
 rw [List.getElem?_map,List.getElem?_append_right (Nat.le_refl _)]
 simp
theorem at_nxt {α:Type} {h:P3→α} {ps pre rest:List P3} {c a0:P3} (e:ps=pre ++ c :: rest) (ha:ps.headD a0=a0):atI (ps.map h) (((pre.length:Int) + 1) % (ps.length:Int))=some (h (rest.headD a0)):=by
 subst e
 have n0:0 < (pre ++ c :: rest).length:=by rw [List.length_append,List.length_cons]; omega
 have lt:=Nat.mod_lt (pre.length + 1) n0
 have e1:((pre.length:Int) + 1) % ((pre ++ c :: rest).length:Int)=(((pre.length + 1) % (pre ++ c :: rest).length:Nat):Int):=by rw [Int.natCast_emod]; rfl
 rw [e1]
 refine atI_nat ?_
 rw [List.getElem?_map]
 have:=next_at ha
 unfold nth at this
 rw [List.getElem?_eq_getElem lt] at this ⊢
 simp at this
 simp [this]
theorem sgs_one {f:P3→Int} {mt:P3→P3→P3} {pre:List P3} {c w:P3}:sgs f mt (pre ++ [c]) w=sgs f mt pre c ++ kp f c ++ mx f mt c w:=by
 rw [sgs_app]
 show sgs f mt pre c ++ (kp f c ++ mx f mt c w ++ [])=_
 rw [List.append_nil,List.append_assoc]
end Cut
namespace Cut
open PySem L2 L3
theorem sgs_len {f:P3→Int} {mt:P3→P3→P3}:∀ {ps:List P3} {w:P3},(sgs f mt ps w).length≤2 * ps.length
 | [],_=>Nat.le_refl _
 | p :: r,w=>by
  show (kp f p ++ mx f mt p (r.headD w) ++ sgs f mt r w).length≤_
  have h:=sgs_len (f:=f) (mt:=mt) (ps:=r) (w:=w)
  have h1:(kp f p).length≤1:=by unfold kp; split <;> simp
  have h2:(mx f mt p (r.headD w)).length≤1:=by unfold mx; split <;> simp
  rw [List.length_append,List.length_append,List.length_cons]
  omega
theorem sg_bd (x:Int) : -1≤sg x∧sg x≤1:=by unfold sg; split <;> first | omega | (split <;> omega)
theorem sg_bits (x:Int):PySem.Builtin.Int.intBits (sg x)≤9000:=by
 have:=sg_bd x
 have eT:(10:Int) ^ 30=1000000000000000000000000000000:=rfl
 exact Nat.le_trans (bits30 (by omega) (by omega)) (by decide)
end Cut
namespace Cut
open PySem L2 L3
theorem kp_yes {f:P3→Int} {c:P3} (h:0≤f c):kp f c=[c]:=by unfold kp; rw [if_pos h]
theorem kp_no {f:P3→Int} {c:P3} (h:¬ 0≤f c):kp f c=[]:=by unfold kp; rw [if_neg h]
theorem mtQ_pt {l p q:P3} (hp:PtP p) (hq:PtP q):nP (crs l (crs p q))=mtQ l p q:=by unfold mtQ; rw [if_pos ⟨hp.1,hq.1⟩]
theorem meet_ne {l p q:P3} (hp:PtP p) (hq:PtP q) (h:ln l p * ln l q < 0):(crs l (crs p q)).2.2≠0:=by
 rw [show (crs l (crs p q)).2.2=ln l q * p.2.2 + -ln l p * q.2.2 by rw [triple_product l p q]; rfl]
 have w1:=hp.1
 have w2:=hq.1
 rcases opp h with ⟨a,b⟩ | ⟨a,b⟩
 ·have n1:ln l q * p.2.2 < 0:=by rw [Int.mul_comm]; exact Int.mul_neg_of_pos_of_neg w1 b
  have n2 : -ln l p * q.2.2 < 0:=by rw [Int.mul_comm]; exact Int.mul_neg_of_pos_of_neg w2 (by omega)
  omega
 ·have n1:0 < ln l q * p.2.2:=Int.mul_pos b w1
  have n2:0 < -ln l p * q.2.2:=Int.mul_pos (by omega) w2
  omega
theorem sg_one_mem {l:P3} {ps:List P3}:D.int 1∈ps.map (fun c=>D.int (sg (ln l c)))↔∃ c∈ps,0 < ln l c:=by
 rw [List.mem_map]
 constructor
 ·rintro ⟨c,hc,e⟩
  exact ⟨c,hc,sg_one (D.int.inj e)⟩
 ·rintro ⟨c,hc,h⟩
  exact ⟨c,hc,by rw [sg_pos h]⟩
theorem sg_neg_mem {l:P3} {ps:List P3}:D.int (-1)∈ps.map (fun c=>D.int (sg (ln l c)))↔∃ c∈ps,ln l c < 0:=by
 rw [List.mem_map]
 constructor
 ·rintro ⟨c,hc,e⟩
  refine ⟨c,hc,?_⟩
  have:=D.int.inj e
  unfold sg at this
  split at this
  ·omega
  ·split at this <;> omega
 ·rintro ⟨c,hc,h⟩
  exact ⟨c,hc,by unfold sg; rw [if_neg (by omega),if_pos h]⟩
end Cut
namespace L3
open PySem L2
def unold:Sl→Sl
 | .new d=>.val d
 | .pin _ d=>.val d
 | .own (.d _ _ _ _)=>.no
 | s=>s
def look (s:Sl):Sl:=fz1 (unold s)
section
variable {K:PySem.W.Frag} {R:Hp} {W:Addr→Prop} {B B' H H':Hp} {σ:St} {ρ:List Sl}
theorem look_map:(ρ.map unold).map fz1=ρ.map look:=by rw [List.map_map]; rfl
theorem unold_mut {i:Nat} {a:Addr} (m:MutAt σ (ρ.map unold) i a):MutAt σ ρ i a:=by
 obtain ⟨h1,h2⟩:=m
 refine ⟨h1,?_⟩
 rw [List.getElem?_map] at h2
 cases q:ρ[i]? with
 | none=>rw [q] at h2; rcases h2 with h2 | ⟨_,h2⟩ <;> cases h2
 | some k0 =>
  rw [q] at h2
  cases k0 with
  | bag=>exact .inl rfl
  | own ds=>exact .inr ⟨ds,rfl⟩
  | no=>rcases h2 with h2 | ⟨_,h2⟩ <;> cases h2
  | new d=>rcases h2 with h2 | ⟨_,h2⟩ <;> cases h2
  | pin v d=>rcases h2 with h2 | ⟨_,h2⟩ <;> cases h2
  | val d=>rcases h2 with h2 | ⟨_,h2⟩ <;> cases h2
theorem unold_bag {i:Nat}:(ρ.map unold)[i]?=some .bag↔ρ[i]?=some .bag:=by
 rw [List.getElem?_map]
 constructor
 ·intro h
  cases q:ρ[i]? with
  | none=>rw [q] at h; cases h
  | some k0 =>
   rw [q] at h
   cases k0 with
   | bag=>rfl
   | own ds=>cases ds <;> cases h
   | no=>cases h
   | new d=>cases h
   | pin v d=>cases h
   | val d=>cases h
 ·intro h; rw [h]; rfl
theorem unold_frW {a:Addr}:frW W σ (ρ.map unold) a↔frW W σ ρ a:=by
 unfold frW
 constructor
 ·rintro (h | ⟨i,h1,h2⟩)
  ·exact .inl h
  ·exact .inr ⟨i,h1,unold_bag.mp h2⟩
 ·rintro (h | ⟨i,h1,h2⟩)
  ·exact .inl h
  ·exact .inr ⟨i,h1,unold_bag.mpr h2⟩
theorem Ev.wide (e:Ev K R W B H σ ρ):Ev K R W (mixB R W B) H σ (ρ.map unold):=by
 have nm:∀ a,R a=none→mixB R W B a=B a:=fun a h=>mixB_no fun vs z=>by rw [h] at z; cases z
 refine ⟨⟨e.fr,mixB_now e.toWd,fun a z=>by rw [mixB_W z]; exact e.wb a z,e.wh,e.wr⟩,by rw [List.length_map]; exact e.len,fun i k h=>?_,fun i j a m1 m2=>e.sep i j a (unold_mut m1) (unold_mut m2)⟩
 rw [List.getElem?_map] at h
 cases q:ρ[i]? with
 | none=>rw [q] at h; cases h
 | some k0 =>
  rw [q] at h
  have h:=Option.some.inj h
  subst h
  have z:=e.ok i _ q
  cases k0 with
  | no=>trivial
  | new d=>exact z
  | pin v d=>exact ⟨v,z⟩
  | val d =>
   obtain ⟨v,h1,h2⟩:=z
   exact ⟨v,h1,h2.mono (mixB_in e.toWd)⟩
  | own ds =>
   cases ds with
   | d _ _ _ _=>trivial
   | l ds =>
   obtain ⟨a,h1,h2,h3,h4⟩:=z
   exact ⟨a,h1,h2,by rw [nm a h2]; exact h3,h4.mono (mixB_in e.toWd) rfl⟩
  | bag =>
   obtain ⟨b,h1,h2,h3,h4⟩:=z
   refine ⟨b,h1,h2,?_,h4⟩
   rcases h2 with h2 | h2
   ·rw [mixB_W h2]; exact h3
   ·rw [nm b h2]; exact h3
theorem newL_non {a:Addr} {o:HO} (h:B a=some o) (n:∀ vs,o≠.lst vs):newL R B a=some o:=by
 unfold newL
 rw [h]
 cases o with
 | lst vs=>exact absurd rfl (n vs)
 | _=>rfl
noncomputable abbrev lookB (R:Hp) (W:Addr→Prop) (B H:Hp) (σ:St) (ρ:List Sl):Hp:=frB (mixB R W B) H σ (ρ.map unold)
theorem Ev.looked (e:Ev K R W B H σ ρ) {B2 H2:Hp} (wd:Wd H (frW W σ (ρ.map unold)) B2 H2) (g:Grow H (lookB R W B H σ ρ) B2) :
  ∃ B',Ev K R W B' H2 σ ρ∧Grow R B B'∧Same (newL H B2) (newL R B')∧∀ a,H a=none→B' a=B2 a:=by
 have u:=e.unframe (H':=H2) (fun a o h nw=>wd.fr a o h fun z=>nw (unold_frW.mp z)) (fun a h=>wd.wh a (unold_frW.mpr h))
 obtain ⟨B1,b1,b2⟩:∃ B1:Hp,(∀ a,H a=none→B1 a=B2 a)∧∀ a,H a≠none→B1 a=B a :=
  ⟨fun a=>match H a with | none=>B2 a | some _=>B a,fun a h=>by dsimp only; rw [h],fun a h=>by
   dsimp only
   cases q:H a with
   | none=>exact absurd q h
   | some o=>rfl⟩
 have s:Same B B1:=fun a o h=>by rw [b2 a (by rw [e.bh a o h]; simp)]; exact h
 refine ⟨B1,u.move ⟨u.fr,fun a o h=>?_,fun a z=>?_,u.wh,u.wr⟩ s fun i a m=>⟨?_,fun z=>?_,fun _=>rfl⟩,⟨s,fun a o h=>?_⟩,fun a o h=>?_,b1⟩
 ·by_cases q:H a=none
  ·rw [b1 a q] at h; exact wd.bh a o h
  ·rw [b2 a q] at h; exact u.bh a o h
 ·obtain ⟨x,y,q,_⟩:=e.wh a z
  rw [b2 a (by rw [q]; simp)]; exact e.wb a z
 ·rw [b2 a (e.mutOk m).2]; exact (e.mutOk m).1
 ·obtain ⟨b,c1,_,_,c4⟩:=u.bagAt z
  rw [m.1] at c1; cases c1
  exact c4
 ·by_cases q:H a=none
  ·exact .inr (e.toWd.fresh q).1
  ·rw [b2 a q] at h; exact .inl h
 ·have h2:=newL_sub a o h
  by_cases q:H a=none
  ·have hb:B1 a=some o:=by rw [b1 a q]; exact h2
   cases o with
   | lst vs=>exact newL_at hb (e.toWd.fresh q).1
   | _=>exact newL_non hb (fun _ z=>by cases z)
  ·have nl:∀ vs,o≠.lst vs:=fun vs z=>by
    subst z
    exact q (newL_out h).2
   refine newL_non ?_ nl
   rw [b2 a q]
   rcases g.n a o h2 with z | z
   ·by_cases w:OwnAd σ (ρ.map unold) a
    ·obtain ⟨i,ds,w1,w2⟩:=id w
     cases ds with
     | d bb tt kk dd =>
      rw [List.getElem?_map] at w2
      cases q:ρ[i]? with
      | none=>rw [q] at w2; cases w2
      | some k0 =>
       rw [q] at w2
       have w2:=Option.some.inj w2
       cases k0 with
       | own c=>cases c <;> simp [unold] at w2
       | _=>simp [unold] at w2
     | l ds =>
     obtain ⟨b,vs,c1,_,_,c4,_⟩:=e.wide.ownAt w2
     rw [w1] at c1; cases c1
     rw [lookB,frB_own w,c4] at z
     cases z
     exact absurd rfl (nl vs)
    ·rw [lookB,frB_not w] at z
     rcases mixB_out z with z | ⟨_,_,vs,z⟩
     ·exact z
     ·exact absurd z (nl vs)
   ·exact absurd z q
theorem Ev.lookF (e:Ev K R W B H σ ρ):Ev K H (frW W σ (ρ.map unold)) (lookB R W B H σ ρ) H σ (ρ.map look):=by
 have:=e.wide.frame
 rw [look_map] at this
 exact this
end
section
variable {K:PySem.W.Frag} {X:Cx} {e:Expr} {es:List Expr} {u:UE} {w:UL} {pos p:Pos}
def uLook (u:UE):UE:=fun ρ k=>u (ρ.map look) fun d=>flat d=true∧k d
theorem e_look (h:PE3 X e u):PE3 X e (uLook u):=by
 obtain ⟨_,h1,r1⟩:=h
 refine ⟨_,h1,fun ρ k h R W B H σ Q e q=>?_⟩
 refine r1 _ _ h _ _ _ _ _ _ e.lookF fun d v B2 H2 z e' g s=>?_
 obtain ⟨B1,e1,g1,s1,_⟩:=e.looked e'.toWd g
 exact q d v B1 H2 z.2 e1 g1 (((s.flat z.1).mono s1).mono newL_sub)
def uLookD (u:UE):UE:=fun ρ k=>u (ρ.map look) k
theorem d_look (h:PD3 X e u):PD3 X e (uLookD u):=by
 obtain ⟨_,h1,r1⟩:=h
 refine ⟨_,h1,fun ρ k h R W B H σ Q e q=>?_⟩
 refine r1 _ _ h _ _ _ _ _ _ e.lookF fun d v B2 H2 z e' g s=>?_
 obtain ⟨B1,e1,g1,s1,_⟩:=e.looked e'.toWd g
 exact q d v B1 H2 z e1 g1 (s.mono s1)
theorem d_e (h:PD3 X e u):PE3 X e u:=by
 obtain ⟨_,h1,r1⟩:=h
 refine ⟨_,h1,fun ρ k h R W B H σ Q e q=>?_⟩
 exact r1 ρ k h R W B H σ _ e fun d v B1 H1 z e1 g1 s1=>q d v B1 H1 z e1 g1 (s1.mono newL_sub)
def uLookO (w:UL):UL:=fun ρ k=>w (ρ.map look) fun ds=>flats ds=true∧k ds
theorem refLookO {t:TE} (r1:RefO K t w):RefO K t (uLookO w):=by
 intro ρ k h R W B H σ Q e q
 refine r1 _ _ h _ _ _ _ _ _ e.lookF fun ds a vs B2 H2 z e' g f1 f2 f3 f4 f5=>?_
 obtain ⟨B1,e1,g1,s1,b1⟩:=e.looked e'.toWd g
 exact q ds a vs B1 H2 z.2 e1 g1 (e.toWd.fresh f1).1 (by rw [b1 a f1]; exact f2) f3 (((f4.flat z.1).mono s1).mono newL_sub) fun i m=>(e.mutOk m).2 f1
def RefGO (K:PySem.W.Frag) (g:TG) (u:UG):Prop:=∀ (d:D) (ρ:List Sl) (k:List Sl→Prop),u d ρ k→∀ (R:Hp) (W:Addr→Prop) (B H:Hp) (σ:St) (v:V) (Q:St→Hp→Prop),Ev K R W B H σ ρ→Rep K (mixB R W B) v d →
 (∀ ρ' σ',k ρ'→Ev K R W B H σ' ρ'→Q σ' H)→g v σ H Q
def RefGOs (K:PySem.W.Frag) (g:TGs) (u:UGs):Prop:=∀ (ds:List D) (ρ:List Sl) (k:List Sl→Prop),u ds ρ k→∀ (R:Hp) (W:Addr→Prop) (B H:Hp) (σ:St) (vs:List V) (Q:St→Hp→Prop),Ev K R W B H σ ρ→Reps K (mixB R W B) vs ds →
 (∀ ρ' σ',k ρ'→Ev K R W B H σ' ρ'→Q σ' H)→g vs σ H Q
def PGO3 (X:Cx) (e:Expr) (u:UG):Prop:=∃ t,PG X e t∧RefGO X.K t u
def PGOs3 (X:Cx) (e:List Expr) (u:UGs):Prop:=∃ t,PGs X e t∧RefGOs X.K t u
theorem mixB_flat {R:Hp} {W:Addr→Prop} {B H:Hp} {v:V} {d:D} (w:Wd R W B H) (r:Rep K (mixB R W B) v d) (f:flat d=true):Rep K B v d:=by
 refine (r.flat (R:=H) f).mono fun a o h=>?_
 have h2:=newL_sub a o h
 rcases mixB_out h2 with z | ⟨_,_,vs,rfl⟩
 ·exact z
 ·have:=(newL_out h).2
  rw [mixB_now w a _ h2] at this
  cases this
def ugOld (i:Nat):UG:=fun d ρ k=>k (ρ.set i (.new d))
def ugFlat (i:Nat):UG:=fun d ρ k=>flat d=true∧k (ρ.set i (.val d))
theorem go_old {i:Nat} {x:Str} (hN:X.N.Nodup) (hi:X.N[i]?=some x) (hx:Loc X.env.scope x) (hf:X.fn x=true∨X.env.scope.names.lookup x=some .local:=by first | exact .inl rfl | exact .inr rfl | assumption):PGO3 X (.Name x pos) (ugOld i) :=
 ⟨_,pg_name hN hi hx hf,fun d ρ k h R W B H σ v Q e r q=>q _ _ h (e.set i ⟨v,rfl,r⟩ fun _ _ z=>by rcases z with z | ⟨_,z⟩ <;> cases z)⟩
theorem go_flat {i:Nat} {x:Str} (hN:X.N.Nodup) (hi:X.N[i]?=some x) (hx:Loc X.env.scope x) (hf:X.fn x=true∨X.env.scope.names.lookup x=some .local:=by first | exact .inl rfl | exact .inr rfl | assumption):PGO3 X (.Name x pos) (ugFlat i) :=
 ⟨_,pg_name hN hi hx hf,fun d ρ k h R W B H σ v Q e r q=>q _ _ h.2 (e.setV i (mixB_flat e.toWd r h.1))⟩
theorem gos_nil:PGOs3 X [] ugNil:=⟨_,pgs_nil,fun ds ρ k h R W B H σ vs Q e r q=>by
 obtain ⟨rfl,h⟩:=h
 cases r
 exact ⟨rfl,q _ _ h e⟩⟩
theorem gos_cons {g:UG} {gs:UGs} (h1:PGO3 X e g) (h2:PGOs3 X es gs) (hs:(assignEach (e :: es) X.env).map (·.2)=assign e X.env :: (assignEach es X.env).map (·.2):=by rfl):PGOs3 X (e :: es) (ugCons g gs):=by
 obtain ⟨_,h1,r1⟩:=h1; obtain ⟨_,h2,r2⟩:=h2
 refine ⟨_,pgs_cons h1 h2 hs,fun ds ρ k h R W B H σ vs Q e r q=>?_⟩
 obtain ⟨d,rr,rfl,h⟩:=h
 cases r with
 | cons rv rs =>
  refine ⟨_,_,rfl,r1 d ρ _ h R W B H σ _ _ e rv fun ρ' σ' z e'=>?_⟩
  exact r2 rr ρ' k z R W B H σ' _ _ e' rs fun ρ'' σ'' z2 e2=>q ρ'' σ'' z2 e2
theorem go_tup {k0:Nat} {gs:UGs} {n:Nat} (hc:X.calm=true) (h:PGOs3 X es gs) (hn:(assignEach es X.env).length=n:=by rfl) (hst:(assignEach es X.env).findIdx? (·.1)=none:=by rfl):PGO3 X (.Tuple es k0 pos) (ugTup n gs):=by
 obtain ⟨_,h1,r1⟩:=h
 refine ⟨_,pg_tup hc h1 hn hst,fun d ρ k h R W B H σ v Q e r q=>?_⟩
 obtain ⟨ds,rfl,hl,h⟩:=h
 obtain ⟨a,vs,rfl,ha,rs⟩:=r.tupV
 exact ⟨a,vs,rfl,SqT.of (mixB_now e.toWd _ _ ha),by rw [rs.length]; exact hl,r1 ds ρ k h R W B H σ vs Q e rs q⟩
variable {tg:Expr}
def uForO (n:Nat) (g:UG) (s:US):US:=fun U ρ=>∃ ds,ρ[n]?=some (.new (.lst ds))∧forR g s U ds ρ
theorem Ev.oldAt {R:Hp} {W:Addr→Prop} {B H:Hp} {σ:St} {ρ:List Sl} (e:Ev K R W B H σ ρ) {i:Nat} {d:D} (h:ρ[i]?=some (.new d)):∃ v,σ[i]?=some (some v)∧Rep K (mixB R W B) v d:=by
 obtain ⟨v,h1,h2⟩:=e.ok i _ h
 exact ⟨v,join_some h1,h2⟩
theorem s_forO (n:Nat) {x:Str} {px:Pos} {body:List Stmt} {g:UG} {s:US} (hp:PassesOwn (model X.prog X.w) X.A X.env X.xe) (hc:X.calm=true) (hg:PGO3 X tg g) (hb:PSs3 X body s)
  (hN:X.N[n]?=some x:=by rfl) (hv:Vis X.env.scope x:=by first | exact Or.inl rfl | exact Or.inr (Or.inl rfl) | exact Or.inr (Or.inr rfl)) (hd:(x == ("__debug__" : Str))=false:=by decide) (hcd:(x == ("__classdict__" : Str))=false:=by decide)
  (hs:∀ v,foldedSetIterable (.Name x px) X.env v=pure v:=by intro _; rfl):PS3 X (.For tg (.Name x px) body [] pos) (uForO n g s):=by
 obtain ⟨_,h1,r1⟩:=hg; obtain ⟨_,h2,r2⟩:=hb
 refine ⟨_,ps_for hp hc (pi_list (pe_var hN hv hd hcd)) h1 h2 hs,fun U ρ h R W B H σ D e sm=>?_⟩
 obtain ⟨ds,ho,z1⟩:=h
 obtain ⟨v,hσ,rv⟩:=e.oldAt ho
 obtain ⟨l,vs,rfl,hl,rs⟩:=rv.lstV
 refine ⟨_,hσ,l,rfl,⟨vs,SqL.of (mixB_now e.toWd _ _ hl)⟩,?_⟩
 refine ⟨fun i m σ' H'=>∃ ρ' B',m=ds.length - i∧i≤ds.length∧forR g s U (ds.drop i) ρ'∧Ev X.K R W B' H' σ' ρ'∧Grow R B B',⟨ds.length,ρ,B,by simp,Nat.zero_le _,z1,e,Grow.refl _ _⟩,?_⟩
 rintro i m σ1 H2 ⟨ρ1,B2,rfl,hi,z2,e2,g2⟩
 have hq:SqL X.K H2 l vs:=SqL.of (mixB_now e2.toWd _ _ (mixB_mono g2.s _ _ hl))
 by_cases hlt:i < ds.length
 ·have hlv:i < vs.length:=by rw [rs.length]; exact hlt
  refine .inr ⟨⟨vs,vs[i],hq,List.getElem?_eq_getElem hlv⟩,fun σ' H'=>∃ ρ' B',forR g s U (ds.drop (i + 1)) ρ'∧Ev X.K R W B' H' σ' ρ'∧Grow R B B',?_,?_⟩
  ·rintro σ' H' ⟨ρ',B',z,e',g'⟩
   exact ⟨ds.length - (i + 1),by omega,ρ',B',rfl,hlt,z,e',g'⟩
  ·rintro x0 H' ⟨rfl,hy⟩
   obtain ⟨d,hd',rx⟩:=rs.getV (hy vs hq)
   have ed:ds.drop i=d :: ds.drop (i + 1):=by
    rw [List.drop_eq_getElem_cons hlt]
    rw [List.getElem?_eq_getElem hlt] at hd'
    rw [Option.some.inj hd']
   rw [ed] at z2
   refine r1 d ρ1 _ z2 R W B2 _ σ1 x0 _ e2 (rx.mono (mixB_mono g2.s)) fun ρ' σ' z' e'=>?_
   exact r2 _ ρ' z' R W B2 _ σ' _ e' ⟨fun ρ' σ' B' H' z e' g=>⟨ρ',B',z,e',g2.trans g⟩,fun ρ' σ' B' H' z e' g=>sm.nx ρ' σ' B' H' z e' (g2.trans g),fun ρ' σ' B' H' z e' g=>⟨ρ',B',z,e',g2.trans g⟩,fun r v B' H' z e' g q=>sm.rt r v B' H' z e' (g2.trans g) q⟩
 ·have ei:i=ds.length:=by omega
  subst ei
  rw [List.drop_length] at z2
  exact .inl ⟨⟨vs,hq,by rw [rs.length]; exact Nat.le_refl _⟩,sm.nx ρ1 σ1 B2 H2 z2 e2 g2⟩
def uForEO (n:Nat) (g:UG) (s:US):US:=fun U ρ=>∃ ds,ρ[n]?=some (.new (.lst ds))∧flats ds=true∧forR g s U (prs 0 ds) ρ
theorem s_forEO (n:Nat) {x:Str} {px:Pos} {elts:List Expr} {k:Nat} {tp:Pos} {body:List Stmt} {g:UG} {s:US} (hp:PassesOwn (model X.prog X.w) X.A X.env X.xe) (hc:X.calm=true) (hge:Gl X "enumerate") (hm:X.mg "enumerate" = none) (hg:PG3 X (.Tuple elts k tp) g) (hb:PSs3 X body s)
  (hN:X.N[n]?=some x:=by rfl) (hv:Vis X.env.scope x:=by first | exact Or.inl rfl | exact Or.inr (Or.inl rfl) | exact Or.inr (Or.inr rfl)) (hd:(x == ("__debug__" : Str))=false:=by decide) (hcd:(x == ("__classdict__" : Str))=false:=by decide)
  (hsa:starEach [.Name x px] X.env=[(false,eval (.Name x px) X.env)]:=by rfl) (hs:∀ v,foldedSetIterable (.Call (.Name "enumerate" p) [.Name x px] [] pos) X.env v=pure v:=by intro _; rfl) {pos':Pos} :
  PS3 X (.For (.Tuple elts k tp) (.Call (.Name "enumerate" p) [.Name x px] [] pos) body [] pos') (uForEO n g s):=by
 obtain ⟨_,h1,r1⟩:=hg; obtain ⟨_,h2,r2⟩:=hb
 refine ⟨_,ps_for hp hc (pi_enum hge hm (pa_cons (pe_var hN hv hd hcd) pa_nil (by rw [hsa]; rfl)) hsa) h1 h2 hs,fun U ρ h R W B H σ D e sm=>?_⟩
 obtain ⟨ds,ho,hfl,z1⟩:=h
 obtain ⟨v,hσ,rv⟩:=e.oldAt ho
 obtain ⟨l,vs,rfl,hl,rs⟩:=rv.lstV
 refine ⟨_,hσ,l,rfl,⟨vs,SqL.of (mixB_now e.toWd _ _ hl)⟩,?_⟩
 refine ⟨fun i m σ' H'=>∃ ρ' B',m=ds.length - i∧i≤ds.length∧forR g s U (prs i (ds.drop i)) ρ'∧Ev X.K R W B' H' σ' ρ'∧Grow R B B',⟨ds.length,ρ,B,by simp,Nat.zero_le _,z1,e,Grow.refl _ _⟩,?_⟩
 rintro i m σ1 H2 ⟨ρ1,B2,rfl,hi,z2,e2,g2⟩
 have hq:SqL X.K H2 l vs:=SqL.of (mixB_now e2.toWd _ _ (mixB_mono g2.s _ _ hl))
 by_cases hlt:i < ds.length
 ·have hlv:i < vs.length:=by rw [rs.length]; exact hlt
  refine .inr ⟨⟨vs,vs[i],hq,List.getElem?_eq_getElem hlv⟩,fun σ' H'=>∃ ρ' B',forR g s U (prs (i + 1) (ds.drop (i + 1))) ρ'∧Ev X.K R W B' H' σ' ρ'∧Grow R B B',?_,?_⟩
  ·rintro σ' H' ⟨ρ',B',z,e',g'⟩
   exact ⟨ds.length - (i + 1),by omega,ρ',B',rfl,hlt,z,e',g'⟩
  ·rintro x0 H' ⟨q,y,hq0,rfl,rfl,hy⟩
   obtain ⟨d,hd',rx⟩:=rs.getV (hy vs hq)
   have fd:=flats_at hfl hd'
   have rx':=mixB_flat e.toWd rx fd
   have ed:ds.drop i=d :: ds.drop (i + 1):=by
    rw [List.drop_eq_getElem_cons hlt]
    rw [List.getElem?_eq_getElem hlt] at hd'
    rw [Option.some.inj hd']
   rw [ed] at z2
   have g3:=e2.grow hq0 (.tup [.int i,y])
   have e3:=e2.alloc hq0 (.tup [.int i,y])
   have g4:=g2.trans g3
   refine r1 _ ρ1 _ z2 R W _ _ σ1 (.ref q) _ e3 (.tup upd_same (.cons (.int _) (.cons (rx'.mono g4.s) .nil))) fun ρ' σ' z' e' _=>?_
   exact r2 _ ρ' z' R W _ _ σ' _ e' ⟨fun ρ' σ' B' H' z e' g=>⟨ρ',B',z,e',g4.trans g⟩,fun ρ' σ' B' H' z e' g=>sm.nx ρ' σ' B' H' z e' (g4.trans g),fun ρ' σ' B' H' z e' g=>⟨ρ',B',z,e',g4.trans g⟩,fun r v B' H' z e' g q=>sm.rt r v B' H' z e' (g4.trans g) q⟩
 ·have ei:i=ds.length:=by omega
  subst ei
  rw [List.drop_length] at z2
  exact .inl ⟨⟨vs,hq,by rw [rs.length]; exact Nat.le_refl _⟩,sm.nx ρ1 σ1 B2 H2 z2 e2 g2⟩
def uTruL (u:UE):UT:=fun ρ k=>u ρ fun x=>∃ ds,x=.lst ds∧k (!ds.isEmpty)
theorem t_truL {a:Expr} {ua:UE} (ha:PE3 X a ua) (he:∀ whole,isTrue a X.env whole=(do let v ← whole; standAt a.pos; holding [v] (truthy v)):=by intro _; rfl):PT3 X a (uTruL ua):=by
 obtain ⟨_,h1,r1⟩:=ha
 refine ⟨_,pt_truth h1 he,fun ρ k h R W B H σ Q e q=>?_⟩
 refine r1 ρ _ h R W B H σ _ e fun x v B1 H1 z1 e1 g1 s1=>?_
 obtain ⟨ds,rfl,hk⟩:=z1
 obtain ⟨a,vs,rfl,ha,rs⟩:=s1.lstV
 refine ⟨!vs.isEmpty,.inl ⟨vs,SqL.of (e1.bh _ _ ha),rfl⟩,q _ B1 H1 ?_ e1 g1⟩
 have:vs.isEmpty=ds.isEmpty:=by
  have hl:=rs.length
  cases vs with
  | nil=>cases ds with
   | nil=>rfl
   | cons d ds=>simp at hl
  | cons v vs=>cases ds with
   | nil=>simp at hl
   | cons d ds=>rfl
 rw [this]; exact hk
variable {elt iter:Expr} {ifs:List Expr} {scope:Scope} {cl:List (Str×Addr)} {ts fr:List Str} {js:List Nat} {ug:UG} {ut:UT}
theorem s_compAO {i:Nat} {y:Str} {py spos:Pos} (hN:X.N.Nodup) (hiN:X.N[i]?=some y) (hy:X.env.scope.names.lookup y=some .local)
  (hi:PI3 X tg iter w) (hg:∀ C s H ex,PG3 (compCx X (ts ++ fr) scope cl C s H ex) tg ug) (hts:∀ C s H ex,PIfs3 (compCx X (ts ++ fr) scope cl C s H ex) ifs ut) (helt:∀ C s H ex,PE3 (compCx X (ts ++ fr) scope cl C s H ex) elt u)
  (F:FreeOk X scope cl fr js) (hjn:js.Nodup:=by decide) (hc:X.calm=true:=by rfl) (hs:∀ v,foldedSetIterable iter X.env v=pure v:=by intro _; rfl)
  (hsw:swapsWith (.ListComp elt [⟨tg,iter,ifs,0⟩] scope pos) (some (.Name y py)) spos.line X.env=pure true:=by rfl) :
  PS3 X (.Assign [.Name y py] (.ListComp elt [⟨tg,iter,ifs,0⟩] scope pos) spos) (uSetO i (uLookO (uCompG w ug ut u ts.length js))):=by
 obtain ⟨_,h0,r0⟩:=hi
 obtain ⟨tg',hg',rg⟩:=joinG (K:=X.K) (Xs:=fun a:Addr×Shared×Hp×List Addr=>compCx X (ts ++ fr) scope cl a.1 a.2.1 a.2.2.1 a.2.2.2) (fun _=>rfl) fun a=>hg a.1 a.2.1 a.2.2.1 a.2.2.2
 obtain ⟨tt,ht',rt⟩:=joinI (K:=X.K) (Xs:=fun a:Addr×Shared×Hp×List Addr=>compCx X (ts ++ fr) scope cl a.1 a.2.1 a.2.2.1 a.2.2.2) (fun _=>rfl) fun a=>hts a.1 a.2.1 a.2.2.1 a.2.2.2
 obtain ⟨te,he',re⟩:=joinE (K:=X.K) (Xs:=fun a:Addr×Shared×Hp×List Addr=>compCx X (ts ++ fr) scope cl a.1 a.2.1 a.2.2.1 a.2.2.2) (fun _=>rfl) fun a=>helt a.1 a.2.1 a.2.2.1 a.2.2.2
 refine ⟨_,ps_compA hN hiN hy h0 (fun C s H ex=>hg' (C,s,H,ex)) (fun C s H ex=>ht' (C,s,H,ex)) (fun C s H ex=>he' (C,s,H,ex)) F hc hs hsw,fun U ρ h R W B H σ D e s=>?_⟩
 exact refLookO (refCompG r0 rg rt re hjn) ρ _ h R W B H σ _ e fun ds a vs B1 H1 z1 e1 g1 f1 f2 f3 f4 f5=>s.nx _ _ B1 H1 z1 (e1.setO i f1 f2 f3 f4 fun j _=>f5 j) g1
end
section
variable {K:PySem.W.Frag}
def ol1:Bool→Sl→Sl
 | true,.val d=>.new d
 | _,x=>x
def ok1:Bool→Sl→Prop
 | false,.val d=>flat d=true
 | _,_=>True
def olds:List Bool→List Sl→List Sl
 | b :: m,x :: r=>ol1 b x :: olds m r
 | _,r=>r
def oldOk:List Bool→List Sl→Prop
 | b :: m,x :: r=>ok1 b x∧oldOk m r
 | [],[]=>True
 | _,_=>False
theorem olds_length:∀ (m:List Bool) (as:List Sl),(olds m as).length=as.length
 | [],[]=>rfl
 | [],_ :: _=>rfl
 | _ :: _,[]=>rfl
 | b :: m,x :: r=>by rw [olds,List.length_cons,List.length_cons,olds_length m r]
theorem olds_get {W:Addr→Prop} {B:Hp}:∀ {vs:List V} {as:List Sl},ArgsIn K W B vs as→∀ (m:List Bool),oldOk m as→∀ (i:Nat) (k:Sl),(olds m as)[i]?=some k →
  (∃ v d,vs[i]?=some v∧k=.new d∧Rep K B v d)∨(∃ v d,vs[i]?=some v∧k=.val d∧Rep K B v d∧flat d=true)∨(∃ b,vs[i]?=some (.ref b)∧k=.bag∧W b∧as[i]?=some .bag)
 | _,_,.nil,[],_,i,k,e=>by simp [olds] at e
 | _,_,.nil,_ :: _,ho,i,k,e=>by cases ho
 | _,_,.val h r,[],ho,i,k,e=>by cases ho
 | _,_,.bag h r,[],ho,i,k,e=>by cases ho
 | _,_,.val h r,b :: m,ho,i + 1,k,e=>by
  simpa using olds_get r m ho.2 i k (by simpa [olds] using e)
 | _,_,.bag h r,b :: m,ho,i + 1,k,e=>by
  simpa using olds_get r m ho.2 i k (by simpa [olds] using e)
 | _,_,.val h r,true :: m,ho,0,k,e=>by
  simp [olds,ol1] at e; subst e; exact .inl ⟨_,_,rfl,rfl,h⟩
 | _,_,.val h r,false :: m,ho,0,k,e=>by
  simp [olds,ol1] at e; subst e; exact .inr (.inl ⟨_,_,rfl,rfl,h,ho.1⟩)
 | _,_,.bag h r,b :: m,ho,0,k,e=>by
  have e:k=.bag:=by cases b <;> (simp [olds,ol1] at e; exact e.symm)
  subst e; exact .inr (.inr ⟨_,rfl,rfl,h,rfl⟩)
theorem mixB_all {W:Addr→Prop} {B H:Hp} (sB:Same B H) (hw:∀ a,W a→B a=none):Same B (mixB H W (newL H B)):=fun a o h=>by
 have hH:=sB a o h
 have nw:¬ W a:=fun z=>by rw [hw a z] at h; cases h
 by_cases q:∃ vs,o=.lst vs
 ·obtain ⟨vs,rfl⟩:=q
  exact mixB_at hH nw
 ·rw [mixB_no fun vs e=>q ⟨vs,by rw [hH] at e; exact Option.some.inj e⟩]
  exact newL_non h fun vs e=>q ⟨vs,e⟩
theorem Ev.startN {N:List Str} {W:Addr→Prop} {B H:Hp} {vs:List V} {as:List Sl} {m:List Bool} (hb:bags as≤1) (sB:Same B H) (hw:∀ a,W a→B a=none∧Bag H a) (ai:ArgsIn K W B vs as) (ho:oldOk m as):Ev K H W (newL H B) H (L2.start N vs) (olds m as ++ List.replicate (N.length - as.length) .no):=by
 have hl:=ai.length
 have ol:=olds_length m as
 have nn:∀ a,W a→newL H B a=none:=fun a h=>by
  cases q:newL H B a with
  | none=>rfl
  | some o=>have:=newL_sub a o q; rw [(hw a h).1] at this; cases this
 have wd:Wd H W (newL H B) H:=⟨fun _ _ h _=>h,newL_sub.trans sB,nn,fun a h=>(hw a h).2,fun a h=>by obtain ⟨x,y,q,_⟩:=(hw a h).2; rw [q]; simp⟩
 have lo:∀ i,i < as.length→(L2.start N vs)[i]?=(vs[i]?).map some:=fun i lt=>by
  unfold L2.start
  rw [List.getElem?_append_left (by rw [List.length_map]; omega),List.getElem?_map]
 have cs:∀ (i:Nat) (k:Sl),(olds m as ++ List.replicate (N.length - as.length) Sl.no)[i]?=some k→(i < as.length∧(olds m as)[i]?=some k)∨k=Sl.no:=fun i k h=>by
  by_cases z:i < (olds m as).length
  ·rw [List.getElem?_append_left z] at h; exact .inl ⟨by omega,h⟩
  ·rw [List.getElem?_append_right (by omega)] at h
   rw [List.getElem?_replicate] at h
   split at h
   ·exact .inr (Option.some.inj h).symm
   ·cases h
 refine ⟨wd,by unfold L2.start; simp [hl,ol],fun i k h=>?_,fun i j a m1 m2=>?_⟩
 ·rcases cs i k h with ⟨lt,h⟩ | rfl
  ·rw [lo i lt]
   rcases olds_get ai m ho i k h with ⟨v,d,h1,rfl,r⟩ | ⟨v,d,h1,rfl,r,f⟩ | ⟨b,h1,rfl,r,_⟩
   ·rw [h1]; exact ⟨v,rfl,r.mono (mixB_all sB fun a z=>(hw a z).1)⟩
   ·rw [h1]; exact ⟨v,rfl,r.flat f⟩
   ·rw [h1]; exact ⟨b,rfl,.inl r,wd.wb b r,(hw b r).2⟩
  ·trivial
 ·have one:∀ i,MutAt (L2.start N vs) (olds m as ++ List.replicate (N.length - as.length) Sl.no) i a→as[i]?=some .bag:=fun i mm=>by
   rcases mm.2 with z | ⟨ds,z⟩
   ·rcases cs i _ z with ⟨_,z⟩ | z
    ·rcases olds_get ai m ho i _ z with ⟨v,d,_,q,_⟩ | ⟨v,d,_,q,_⟩ | ⟨b,_,_,_,q⟩
     ·cases q
     ·cases q
     ·exact q
    ·cases z
   ·rcases cs i _ z with ⟨_,z⟩ | z
    ·rcases olds_get ai m ho i _ z with ⟨v,d,_,q,_⟩ | ⟨v,d,_,q,_⟩ | ⟨b,_,q,_⟩ <;> cases q
    ·cases z
  exact bags_one hb (one i m1) (one j m2)
def nwR (k:Sl→Prop):Sl→Prop
 | .val d=>k (.new d)
 | .own (.l ds)=>k (.new (.lst ds))
 | .new d=>k (.new d)
 | _=>False
theorem def3N {P:Program} {w:World} {mg:Str→Option Value} {base:Heap} {x:Str} {st:Stmt} {N ps:List Str} {lv n:Nat} {F:FS} (m:List Bool) (Fd:Fnd K mg x st ps) (S:FnScope N ps (defScope st)) (hn:ps.length=n)
  (hbody:∀ (f:Addr) (cdv:Value) (A:Around) (outer:List PySem.Env) (s:Shared) (H:Hp) (E:XK),Room lv (A.deeper (PyProof.Rows.envOfC x (defScope st) s.heap.objs.size f cdv)) →
   ∃ u,PSs3 (cxOf CX0 P w K mg base N x (defScope st) f cdv A outer s H E).nox (defBody st) u∧∀ as k,as.length=n→F as k→oldOk m as∧u { nx:=fun _=>k (.val .non),rt:=nwR k } (olds m as ++ List.replicate (N.length - n) .no)):Cal P w K mg base x ps (lv + 1) (Con K n F):=by
 refine Fd.ok S (fun vs H Q E h=>?_) (fun f cdv A outer s H vs Q E hr h=>?_)
 ·obtain ⟨W,B,as,k,_,hl,_,_,_,ai,_⟩:=h
  rw [ai.length,hl,hn]
 ·obtain ⟨W,B,as,k,hF,hl,hb,sB,hw,ai,q⟩:=h
  obtain ⟨u,⟨t,ht,rt⟩,hu⟩:=hbody f cdv A outer s H E hr
  obtain ⟨ho,hu⟩:=hu as k hl hF
  have ev:=Ev.startN (N:=N) (m:=m) (Nat.le_of_ble_eq_true hb) sB hw ai ho
  rw [hl] at ev
  have fin:∀ B' H',Wd H W B' H'→Grow H (newL H B) B'→∃ B2,Wd H W B2 H'∧Grow H B B2∧Same B' (newL H B2):=fun B' H' wd g=>by
   have sBH:Same B H':=fun a o h=>wd.fr a o (sB a o h) fun z=>by rw [(hw a z).1] at h; cases h
   obtain ⟨B2,b1,b2⟩:∃ B2:Hp,(∀ a o,B a=some o→B2 a=some o)∧∀ a,B a=none→B2 a=B' a :=
    ⟨fun a=>match B a with | some o=>some o | none=>B' a,fun a o h=>by dsimp only; rw [h],fun a h=>by dsimp only; rw [h]⟩
   refine ⟨B2,⟨wd.fr,fun a o h=>?_,fun a z=>?_,wd.wh,wd.wr⟩,⟨b1,fun a o h=>?_⟩,fun a o h=>?_⟩
   ·cases z:B a with
    | none=>rw [b2 a z] at h; exact wd.bh a o h
    | some o'=>rw [b1 a o' z] at h; cases h; exact sBH a _ z
   ·rw [b2 a (hw a z).1]; exact wd.wb a z
   ·cases z:B a with
    | none =>
     rw [b2 a z] at h
     rcases g.n a o h with y | y
     ·rw [newL_sub a o y] at z; cases z
     ·exact .inr y
    | some o'=>rw [b1 a o' z] at h; cases h; exact .inl rfl
   ·have h2:B2 a=some o:=by
     cases z:B a with
     | none=>rw [b2 a z]; exact h
     | some o' =>
      have e1:=sBH a _ z
      rw [wd.bh a o h] at e1
      cases e1
      exact b1 a _ z
    by_cases y:∃ vs,o=.lst vs
    ·obtain ⟨vs,rfl⟩:=y
     refine newL_at h2 ?_
     rcases g.n a _ h with y | y
     ·exact (newL_out y).2
     ·exact y
    ·exact newL_non h2 fun vs e=>y ⟨vs,e⟩
  refine ⟨t,ht,rt _ _ hu H W _ H (L2.start N vs) _ ev ⟨fun ρ σ B' H' h e g=>?_,fun _ _ _ _ h=>h.elim,fun _ _ _ _ h=>h.elim,fun r v B' H' h e g z=>?_⟩⟩
  ·obtain ⟨B2,w2,g2,_⟩:=fin B' H' e.toWd g
   exact q _ _ B2 H' h ⟨w2,g2,.non⟩
  ·cases r with
   | no=>exact h.elim
   | bag=>exact h.elim
   | pin v d=>exact h.elim
   | val d =>
    obtain ⟨B2,w2,g2,s2⟩:=fin B' H' e g
    exact q (.new d) v B2 H' h ⟨w2,g2,Rep.mono s2 z⟩
   | new d =>
    obtain ⟨B2,w2,g2,s2⟩:=fin B' H' e g
    exact q (.new d) v B2 H' h ⟨w2,g2,Rep.mono s2 (Rep.mono newL_sub z)⟩
   | own c =>
    cases c with
    | d _ _ _ _=>exact h.elim
    | l ds =>
    obtain ⟨a,rfl,f1,f2,us,f3,f4⟩:=z
    have e0:Ev K H W B' H' [] []:=⟨e,rfl,fun i k h=>by simp at h,fun i j a m=>by have:=m.1; simp at this⟩
    obtain ⟨e3,g3⟩:=e0.freeze f3 f1 f2 fun i m=>by have:=m.1; simp at this
    obtain ⟨B2,w2,g2,s2⟩:=fin _ H' e3.toWd (g.trans g3)
    exact q (.new (.lst ds)) _ B2 H' h ⟨w2,g2,Rep.mono s2 (.lst upd_same (f4.mono g3.s))⟩
end
end L3
namespace Cut
open PySem L2 L3
def prZ:P3→List P3→List (P3×P3)
 | _,[]=>[]
 | z,p :: r=>(z,p) :: prZ p r
def lz:P3→List P3→P3
 | z,[]=>z
 | _,p :: r=>lz p r
def eds (ps:List P3):List (P3×P3):=prZ (lz (0,0,1) ps) ps
theorem prZ_app:∀ (z:P3) (A B:List P3),prZ z (A ++ B)=prZ z A ++ prZ (lz z A) B
 | _,[],_=>rfl
 | z,p :: A,B=>by
  show (z,p) :: prZ p (A ++ B)=(z,p) :: (prZ p A ++ prZ (lz p A) B)
  rw [prZ_app p A B]
theorem lz_app:∀ (z:P3) (A B:List P3),lz z (A ++ B)=lz (lz z A) B
 | _,[],_=>rfl
 | _,p :: A,B=>lz_app p A B
theorem lz_cons {z z':P3} {L:List P3} (h:L≠[]):lz z L=lz z' L:=by
 cases L with
 | nil=>exact absurd rfl h
 | cons p r=>rfl
theorem lz_mem:∀ {z:P3} {L:List P3},L≠[]→lz z L∈L
 | _,[],h=>absurd rfl h
 | z,[p],_=>List.mem_cons_self
 | z,p :: q :: r,_=>List.mem_cons_of_mem _ (lz_mem (z:=p) (L:=q :: r) (by simp))
theorem prZ_mem:∀ {z:P3} {L:List P3} {e:P3×P3},e∈prZ z L→(e.1=z∨e.1∈L)∧e.2∈L
 | _,[],_,h=>by cases h
 | z,p :: r,e,h=>by
  rcases List.mem_cons.mp h with rfl | h
  ·exact ⟨.inl rfl,List.mem_cons_self⟩
  ·obtain ⟨h1,h2⟩:=prZ_mem h
   refine ⟨.inr ?_,List.mem_cons_of_mem _ h2⟩
   rcases h1 with h1 | h1
   ·rw [h1]; exact List.mem_cons_self
   ·exact List.mem_cons_of_mem _ h1
theorem eds_mem {L:List P3} {e:P3×P3} (h:e∈eds L):e.1∈L∧e.2∈L:=by
 have n:L≠[]:=by rintro rfl; cases h
 obtain ⟨h1,h2⟩:=prZ_mem h
 refine ⟨?_,h2⟩
 rcases h1 with h1 | h1
 ·rw [h1]; exact lz_mem n
 ·exact h1
section
variable {f:P3→Int} {mt:P3→P3→P3}
end
end Cut
namespace Cut
open PySem L2 L3
open PySem.Builtin.Int (intBits)
def MtOk (l:P3) (mt:P3→P3→P3):Prop:=∀ p q,ln l p * ln l q < 0→Btw p q (mt p q)∧ln l (mt p q)=0
theorem mtQ_on {l p q:P3} (h:ln l p * ln l q < 0):ln l (mtQ l p q)=0:=by
 unfold mtQ
 by_cases w:0 < p.2.2∧0 < q.2.2
 ·rw [if_pos w]
  have n0:(crs l (crs p q)).2.2≠0:=by
   rw [show (crs l (crs p q)).2.2=ln l q * p.2.2 + -ln l p * q.2.2 by rw [triple_product l p q]; rfl]
   rcases opp h with ⟨a,b⟩ | ⟨a,b⟩
   ·have n1:ln l q * p.2.2 < 0:=by rw [Int.mul_comm]; exact Int.mul_neg_of_pos_of_neg w.1 b
    have n2 : -ln l p * q.2.2 < 0:=by rw [Int.mul_comm]; exact Int.mul_neg_of_pos_of_neg w.2 (by omega)
    omega
   ·have n1:0 < ln l q * p.2.2:=Int.mul_pos b w.1
    have n2:0 < -ln l p * q.2.2:=Int.mul_pos (by omega) w.2
    omega
  obtain ⟨g,g0,hg⟩:=nP_sc n0
  have z:ln l (crs l (crs p q))=0:=by rw [show crs l (crs p q)=lc (ln l q) p (-ln l p) q from triple_product l p q,ln_lc]; grind
  rw [hg,ln_sc] at z
  rcases Int.mul_eq_zero.mp z with y | y
  ·exact absurd y g0
  ·exact y
 ·rw [if_neg w]
  by_cases c:0 < ln l q
  ·rw [if_pos c,ln_lc]; grind
  ·rw [if_neg c,ln_lc]; grind
theorem mtOk_Q (l:P3):MtOk l (mtQ l):=fun _ _ h=>⟨btw_mtQ h,mtQ_on h⟩
def ngL (l:P3):P3:=sc (-1) l
theorem ln_ng (l p:P3):ln (ngL l) p = -ln l p:=by unfold ngL ln sc; dsimp only; grind
theorem ln_ngF (l:P3):ln (ngL l)=fun c => -ln l c:=by funext c; exact ln_ng l c
theorem MtOk.ng {l:P3} {mt:P3→P3→P3} (h:MtOk l mt):MtOk (ngL l) mt:=fun p q c=>by
 rw [ln_ng,ln_ng,Int.neg_mul_neg] at c
 refine ⟨(h p q c).1,?_⟩
 rw [ln_ng,(h p q c).2]; rfl
theorem MtOk.meets {l:P3} {mt:P3→P3→P3} (h:MtOk l mt):Meets (ln l) mt:=fun p q c=>(h p q c).1
section
variable {l:P3} {mt:P3→P3→P3} {ps:List P3}
theorem lz_split:∀ {z:P3} {r:List P3},r≠[]→∃ A,r=A ++ [lz z r]
 | _,[],h=>absurd rfl h
 | z,[p],_=>⟨[],rfl⟩
 | z,p :: q :: r,_=>by
  obtain ⟨A,e⟩:=lz_split (z:=p) (r:=q :: r) (by simp)
  exact ⟨p :: A,congrArg (p :: ·) e⟩
end
section
variable {l:P3} {mt:P3→P3→P3} {ps:List P3}
end
end Cut
namespace Cut
open PySem L2 L3
open PySem.Builtin.Int (intBits)
def sumT (T:P3→P3→Rat) (es:List (P3×P3)):Rat:=(es.map fun e=>T e.1 e.2).sum
theorem sumT_nil (T:P3→P3→Rat):sumT T []=0:=rfl
theorem sumT_cons (T:P3→P3→Rat) (e:P3×P3) (es:List (P3×P3)):sumT T (e :: es)=T e.1 e.2 + sumT T es:=by unfold sumT; rw [List.map_cons,List.sum_cons]
theorem sumT_app (T:P3→P3→Rat):∀ es fs:List (P3×P3),sumT T (es ++ fs)=sumT T es + sumT T fs
 | [],fs=>by rw [List.nil_append,sumT_nil]; grind
 | e :: es,fs=>by rw [List.cons_append,sumT_cons,sumT_cons,sumT_app T es fs]; grind
section
variable {f:P3→Int} {mt:P3→P3→P3} {T:P3→P3→Rat} {V:P3→Prop}
def TL (f:P3→Int) (mt:P3→P3→P3) (T:P3→P3→Rat) (p q:P3):Rat :=
 if 0≤f p then (if 0≤f q then T p q else if f p * f q < 0 then T p (mt p q) else 0) else (if f p * f q < 0 then T (mt p q) q else 0)
def rea (f:P3→Int) (T:P3→P3→Rat) (z p:P3):Rat:=if 0≤f p then T z p else 0
theorem rea_yes {z p:P3} (h:0≤f p):rea f T z p=T z p:=by unfold rea; rw [if_pos h]
theorem rea_no {z p:P3} (h:¬ 0≤f p):rea f T z p=0:=by unfold rea; rw [if_neg h]
theorem cut_step (hz:∀ u v,V u→V v→f u=0→f v=0→T u v=0) {p q z:P3} (vz:V z) (vq:V q) (hm:f p * f q < 0→V (mt p q)∧f (mt p q)=0) (h4:f p < 0→f z=0) :
  sumT T (prZ z (kp f p ++ mx f mt p q)) + rea f T (lz z (kp f p ++ mx f mt p q)) q=rea f T z p + TL f mt T p q∧(f q < 0→f (lz z (kp f p ++ mx f mt p q))=0):=by
 by_cases fp:0≤f p
 ·rw [show kp f p=[p] by unfold kp; rw [if_pos fp],rea_yes fp]
  by_cases c:f p * f q < 0
  ·rw [mx_yes c]
   have lq:¬ 0≤f q:=by
    rcases opp c with ⟨_,a⟩ | ⟨a,_⟩ <;> omega
   have e1:lz z ([p] ++ [mt p q])=mt p q:=rfl
   have e2:prZ z ([p] ++ [mt p q])=[(z,p),(p,mt p q)]:=rfl
   refine ⟨?_,fun _=>by rw [e1]; exact (hm c).2⟩
   rw [e1,e2,rea_no lq,sumT_cons,sumT_cons,sumT_nil]
   unfold TL
   rw [if_pos fp,if_neg lq,if_pos c]
   dsimp only
   grind
  ·rw [mx_no c]
   have e1:lz z ([p] ++ [])=p:=rfl
   have e2:prZ z ([p] ++ [])=[(z,p)]:=rfl
   rw [e1,e2,sumT_cons,sumT_nil]
   refine ⟨?_,fun h=>?_⟩
   ·unfold TL
    rw [if_pos fp]
    by_cases fq:0≤f q
    ·rw [rea_yes fq,if_pos fq]; dsimp only; grind
    ·rw [rea_no fq,if_neg fq,if_neg c]; dsimp only; grind
   ·rcases Int.lt_or_eq_of_le fp with a | a
    ·exact absurd (Int.mul_neg_of_pos_of_neg a h) c
    ·exact a.symm
 ·rw [show kp f p=[] by unfold kp; rw [if_neg fp],rea_no fp,List.nil_append]
  have z0:=h4 (by omega)
  unfold TL
  rw [if_neg fp]
  by_cases c:f p * f q < 0
  ·rw [mx_yes c,if_pos c]
   have lq:0≤f q:=by
    rcases opp c with ⟨a,_⟩ | ⟨_,a⟩ <;> omega
   have e1:lz z [mt p q]=mt p q:=rfl
   have e2:prZ z [mt p q]=[(z,mt p q)]:=rfl
   have t0:T z (mt p q)=0:=hz _ _ vz (hm c).1 z0 (hm c).2
   rw [e1,e2,sumT_cons,sumT_nil,rea_yes lq]
   refine ⟨?_,fun h=>absurd h (by omega)⟩
   dsimp only
   rw [t0]
   grind
  ·rw [mx_no c,if_neg c]
   have e1:lz z []=z:=rfl
   have e2:prZ z []=[]:=rfl
   rw [e1,e2,sumT_nil]
   refine ⟨?_,fun _=>z0⟩
   by_cases fq:0≤f q
   ·have q0:f q=0:=by
     rcases Int.lt_or_eq_of_le fq with a | a
     ·exact absurd (by rw [Int.mul_comm]; exact Int.mul_neg_of_pos_of_neg a (by omega)) c
     ·exact a.symm
    rw [rea_yes fq,hz _ _ vz vq z0 q0]
   ·rw [rea_no fq]
theorem cut_sum (hz:∀ u v,V u→V v→f u=0→f v=0→T u v=0) (hm:∀ p q,V p→V q→f p * f q < 0→V (mt p q)∧f (mt p q)=0):∀ {ps:List P3} {w z:P3},(∀ p∈ps,V p)→V w→V z→(f (ps.headD w) < 0→f z=0)→ps≠[] →
  sumT T (prZ z (sgs f mt ps w)) + rea f T (lz z (sgs f mt ps w)) w=rea f T z (ps.headD w) + sumT (TL f mt T) (prZ (ps.headD w) (ps.tail ++ [w]))∧(f w < 0→f (lz z (sgs f mt ps w))=0)
 | [],_,_,_,_,_,_,hn=>absurd rfl hn
 | p :: r,w,z,hv,vw,vz,h4,_=>by
  have h4:f p < 0→f z=0:=h4
  have vp:=hv p List.mem_cons_self
  have vq:V (r.headD w):=by
   cases r with
   | nil=>exact vw
   | cons q r=>exact hv q (by simp)
  obtain ⟨s1,s2⟩:=cut_step (f:=f) (mt:=mt) (T:=T) (V:=V) hz vz vq (hm p _ vp vq) h4
  show sumT T (prZ z (kp f p ++ mx f mt p (r.headD w) ++ sgs f mt r w)) + rea f T (lz z (kp f p ++ mx f mt p (r.headD w) ++ sgs f mt r w)) w=rea f T z p + sumT (TL f mt T) (prZ p (r ++ [w]))∧(f w < 0→f (lz z (kp f p ++ mx f mt p (r.headD w) ++ sgs f mt r w))=0)
  rw [prZ_app z (kp f p ++ mx f mt p (r.headD w)),lz_app z (kp f p ++ mx f mt p (r.headD w)),sumT_app]
  have vl:V (lz z (kp f p ++ mx f mt p (r.headD w))):=by
   by_cases fp:0≤f p
   ·rw [show kp f p=[p] by unfold kp; rw [if_pos fp]]
    by_cases c:f p * f (r.headD w) < 0
    ·rw [mx_yes c]; exact (hm _ _ vp vq c).1
    ·rw [mx_no c]; exact vp
   ·rw [show kp f p=[] by unfold kp; rw [if_neg fp]]
    by_cases c:f p * f (r.headD w) < 0
    ·rw [mx_yes c]; exact (hm _ _ vp vq c).1
    ·rw [mx_no c]; exact vz
  cases r with
  | nil =>
   have e0:prZ (lz z (kp f p ++ mx f mt p (([]:List P3).headD w))) (sgs f mt [] w)=[]:=rfl
   have e1:prZ p ([] ++ [w])=[(p,w)]:=rfl
   have e2:([]:List P3).headD w=w:=rfl
   have e3:lz (lz z (kp f p ++ mx f mt p (([]:List P3).headD w))) (sgs f mt [] w)=lz z (kp f p ++ mx f mt p w):=rfl
   rw [e0,e1,e3,sumT_nil,sumT_cons,sumT_nil]
   rw [e2] at s1 s2 ⊢
   refine ⟨?_,s2⟩
   dsimp only
   grind
  | cons q r =>
   obtain ⟨t1,t2⟩:=cut_sum hz hm (ps:=q :: r) (w:=w) (z:=lz z (kp f p ++ mx f mt p q)) (fun x hx=>hv x (List.mem_cons_of_mem _ hx)) vw vl s2 (by simp)
   refine ⟨?_,t2⟩
   have e1:prZ p (q :: r ++ [w])=(p,q) :: prZ q (r ++ [w]):=rfl
   have e2:(q :: r).headD w=q:=rfl
   have e3:(q :: r).tail=r:=rfl
   rw [e1,sumT_cons]
   rw [e2,e3] at t1
   rw [e2] at s1 ⊢
   dsimp only
   grind
theorem sumT_rot (T:P3→P3→Rat) (a:P3) (r:List P3):sumT T (prZ a (r ++ [a]))=sumT T (eds (a :: r)):=by
 have:eds (a :: r)=(lz a r,a) :: prZ a r:=rfl
 rw [this,prZ_app,sumT_app,sumT_cons]
 have:prZ (lz a r) [a]=[(lz a r,a)]:=rfl
 rw [this,sumT_cons,sumT_nil]
 dsimp only
 grind
theorem cut_area (hz:∀ u v,V u→V v→f u=0→f v=0→T u v=0) (hm:∀ p q,V p→V q→f p * f q < 0→V (mt p q)∧f (mt p q)=0) (o:P3) (vo:V o) (ho:f o=0) {ps:List P3} (hv:∀ p∈ps,V p) :
  sumT T (eds (cutR f mt ps))=sumT (TL f mt T) (eds ps):=by
 cases ps with
 | nil=>rfl
 | cons a r =>
  have va:=hv a List.mem_cons_self
  have first:=cut_sum hz hm (ps:=a :: r) (w:=a) (z:=o) hv va vo (fun _=>ho) (by simp)
  have e1:(a :: r).headD a=a:=rfl
  have e2:(a :: r).tail=r:=rfl
  rw [e1,e2,sumT_rot] at first
  by_cases n:cutR f mt (a :: r)=[]
  ·have n':sgs f mt (a :: r) a=[]:=n
   rw [n'] at first
   have e3:prZ o []=[]:=rfl
   have e4:lz o []=o:=rfl
   rw [e3,e4,sumT_nil] at first
   rw [n]
   have e5:eds []=[]:=rfl
   rw [e5,sumT_nil]
   have:=first.1
   grind
  ·have e3:lz o (sgs f mt (a :: r) a)=lz (0,0,1) (cutR f mt (a :: r)):=lz_cons n
   have l3:f a < 0→f (lz (0,0,1) (cutR f mt (a :: r)))=0:=fun h=>by rw [← e3]; exact first.2 h
   have vl:V (lz (0,0,1) (cutR f mt (a :: r))):=by
    rcases cutR_mem (lz_mem (z:=(0,0,1)) n) with ⟨h,_⟩ | ⟨p,hp,q,hq,c,e⟩
    ·exact hv _ h
    ·rw [e]; exact (hm p q (hv p hp) (hv q hq) c).1
   have snd:=cut_sum hz hm (ps:=a :: r) (w:=a) (z:=lz (0,0,1) (cutR f mt (a :: r))) hv va vl l3 (by simp)
   rw [e1,e2,sumT_rot] at snd
   have e4:lz (lz (0,0,1) (cutR f mt (a :: r))) (sgs f mt (a :: r) a)=lz (0,0,1) (cutR f mt (a :: r)):=lz_cons n
   rw [e4] at snd
   have:=snd.1
   show sumT T (prZ (lz (0,0,1) (cutR f mt (a :: r))) (sgs f mt (a :: r) a))=_
   grind
theorem sumT_add {T1 T2 T3:P3→P3→Rat}:∀ {es:List (P3×P3)},(∀ e∈es,T1 e.1 e.2 + T2 e.1 e.2=T3 e.1 e.2)→sumT T1 es + sumT T2 es=sumT T3 es
 | [],_=>by rw [sumT_nil,sumT_nil,sumT_nil]; grind
 | e :: es,h=>by
  have h1:=h e List.mem_cons_self
  have h2:=sumT_add (es:=es) fun e he=>h e (List.mem_cons_of_mem _ he)
  rw [sumT_cons,sumT_cons,sumT_cons]
  grind
theorem TL_both (hz:∀ u v,V u→V v→f u=0→f v=0→T u v=0) {p q:P3} (vp:V p) (vq:V q) (hm:f p * f q < 0→T p (mt p q) + T (mt p q) q=T p q):TL f mt T p q + TL (fun c => -f c) mt T p q=T p q:=by
 have en:(-f p) * (-f q)=f p * f q:=Int.neg_mul_neg _ _
 unfold TL
 dsimp only
 rw [en]
 rcases Int.lt_trichotomy (f p) 0 with a | a | a
 ·rw [if_neg (show ¬ 0≤f p by omega),if_pos (show 0 ≤ -f p by omega)]
  rcases Int.lt_trichotomy (f q) 0 with b | b | b
  ·have c:¬ f p * f q < 0:=by have:=Int.mul_pos_of_neg_of_neg a b; omega
   rw [if_neg c,if_pos (show 0 ≤ -f q by omega)]; grind
  ·have c:¬ f p * f q < 0:=by rw [b,Int.mul_zero]; omega
   rw [if_neg c,if_pos (show 0 ≤ -f q by omega)]; grind
  ·have c:f p * f q < 0:=by rw [Int.mul_comm]; exact Int.mul_neg_of_pos_of_neg b a
   rw [if_pos c,if_neg (show ¬ 0 ≤ -f q by omega),if_pos c]
   have:=hm c
   grind
 ·have c:¬ f p * f q < 0:=by rw [a,Int.zero_mul]; omega
  rw [if_pos (show 0≤f p by omega),if_pos (show 0 ≤ -f p by omega),if_neg c]
  rcases Int.lt_trichotomy (f q) 0 with b | b | b
  ·rw [if_neg (show ¬ 0≤f q by omega),if_pos (show 0 ≤ -f q by omega)]; grind
  ·rw [if_pos (show 0≤f q by omega),if_pos (show 0 ≤ -f q by omega)]
   have:=hz p q vp vq a b
   grind
  ·rw [if_pos (show 0≤f q by omega),if_neg (show ¬ 0 ≤ -f q by omega)]; grind
 ·rw [if_pos (show 0≤f p by omega),if_neg (show ¬ 0 ≤ -f p by omega)]
  rcases Int.lt_trichotomy (f q) 0 with b | b | b
  ·have c:f p * f q < 0:=Int.mul_neg_of_pos_of_neg a b
   rw [if_neg (show ¬ 0≤f q by omega),if_pos c,if_pos c]
   exact hm c
  ·have c:¬ f p * f q < 0:=by rw [b,Int.mul_zero]; omega
   rw [if_pos (show 0≤f q by omega),if_neg c]; grind
  ·have c:¬ f p * f q < 0:=by have:=Int.mul_pos a b; omega
   rw [if_pos (show 0≤f q by omega),if_neg c]; grind
theorem TL_none (hz:∀ u v,V u→V v→f u=0→f v=0→T u v=0):∀ {es:List (P3×P3)},(∀ e∈es,V e.1∧V e.2∧f e.1≤0∧f e.2≤0)→sumT (TL f mt T) es=0
 | [],_=>rfl
 | e :: es,h=>by
  obtain ⟨v1,v2,n1,n2⟩:=h e List.mem_cons_self
  have ih:=TL_none hz (es:=es) fun e he=>h e (List.mem_cons_of_mem _ he)
  rw [sumT_cons,ih]
  have c:¬ f e.1 * f e.2 < 0:=by have:=Int.mul_nonneg_of_nonpos_of_nonpos n1 n2; omega
  have:TL f mt T e.1 e.2=0:=by
   unfold TL
   rw [if_neg c,if_neg c]
   by_cases a:0≤f e.1
   ·rw [if_pos a]
    by_cases b:0≤f e.2
    ·rw [if_pos b]; exact hz _ _ v1 v2 (by omega) (by omega)
    ·rw [if_neg b]
   ·rw [if_neg a]
  rw [this]
  grind
end
def rX (p:P3):Rat:=(p.1:Rat) / (p.2.2:Rat)
def rY (p:P3):Rat:=(p.2.1:Rat) / (p.2.2:Rat)
theorem pos_ne {x:Int} (h:0 < x):(x:Rat)≠0:=fun z=>by
 have:=Rat.intCast_eq_zero_iff.mp z
 omega
theorem btw_R {p q m:P3} (h:Btw p q m) (hp:0 < p.2.2) (hq:0 < q.2.2) (hm:0 < m.2.2):∃ a b:Rat,a + b=1∧rX m=a * rX p + b * rX q∧rY m=a * rY p + b * rY q:=by
 obtain ⟨s,a,b,hs,ha,hb,e⟩:=h
 have e1:s * m.1=a * p.1 + b * q.1:=congrArg (fun x:P3=>x.1) e
 have e2:s * m.2.1=a * p.2.1 + b * q.2.1:=congrArg (fun x:P3=>x.2.1) e
 have e3:s * m.2.2=a * p.2.2 + b * q.2.2:=congrArg (fun x:P3=>x.2.2) e
 have s0:=pos_ne hs
 have m0:=pos_ne hm
 have p0:=pos_ne hp
 have q0:=pos_ne hq
 have f1:(s:Rat) * m.1=a * p.1 + b * q.1:=by rw [← Rat.intCast_mul,e1,Rat.intCast_add,Rat.intCast_mul,Rat.intCast_mul]
 have f2:(s:Rat) * m.2.1=a * p.2.1 + b * q.2.1:=by rw [← Rat.intCast_mul,e2,Rat.intCast_add,Rat.intCast_mul,Rat.intCast_mul]
 have f3:(s:Rat) * m.2.2=a * p.2.2 + b * q.2.2:=by rw [← Rat.intCast_mul,e3,Rat.intCast_add,Rat.intCast_mul,Rat.intCast_mul]
 unfold rX rY
 generalize (s:Rat)=s' at *
 generalize (a:Rat)=a' at *
 generalize (b:Rat)=b' at *
 generalize (m.1:Rat)=m1 at *
 generalize (m.2.1:Rat)=m2 at *
 generalize (m.2.2:Rat)=m3 at *
 generalize (p.1:Rat)=p1 at *
 generalize (p.2.1:Rat)=p2 at *
 generalize (p.2.2:Rat)=p3 at *
 generalize (q.1:Rat)=q1 at *
 generalize (q.2.1:Rat)=q2 at *
 generalize (q.2.2:Rat)=q3 at *
 refine ⟨a' * p3 / (s' * m3),b' * q3 / (s' * m3),?_,?_,?_⟩ <;> grind
theorem tele (h:P3→Rat):∀ (z:P3) (L:List P3),sumT (fun p q=>h p - h q) (prZ z L)=h z - h (lz z L)
 | z,[]=>by rw [show prZ z []=[] from rfl,sumT_nil,show lz z []=z from rfl]; grind
 | z,p :: L=>by
  rw [show prZ z (p :: L)=(z,p) :: prZ p L from rfl,sumT_cons,tele h p L,show lz z (p :: L)=lz p L from rfl]
  dsimp only
  grind
open Classical in
noncomputable def keepR (f:P3→Int) (mt:P3→P3→P3) (ps:List P3):List P3:=if ∃ c∈ps,0 < f c then cutR f mt ps else []
end Cut
namespace L3
open PySem L2
section
variable {K:PySem.W.Frag} {X:Cx} {e:Expr} {es:List Expr} {u:UE} {w:UL} {pos p:Pos} {rest:List Stmt} {uz:UZ2}
end
end L3
namespace L3
open PySem L2
section
variable {K:PySem.W.Frag} {X:Cx} {a b e:Expr} {es:List Expr} {ua ub u:UE} {w:UL} {pos p:Pos} {F:FS} {a0:Expr}
end
end L3
namespace L3
open PySem L2
section
variable {X:Cx} {e:Expr} {u:UE} {pos:Pos}
def uAug (i:Nat) (u:UE):US:=fun U ρ=>∃ m,ρ[i]?=some (.val (.int m))∧u ρ fun d=>∃ n,d=.int n∧U.nx (ρ.set i (.val (.int (m + n))))
theorem s_aug {i:Nat} {x:Str} {pos':Pos} (hN:X.N.Nodup) (hi:X.N[i]?=some x) (hx:Loc X.env.scope x) (he:PE3 X e u) (hf:X.fn x=true∨X.env.scope.names.lookup x=some .local:=by first | exact .inl rfl | exact .inr rfl | assumption) :
  PS3 X (.AugAssign (.Name x pos') .Add e pos) (uAug i u):=by
 obtain ⟨_,h1,r1⟩:=he
 refine ⟨_,ps_aug hN hi hx h1 ip_add hf,fun U ρ h R W B H σ D e s=>?_⟩
 obtain ⟨m,hm,h⟩:=h
 obtain ⟨v,hv,rv⟩:=e.val hm
 refine ⟨v,hv,?_⟩
 refine r1 ρ _ h R W B H σ _ e fun d w B1 H1 z1 e1 g1 s1=>?_
 obtain ⟨n,rfl,z⟩:=z1
 exact ⟨m,n,rv.intV,s1.intV,s.nx _ _ B1 H1 z (e1.setV i (.int _)) g1⟩
end
end L3
namespace L3
open PySem L2
theorem forO_sh {a b c:Nat} {s:US} {U:UEnds} (I:List Cut.Piece→List Sl→Prop):∀ {sh done:List Cut.Piece} {ρ:List Sl},I done ρ →
  (∀ pre x rest ρ,done ++ sh=pre ++ x :: rest→I pre ρ→∀ N:List Sl→Prop,(∀ r,I (pre ++ [x]) r→N r)→s { U with nx:=N,ct:=N,bk:=U.nx } (((ρ.set a (.new (.lst (x.1.map Cut.dP)))).set b (.val (.bl x.2.1))).set c (.val (Cut.dP x.2.2)))) →
  (∀ ρ,I (done ++ sh) ρ→U.nx ρ)→forR (ugTup 3 (ugCons (ugOld a) (ugCons (ugFlat b) (ugCons (ugFlat c) ugNil)))) s U (sh.map Cut.dS) ρ
 | [],done,ρ,h0,_,h2=>h2 ρ (by rw [List.append_nil]; exact h0)
 | x :: sh,done,ρ,h0,h1,h2=>by
  refine ⟨_,rfl,rfl,_,_,rfl,_,_,rfl,rfl,_,_,rfl,rfl,rfl,?_⟩
  refine h1 done x sh ρ rfl h0 _ fun r hr=>?_
  refine forO_sh I hr (fun pre y rest ρ e=>h1 pre y rest ρ (by rw [← e]; simp)) fun ρ h=>h2 ρ ?_
  have e:done ++ [x] ++ sh=done ++ x :: sh:=by simp
  rw [← e]; exact h
end L3
namespace Cut
open PySem L2 L3
open PySem.Builtin.Int (intBits)
noncomputable def cutS (f:P3→Int) (mt:P3→P3→P3) (sh:List Piece):List Piece:=(sh.map fun s=>(keepR f mt s.1,s.2)).filter fun s => !s.1.isEmpty
theorem cutS_app {f:P3→Int} {mt:P3→P3→P3} (a b:List Piece):cutS f mt (a ++ b)=cutS f mt a ++ cutS f mt b:=by unfold cutS; rw [List.map_append,List.filter_append]
theorem cutS_one_yes {f:P3→Int} {mt:P3→P3→P3} {s:Piece} (h:(keepR f mt s.1).isEmpty=false):cutS f mt [s]=[(keepR f mt s.1,s.2)]:=by unfold cutS; simp [h]
theorem cutS_one_no {f:P3→Int} {mt:P3→P3→P3} {s:Piece} (h:(keepR f mt s.1).isEmpty=true):cutS f mt [s]=[]:=by unfold cutS; simp [h]
theorem cutS_len {f:P3→Int} {mt:P3→P3→P3} (sh:List Piece):(cutS f mt sh).length≤sh.length:=by
 unfold cutS
 refine Nat.le_trans (List.length_filter_le _ _) ?_
 rw [List.length_map]; exact Nat.le_refl _
theorem cutS_mem {f:P3→Int} {mt:P3→P3→P3} {sh:List Piece} {s:Piece} (h:s∈cutS f mt sh):∃ t∈sh,s=(cutR f mt t.1,t.2)∧∃ c∈t.1,0 < f c:=by
 unfold cutS at h
 obtain ⟨h1,h2⟩:=List.mem_filter.mp h
 obtain ⟨t,ht,rfl⟩:=List.mem_map.mp h1
 refine ⟨t,ht,?_⟩
 unfold keepR at h2 ⊢
 split at h2
 ·rename_i c; rw [if_pos c]; exact ⟨rfl,c⟩
 ·simp at h2
theorem prZ_get:∀ (z:P3) (L:List P3) (k:Nat),k < L.length→(prZ z L)[k]?=some (nth (z :: L) k,nth L k)
 | _,[],_,h=>absurd h (by simp)
 | z,p :: L,0,_=>rfl
 | z,p :: L,k + 1,h=>by
  have:=prZ_get p L k (by simpa using h)
  simpa [prZ,nth_succ] using this
theorem prZ_len:∀ (z:P3) (L:List P3),(prZ z L).length=L.length
 | _,[]=>rfl
 | z,p :: L=>by simp [prZ,prZ_len p L]
theorem lz_nth:∀ (z:P3) (L:List P3),L≠[]→lz z L=nth L (L.length - 1)
 | _,[],h=>absurd rfl h
 | z,[p],_=>rfl
 | z,p :: q :: L,_=>by
  have:=lz_nth p (q :: L) (by simp)
  show lz p (q :: L)=_
  rw [this]
  rfl
theorem eds_range (ps:List P3):eds ps=(List.range ps.length).map fun k=>(nth ps ((k + ps.length - 1) % ps.length),nth ps k):=by
 apply List.ext_getElem?
 intro k
 by_cases h:k < ps.length
 ·have hn:ps≠[]:=by rintro rfl; simp at h
  rw [List.getElem?_map,List.getElem?_range h]
  unfold eds
  rw [prZ_get _ _ _ h]
  simp only [Option.map_some]
  congr 2
  cases k with
  | zero =>
   rw [nth_zero,lz_nth _ _ hn,Nat.zero_add,Nat.mod_eq_of_lt (by omega)]
  | succ k =>
   rw [nth_succ,show k + 1 + ps.length - 1=k + ps.length by omega,Nat.add_mod_right,Nat.mod_eq_of_lt (by omega)]
 ·rw [List.getElem?_eq_none (by unfold eds; rw [prZ_len]; omega),List.getElem?_eq_none (by simp; omega)]
end Cut
namespace Cut
open PySem L2 L3
theorem flats_ints (h:P3→Int):∀ ps:List P3,flats (ps.map fun c=>D.int (h c))=true
 | []=>rfl
 | p :: r=>by
  rw [List.map_cons,flats,flats_ints h r]
  rfl
theorem keep_yes {f:P3→Int} {mt:P3→P3→P3} {ps:List P3} (h:∃ c∈ps,0 < f c):keepR f mt ps=cutR f mt ps:=by unfold keepR; rw [if_pos h]
theorem keep_no {f:P3→Int} {mt:P3→P3→P3} {ps:List P3} (h:¬ ∃ c∈ps,0 < f c):keepR f mt ps=[]:=by unfold keepR; rw [if_neg h]
theorem neg_ex {l:P3} {ps:List P3}:(∃ c∈ps,0 < (fun c => -ln l c) c)↔∃ c∈ps,ln l c < 0 :=
 ⟨fun ⟨c,h,z⟩=>⟨c,h,by have z:0 < -ln l c:=z; omega⟩,fun ⟨c,h,z⟩=>⟨c,h,by show 0 < -ln l c; omega⟩⟩
end Cut
namespace L3
open PySem L2
theorem compG_flt {α:Type} {f h:α→D} {P:α→Bool} {ut:UT} {u:UE} {fs:List Sl}:∀ {rs:List α} {v0:Sl} {k:List D→Prop},(∀ r∈rs,∀ k:Bool→Prop,k (P r)→ut (.val (f r) :: fs) k)→(∀ r∈rs,∀ k:D→Prop,k (h r)→u (.val (f r) :: fs) k)→k ((rs.filter P).map h)→compG (ugName 0) ut u (rs.map f) (v0 :: fs) k
 | [],_,_,_,_,hk=>hk
 | r :: rs,v0,k,h1,h2,hk=>by
  refine h1 r List.mem_cons_self _ ?_
  cases c:P r with
  | true =>
   rw [if_pos rfl]
   refine h2 r List.mem_cons_self _ ?_
   refine compG_flt (P:=P) (fun x hx=>h1 x (List.mem_cons_of_mem _ hx)) (fun x hx=>h2 x (List.mem_cons_of_mem _ hx)) ?_
   rw [List.filter_cons_of_pos c] at hk
   exact hk
  | false =>
   rw [if_neg Bool.false_ne_true]
   refine compG_flt (P:=P) (fun x hx=>h1 x (List.mem_cons_of_mem _ hx)) (fun x hx=>h2 x (List.mem_cons_of_mem _ hx)) ?_
   rw [List.filter_cons_of_neg (by rw [c]; decide)] at hk
   exact hk
end L3
namespace Cut
open PySem L2 L3
open PySem.Builtin.Int (intBits)
structure GL (m n:Nat) (s:Piece):Prop where
 ps:∀ p∈s.1,GP m p
 cv:Cvx s.1
 ln:s.1.length≤n
 st:GP 700 s.2.2
theorem GL.mono {m n m' n':Nat} {s:Piece} (h:GL m n s) (a:m≤m') (b:n≤n'):GL m' n' s:=⟨fun p hp=>(h.ps p hp).mono a,h.cv,Nat.le_trans h.ln b,h.st⟩
theorem eds_take {ps:List P3} {i:Nat} (h:i < ps.length):(eds ps).take (i + 1)=(eds ps).take i ++ [(nth ps ((i + ps.length - 1) % ps.length),nth ps i)]:=by
 rw [List.take_succ,eds_range,List.getElem?_map,List.getElem?_range h]
 rfl
theorem eds_all (ps:List P3):(eds ps).take ps.length=eds ps:=List.take_of_length_le (by unfold eds; rw [prZ_len]; exact Nat.le_refl _)
theorem cutR_gp {l:P3} {m a b:Nat} {ps:List P3} (bl:BP a l) (h:∀ p∈ps,GP b p) (hm:a + (b + b + 1) + 1≤m) (hb:b≤m) (f:P3→Int) (hf:∀ p q,f p * f q < 0→ln l p * ln l q < 0):∀ x∈cutR f (mtQ l) ps,GP m x:=fun x hx=>by
 rcases cutR_mem hx with ⟨h1,_⟩ | ⟨p,h1,q,h2,h3,rfl⟩
 ·exact (h x h1).mono hb
 ·have c:=hf p q h3
  have gp:=h p h1
  have gq:=h q h2
  have n0:=meet_ne gp.pt gq.pt c
  rw [← mtQ_pt gp.pt gq.pt]
  exact ⟨nP_pt n0,(BP.nP (bl.crs (gp.bp.crs gq.bp)) n0).mono hm⟩
theorem cutS_gl {l:P3} {a b m n:Nat} {sh:List Piece} (bl:BP a l) (h:∀ s∈sh,GL b n s) (hm:a + (b + b + 1) + 1≤m) (hb:b≤m) (l':P3) (e:l'=l∨l'=ngL l):∀ s∈cutS (ln l') (mtQ l) sh,GL m (2 * n) s:=fun s hs=>by
 obtain ⟨t,ht,rfl,c⟩:=cutS_mem hs
 have g:=h t ht
 have hM:MtOk l' (mtQ l):=by
  rcases e with rfl | rfl
  ·exact mtOk_Q _
  ·exact (mtOk_Q _).ng
 obtain ⟨t0,l3⟩:=cut_t0 hM.meets ((t0_iff t.1).mpr g.cv.tri) g.cv.1 c
 refine ⟨cutR_gp bl g.ps hm hb (ln l') fun p q z=>?_,Tri.cvx l3 ((t0_iff _).mp t0),?_,g.st⟩
 ·rcases e with rfl | rfl
  ·exact z
  ·rw [ln_ng,ln_ng,Int.neg_mul_neg] at z; exact z
 ·refine Nat.le_trans (sgs_len (ps:=t.1)) ?_
  have:=g.ln
  omega
end Cut
namespace Cut
open PySem L2 L3
open PySem.Builtin.Int (intBits)
end Cut
namespace Cut
open PySem L2 L3
open PySem.Builtin.Int (intBits)
end Cut
namespace Cut
open PySem L2 L3
open PySem.Builtin.Int (intBits)
end Cut
namespace Cut
open PySem L2 L3
open PySem.Builtin.Int (intBits)
section
variable (f:P3→Int)
end
end Cut
namespace L3
open PySem L2
section
variable {K:PySem.W.Frag} {X:Cx} {a b e:Expr} {es:List Expr} {ua ub u:UE} {w:UL} {pos p:Pos} {rest:List Stmt}
end
end L3
namespace L3
open PySem L2
section
variable {X:Cx} {rest:List Stmt} {uz:UZ2}
end
end L3
namespace L3
open PySem L2
section
variable {X:Cx} {F:FS} {a0:Expr} {pos p:Pos}
end
end L3
namespace L3
open PySem L2
end L3
namespace Cut
open PySem L2 L3
open PySem.Builtin.Int (intBits)
theorem Cvx.sl {g:P3} {ps:List P3} (hg:PtP g) (hp:∀ p∈ps,PtP p) (h:Cvx ps):Cvx (ps.map fun p=>nP (sld g p)):=h.map fun p q r a b c=>(lin_sld hg.1).side (hp p a).1 (hp q b).1 (hp r c).1
end Cut
namespace Cut
open PySem L2 L3
end Cut
namespace L3
end L3
namespace Cut
open PySem L2 L3
end Cut
namespace Tab
open PySem PySem.SetTable
variable {t:SetTable} {hashAt:Nat→Int} {h:Int}
end Tab
namespace Tab
open PySem PySem.SetTable
end Tab
namespace Tab
open PySem PySem.SetTable
section
variable {t:SetTable} {hashAt:Nat→Int} {h:Int}
end
section
variable {prog:Program} {w:World} {A:Around} {E:Value→Shared→Prop} {s:Shared}
end
end Tab
namespace Tab
open PySem PySem.SetTable
section
variable {prog:Program} {w:World} {A:Around} {E:Value→Shared→Prop} {s:Shared}
end
end Tab
namespace Tab
open PySem PySem.SetTable
section
variable {prog:Program} {w:World} {A:Around} {E:Value→Shared→Prop} {s:Shared}
end
end Tab
namespace Tab
open PySem PySem.SetTable
section
variable {prog:Program} {w:World} {A:Around} {E:Value→Shared→Prop} {s:Shared}
end
end Tab
namespace L2
open PySem PySem.Spec PyProof.Rows PySem.W
end L2
namespace L3
open PySem L2
end L3
namespace Tab
open PySem
section
variable {prog:Program} {w:World} {A:Around} {E:Value→Shared→Prop} {s:Shared}
end
end Tab
namespace HT
open PySem PySem.Spec PyProof.Rows
open PySem.SeqAt
open PySem.AutoSeq1 (wpAny_loadPart')
open PySem.MeetsSeq PySem.MeetsSeq2 PySem.MeetsSeq3
end HT
namespace L2
open PySem PySem.Spec PyProof.Rows PySem.W
variable {X:Cx}
end L2
namespace L3
open PySem L2
variable {X:Cx} {a b:Expr} {ua ub:UE} {p pos:Pos}
end L3
namespace L3
open PySem L2
section
variable {K:PySem.W.Frag} {X:Cx} {pos p:Pos} {tg:Expr}
theorem ItOk.rng2 {B:Hp} (i0:Int) (n:Nat):ItOk K B (Itr i0 n) ((List.range n).map fun i:Nat=>D.int (i0 + i)):=by
 intro H s i
 rw [List.length_map,List.length_range]
 refine ⟨fun hi=>hi,fun hi=>hi,fun x H' hi ⟨e1,e2⟩=>⟨e1,?_⟩⟩
 refine ⟨.int (i0 + i),?_,?_⟩
 ·rw [List.getElem?_map,List.getElem?_range hi]; rfl
 ·rw [e2]; exact .int _
def uiR2 (u u2:UE):UL:=fun ρ k=>u ρ fun d=>u2 ρ fun d2=>∃ i j,d=.int i∧d2=.int j∧(-(2 ^ 62)≤i∧i < 2 ^ 62 ∧ -(2 ^ 62)≤j∧j < 2 ^ 62)∧k ((List.range (j - i).toNat).map fun t:Nat=>D.int (i + t))
theorem i_rng2 {a b:Expr} {u u2:UE} (ha:PE3 X a u) (hb:PE3 X b u2) (hg:Gl X "range") (hm:X.mg "range" = none) (hs:starEach [a,b] X.env=[(false,eval a X.env),(false,eval b X.env)]:=by rfl) (hs2:starEach [b] X.env=[(false,eval b X.env)]:=by rfl):PI3 X tg (.Call (.Name "range" p) [a,b] [] pos) (uiR2 u u2):=by
 obtain ⟨_,h1,r1⟩:=ha
 obtain ⟨_,h2,r2⟩:=hb
 refine ⟨_,pi_range2 hg hm (pa_cons h1 (pa_cons h2 pa_nil (by rw [hs2]; rfl)) (by rw [hs,hs2])) hs hs2,fun ρ k h R W B H σ Q e q=>?_⟩
 refine r1 ρ _ h R W B H σ _ e fun d v B1 H1 z1 e1 g1 s1=>?_
 refine r2 ρ _ z1 R W B1 H1 σ _ e1 fun d2 v2 B2 H2 z2 e2 g2 s2=>?_
 obtain ⟨i,j,rfl,rfl,jj,z⟩:=z2
 exact ⟨i,j,by rw [s1.intV,s2.intV],jj,q _ _ B2 H2 z e2 (g1.trans g2) (ItOk.rng2 _ _)⟩
end
end L3
namespace L3
open PySem L2
section
variable {P:Program} {w:World} {A:Around} {E:Value→Shared→Prop} {s:Shared}
inductive TupsAre (h:Heap):List (List Int)→List Value→Prop
 | nil:TupsAre h [] []
 | cons {l:List Int} {a:Addr} {ks:List (List Int)} {us:List Value} (k:IsTupleKey (intKind P w) h l a) (r:TupsAre h ks us):TupsAre h (l :: ks) (.ref a :: us)
def IsKey2 (P:Program) (w:World) (h:Heap) (ks:List (List Int)) (a:Addr):Prop:=∃ ob us n,h.get? a=some ob∧ob.cls=.type "tuple" ∧ ob.data=.seq us n∧TupsAre (P:=P) (w:=w) h ks us.toList
theorem TupsAre.inj2 {h:Heap} {us:List Value}:∀ {x y:List (List Int)},TupsAre (P:=P) (w:=w) h x us→TupsAre (P:=P) (w:=w) h y us→x=y:=by
 intro x y p
 induction p generalizing y with
 | nil=>intro q; cases q; rfl
 | cons k r ih =>
  intro q
  cases q with
  | cons k' r'=>rw [k.inj k',ih r']
theorem IsKey2.ty {ks:List (List Int)} {a:Addr} (x:IsKey2 P w s.heap ks a):s.TypeIs (.ref a) "tuple" := let ⟨ob,_,_,h1,h2,_⟩:=x; ⟨ob,h1,h2⟩
theorem IsKey2.inj2 {h:Heap} {a:Addr} {x y:List (List Int)} (p:IsKey2 P w h x a) (q:IsKey2 P w h y a):x=y:=by
 obtain ⟨o1,u1,n1,a1,_,c1,d1⟩:=p
 obtain ⟨o2,u2,n2,a2,_,c2,d2⟩:=q
 rw [a1] at a2; cases a2
 rw [c1] at c2; cases c2
 exact d1.inj2 d2
theorem TupsAre.keep {h h':Heap} {d:Addr} {ob:Obj} {es:Array DictEntry} {ep:Nat} (ho:h.get? d=some ob) (hd:ob.data=.dict es ep) (hs:Heap.SameBut d h h'):∀ {ks:List (List Int)} {us:List Value},TupsAre (P:=P) (w:=w) h ks us→TupsAre (P:=P) (w:=w) h' ks us
 | _,_,.nil=>.nil
 | _,_,.cons k r=>.cons (k.keeps ho hd hs) (TupsAre.keep ho hd hs r)
theorem IsKey2.keep {h h':Heap} {ks:List (List Int)} {a d:Addr} {ob:Obj} {es:Array DictEntry} {ep:Nat} (x:IsKey2 P w h ks a) (ho:h.get? d=some ob) (hd:ob.data=.dict es ep) (hs:Heap.SameBut d h h'):IsKey2 P w h' ks a:=by
 obtain ⟨o1,u1,n1,a1,b1,c1,d1⟩:=x
 refine ⟨o1,u1,n1,?_,b1,c1,d1.keep ho hd hs⟩
 have ne:a≠d:=by
  rintro rfl
  rw [ho] at a1; cases a1
  rw [hd] at c1; cases c1
 exact (hs.2 a ne).trans a1
def draws2 (ks:List (List Int)):Nat:=(ks.map fun l=>l.length + 1).sum + 1
theorem hash2 {ks:List (List Int)} {a:Addr} {Q:Int→Shared→Prop} (hu:A.units + 3 < cLine) (hk:IsKey2 P w s.heap ks a) (h:Q (hashK true ks) { s with toks:=s.toks + draws2 ks }):wpAny (model P w) A (pyHash (.ref a)) Q E s:=by
 have hT:=hk.ty
 obtain ⟨ob,us,n,h1,_,h3,h4⟩:=hk
 unfold pyHash
 first | unfold pyHashByItsType | skip
 first | refine wpAny_bind (wpAny_cRoomFor_or (.inr (by omega)) ?_) | skip
 refine wpAny_bind (wpAny_specialOf hT F.slot_tuple_hash.lookup ?_)
 show wpAny (model P w) A (if (some (Value.builtin "tuple.__hash__") == some Value.none)=true then _ else _) Q E s
 rw [if_neg (by rw [beq_builtin_none]; exact Bool.false_ne_true)]
 refine wpAny_bind (wpAny_specialOf hT F.slot_tuple_hash.lookup ?_)
 show wpAny (model P w) A (callSpecialIfBoundUnlessNone? (.ref a) "__hash__" _ >>= _) Q E s
 refine wpAny_bind (wpAny_callSpecialIfBoundUnlessNone?_slot hT F.slot_tuple_hash (wpAny_call_entry F.slot_tuple_hash hT F.entry_tuple_hash ?_ (F.args_tuple_hash_1 _)))
 show wpAny (model P w) _ (Builtin.Tuple.tupleItemsOf (.ref a) >>= _) _ _ s
 refine wpAny_bind (wpAny_tupleItemsOf h1 h3 ?_)
 refine wpAny_bind ?_
 rw [← Array.forIn_toList]
 refine wpAny_forIn_list _
  (fun rest (b:Array Int) s'=>∃ done left,ks=done ++ left∧TupsAre (P:=P) (w:=w) s.heap left rest∧b.toList=done.map (fun l=>reduceHash (Builtin.Tuple.tupleHashOf (l.map hashInt)))∧s'={ s with toks:=s.toks + (done.map fun l=>l.length + 1).sum })
  _ ?_ ?_ _ _ ⟨[],ks,rfl,h4,rfl,rfl⟩
 ·rintro x rest b s' ⟨done,left,rfl,hl,hb,rfl⟩
  cases hl with
  | @cons l c ks' _ k1 r1 =>
   have fin:∃ dn lf,done ++ l :: ks'=dn ++ lf∧TupsAre (P:=P) (w:=w) s.heap lf rest∧(b.push (reduceHash (Builtin.Tuple.tupleHashOf (l.map hashInt)))).toList=dn.map (fun l=>reduceHash (Builtin.Tuple.tupleHashOf (l.map hashInt))) ∧
     ({ s with toks:=s.toks + (done.map fun l=>l.length + 1).sum + (l.length + 1) }:Shared)={ s with toks:=s.toks + (dn.map fun l=>l.length + 1).sum }:=⟨done ++ [l],ks',by simp,r1,by simp [hb],by simp [Nat.add_assoc]⟩
   refine wpAny_bind (wpAny_pyHash_tuple (s:={ s with toks:=s.toks + (done.map fun l=>l.length + 1).sum }) (by show A.units + _ < cLine; omega) k1 ?_)
   first
    | exact wpAny_pure fin
    | exact wpAny_bind (wpAny_pure (wpAny_pure fin))
 ·rintro b s' ⟨done,left,rfl,hl,hb,rfl⟩
  cases hl
  rw [List.append_nil] at h
  show wpAny (model P w) _ (retInt (Builtin.Tuple.tupleHashOf b.toList)) _ _ _
  rw [hb]
  refine wpAny_ret_mkInt ?_
  generalize hz:Builtin.Tuple.tupleHashOf (done.map fun l=>reduceHash (Builtin.Tuple.tupleHashOf (l.map hashInt)))=z
  have e2:hashK true done=reduceHash z:=by rw [← hz]; rfl
  rw [e2] at h
  show wpAny (model P w) _ (if (decide (-(2:Int) ^ 63≤z) && decide (z < 2 ^ 63))=true then _ else _) Q E _
  unfold reduceHash at h
  by_cases hr:(decide (-(2:Int) ^ 63≤z) && decide (z < 2 ^ 63))=true
  ·rw [if_pos hr]
   rw [if_pos hr] at h
   exact wpAny_pure (by simpa [Nat.add_assoc,draws2] using h)
  ·rw [if_neg hr]
   rw [if_neg hr] at h
   exact wpAny_bind (wpAny_rule (wpAny_pure (by simpa [Nat.add_assoc,draws2] using h)))
theorem tree2 {x y:List (List Int)} {a b:Addr} {R:PySem.Fin→Shared→Prop} (hu:A.units + 2 < cLine) (hx:IsKey2 P w s.heap x a) (hy:IsKey2 P w s.heap y b) (h:R (.done (.ret (.bool (decide (x=y))))) s) :
  wpAny (model P w) A (Builtin.«tuple.__eq__» ⟨[.ref a,.ref b],[]⟩) R E s:=by
 have hT:=hy.ty
 obtain ⟨o1,xs,n1,a1,_,c1,d1⟩:=hx
 obtain ⟨o2,ys,n2,a2,_,c2,d2⟩:=hy
 show wpAny (model P w) A (isInstance (.ref b) (.type "tuple") >>= _) _ _ s
 refine wpAny_bind (wpAny_isInstance hT isSubtype_tuple_tuple ?_)
 simp only [Bool.not_true,Bool.false_eq_true,if_false]
 refine wpAny_bind (wpAny_tupleItemsOf a1 c1 (wpAny_bind (wpAny_tupleItemsOf a2 c2 (wpAny_bind ?_))))
 refine wpAny_forIn_list _
  (fun rest r s'=>r.1=none∧s'=s∧∃ x' y' xs' ys',rest=List.zip xs' ys'∧TupsAre (P:=P) (w:=w) s.heap x' xs'∧TupsAre (P:=P) (w:=w) s.heap y' ys'∧decide (x'=y')=decide (x=y)∧(xs'.length == ys'.length)=(xs.size == ys.size))
  _ ?_ ?_ _ _ ⟨rfl,rfl,x,y,xs.toList,ys.toList,rfl,d1,d2,rfl,by simp⟩
 ·rintro ⟨u,v⟩ rest r s' ⟨hr,rfl,x',y',xs',ys',hz,hx',hy',hdec,hlen⟩
  cases hx' with
  | nil=>simp at hz
  | @cons k1 ad1 x2 xs2 h1 hx2 =>
   cases hy' with
   | nil=>simp at hz
   | @cons k2 ad2 y2 ys2 h2 hy2 =>
    rw [List.zip_cons_cons,List.cons.injEq,Prod.mk.injEq] at hz
    obtain ⟨⟨rfl,rfl⟩,rfl⟩:=hz
    refine wpAny_bind (wpAny_eqBool_tuple (by omega) h1 h2 ?_)
    by_cases hk:k1=k2
    ·subst hk
     rw [decide_eq_true rfl]
     simp only [Bool.not_true,Bool.false_eq_true,if_false]
     refine wpAny_pure ⟨rfl,rfl,x2,y2,xs2,ys2,rfl,hx2,hy2,?_,by simpa using hlen⟩
     rw [← hdec]
     by_cases e2:x2=y2 <;> simp [e2]
    ·rw [decide_eq_false hk]
     simp only [Bool.not_false,if_true]
     have hf:decide (x=y)=false:=by rw [← hdec]; simp [hk]
     rw [hf] at h
     exact wpAny_bind (wpAny_pure (wpAny_pure (wpAny_pure h)))
 ·rintro ⟨r1,r2⟩ s' ⟨hr,rfl,x',y',xs',ys',hz,hx',hy',hdec,hlen⟩
  simp only at hr
  subst hr
  refine wpAny_pure ?_
  have hfin:(xs.size == ys.size)=decide (x=y):=by
   rw [← hdec,← hlen]
   cases hx' with
   | nil=>cases hy' <;> simp
   | cons _ _ =>
    cases hy' with
    | nil=>simp
    | cons _ _=>simp at hz
  show R (.done (.ret (.bool (xs.size == ys.size)))) s'
  rw [hfin]; exact h
theorem eq2 {x y:List (List Int)} {a b:Addr} {Q:Bool→Shared→Prop} (hu:A.units + 3 < cLine) (hx:IsKey2 P w s.heap x a) (hy:IsKey2 P w s.heap y b) (h:Q (decide (x=y)) s):wpAny (model P w) A (eqBool (.ref a) (.ref b)) Q E s:=by
 unfold eqBool
 try with_reducible refine wpAny_holding ?_
 show wpAny (model P w) A (if (Value.ref a == Value.ref b)=true then _ else _) Q E s
 by_cases hab:(Value.ref a == Value.ref b)=true
 ·rw [if_pos hab]
  obtain rfl:a=b:=by have:=eq_of_beq hab; injection this
  obtain rfl:=hx.inj2 hy
  exact wpAny_bind (wpAny_rule (wpAny_pure (by simpa using h)))
 ·rw [if_neg hab]
  exact wpAny_bind (wpAny_richCompare_same_room (op:=.Eq) hx.ty hy.ty F.slot_tuple_eq
   (wpAny_call_entry F.slot_tuple_eq hx.ty F.entry_tuple_eq (tree2 (by show A.units + _ + 2 < cLine; omega) hx hy ⟨_,rfl,(fun e=>nomatch e),wpAny_truthy_bool h⟩) (F.args_tuple_eq_2 _ _)) (by omega))
theorem quiet1 (n:Nat) {l:List Int} {a:Addr} {Q:Bool→Shared→Prop} (hk:IsTupleKey (intKind P w) s.heap l a) (h:Q true s):wpAny (model P w) A (eqIsQuiet (n + 1) (.ref a)) Q E s:=by
 have hT:=hk.typeIs
 obtain ⟨ob,us,m,h1,_,h3,h4⟩:=hk
 unfold eqIsQuiet
 refine wpAny_bind (wpAny_specialOf hT F.slot_tuple_eq.lookup ?_)
 show wpAny (model P w) A (isInstance (.ref a) (.type "tuple") >>= _) _ _ s
 refine wpAny_bind (wpAny_isInstance hT isSubtype_tuple_tuple ?_)
 simp only [Bool.not_true,Bool.false_eq_true,if_false]
 refine wpAny_bind (wpAny_seqItems h1 h3 (wpAny_bind ?_))
 show wpAny (model P w) A (forIn us _ _) _ _ s
 rw [← Array.forIn_toList]
 refine wpAny_forIn_list _ (fun rest r s'=>r.1=none∧s'=s∧∀ v∈rest,carriedByValue v=true) _ ?_ ?_ _ _ ⟨rfl,rfl,h4.byValue⟩
 ·rintro v rest r s' ⟨hr,rfl,hall⟩
  rw [eqIsQuiet_byValue _ (hall v List.mem_cons_self)]
  refine wpAny_bind (wpAny_pure ?_)
  simp only [Bool.not_true,Bool.false_eq_true,if_false]
  exact wpAny_pure ⟨rfl,rfl,fun u hu'=>hall u (List.mem_cons_of_mem _ hu')⟩
 ·rintro ⟨r1,r2⟩ s' ⟨hr,rfl,_⟩
  simp only at hr
  subst hr
  exact wpAny_pure h
theorem quiet2 {ks:List (List Int)} {a:Addr} {Q:Bool→Shared→Prop} (hk:IsKey2 P w s.heap ks a) (h:Q true s):wpAny (model P w) A (eqIsQuiet 8 (.ref a)) Q E s:=by
 have hT:=hk.ty
 obtain ⟨ob,us,m,h1,_,h3,h4⟩:=hk
 unfold eqIsQuiet
 refine wpAny_bind (wpAny_specialOf hT F.slot_tuple_eq.lookup ?_)
 show wpAny (model P w) A (isInstance (.ref a) (.type "tuple") >>= _) _ _ s
 refine wpAny_bind (wpAny_isInstance hT isSubtype_tuple_tuple ?_)
 simp only [Bool.not_true,Bool.false_eq_true,if_false]
 refine wpAny_bind (wpAny_seqItems h1 h3 (wpAny_bind ?_))
 show wpAny (model P w) A (forIn us _ _) _ _ s
 rw [← Array.forIn_toList]
 refine wpAny_forIn_list _ (fun rest r s'=>r.1=none∧s'=s∧∃ left,TupsAre (P:=P) (w:=w) s.heap left rest) _ ?_ ?_ _ _ ⟨rfl,rfl,ks,h4⟩
 ·rintro v rest r s' ⟨hr,rfl,left,hl⟩
  cases hl with
  | @cons l c ks' _ k1 r1 =>
   refine wpAny_bind (quiet1 6 k1 ?_)
   simp only [Bool.not_true,Bool.false_eq_true,if_false]
   exact wpAny_pure ⟨rfl,rfl,ks',r1⟩
 ·rintro ⟨r1,r2⟩ s' ⟨hr,rfl,_⟩
  simp only at hr
  subst hr
  exact wpAny_pure h
end
def kd (P:Program) (w:World):Bool→HeapKind P w (List (List Int))
 | false=>{
  is:=fun h k a=>∃ l,k=[l]∧IsTupleKey (intKind P w) h l a
  hash:=hashK false
  draws:=fun k=>(k.headD []).length + 1
  room:=fun A=>A.units + 3 < cLine
  inj:=by rintro h a x y ⟨l,rfl,p⟩ ⟨m,rfl,q⟩; rw [p.inj q]
  keeps:=fun ⟨l,e,p⟩ ho hd hs=>⟨l,e,p.keeps ho hd hs⟩
  pyHash:=fun hu ⟨l,e,p⟩ h=>by subst e; exact wpAny_pyHash_tuple (by omega) p h
  eqBool:=fun hu ⟨l,e,p⟩ ⟨m,e',q⟩ h=>by subst e e'; exact wpAny_eqBool_tuple (by omega) p q (by simpa using h)
  quiet:=fun ⟨l,e,p⟩ h=>wpAny_eqIsQuiet_tuple p h }
 | true=>{
  is:=IsKey2 P w
  hash:=hashK true
  draws:=draws2
  room:=fun A=>A.units + 3 < cLine
  inj:=fun p q=>p.inj2 q
  keeps:=fun p ho hd hs=>p.keep ho hd hs
  pyHash:=fun hu p h=>hash2 hu p h
  eqBool:=fun hu p q h=>eq2 hu p q h
  quiet:=fun p h=>quiet2 p h }
theorem kd_hash (P:Program) (w:World) (b:Bool) (k:List (List Int)):(kd P w b).hash k=hashK b k:=by cases b <;> rfl
theorem kd_room {P:Program} {w:World} {b:Bool} {A:Around} (h:A.units + 4 < cLine):(kd P w b).room A.in1:=by
 cases b <;> exact (show A.units + 1 + 3 < cLine by omega)
end L3
namespace L3
open PySem L2
def lkA {α:Type}:List (List (List Int))→List α→List (List Int)→Option α
 | k' :: ks,d :: ds,k=>if k'=k then some d else lkA ks ds k
 | _,_,_=>none
def rpA {α:Type}:List (List (List Int))→List α→List (List Int)→α→List α
 | k' :: ks,d :: ds,k,x=>(if k'=k then x else d) :: rpA ks ds k x
 | _,ds,_,_=>ds
def ptK (ks:List (List (List Int))) (k:List (List Int)):List (List (List Int)):=if k∈ks then ks else ks ++ [k]
def ptA {α:Type} (ks:List (List (List Int))) (ds:List α) (k:List (List Int)) (x:α):List α:=if k∈ks then rpA ks ds k x else ds ++ [x]
def ent3:List (List (List Int))→List Addr→List Value→List (List (List Int)×Addr×Value)
 | k :: ks,a :: as,u :: us=>(k,a,u) :: ent3 ks as us
 | _,_,_=>[]
section
variable {P:Program} {w:World} {b:Bool}
theorem ent_map:∀ (ks:List (List (List Int))) (as:List Addr) (us:List Value),entK b ks as us=(ent3 ks as us).map (entryOfKey (kd P w b))
 | k :: ks,a :: as,u :: us=>by
  rw [entK,ent3,List.map_cons,← ent_map ks as us]
  unfold entryOfKey
  rw [kd_hash]
 | [],_,_=>by simp [entK,ent3]
 | _ :: _,[],_=>by simp [entK,ent3]
 | _ :: _,_ :: _,[]=>by simp [entK,ent3]
theorem ent_keys:∀ {ks:List (List (List Int))} {as:List Addr} {us:List Value},as.length=ks.length→us.length=ks.length→(ent3 ks as us).map (·.1)=ks
 | [],_,_,_,_=>by simp [ent3]
 | k :: ks,[],_,h,_=>by simp at h
 | k :: ks,_ :: _,[],_,h=>by simp at h
 | k :: ks,a :: as,u :: us,h1,h2=>by
  rw [ent3,List.map_cons,ent_keys (by simpa using h1) (by simpa using h2)]
theorem ent_get:∀ {ks:List (List (List Int))} {as:List Addr} {us:List Value} (k:List (List Int)),as.length=ks.length→us.length=ks.length→(atKey (ent3 ks as us) k).map (·.2)=lkA ks us k
 | [],_,_,_,_,_=>by simp [ent3,atKey,lkA]
 | k :: ks,[],_,_,h,_=>by simp at h
 | k :: ks,_ :: _,[],_,_,h=>by simp at h
 | k' :: ks,a :: as,u :: us,k,h1,h2=>by
  have ih:=ent_get (ks:=ks) (as:=as) (us:=us) k (by simpa using h1) (by simpa using h2)
  by_cases e:k'=k
  ·simp [ent3,atKey,lkA,e]
  ·rw [lkA,if_neg e,← ih]
   simp [ent3,atKey,List.find?_cons,e]
theorem lk_none {α:Type}:∀ {ks:List (List (List Int))} {ds:List α} {k:List (List Int)},ds.length=ks.length→(lkA ks ds k=none↔k ∉ ks)
 | [],_,_,_=>by simp [lkA]
 | k' :: ks,[],_,h=>by simp at h
 | k' :: ks,d :: ds,k,h=>by
  have ih:=lk_none (ks:=ks) (ds:=ds) (k:=k) (by simpa using h)
  rw [lkA]
  by_cases e:k'=k
  ·simp [e]
  ·rw [if_neg e,ih,List.mem_cons]
   constructor
   ·intro z w
    rcases w with w | w
    ·exact e w.symm
    ·exact z w
   ·exact fun z w=>z (.inr w)
theorem rp_len {α:Type} {x:α}:∀ (ks:List (List (List Int))) (ds:List α) (k:List (List Int)),(rpA ks ds k x).length=ds.length
 | [],_,_=>by simp [rpA]
 | k' :: ks,[],_=>by simp [rpA]
 | k' :: ks,d :: ds,k=>by rw [rpA,List.length_cons,rp_len ks ds k,List.length_cons]
theorem ent_put:∀ {ks:List (List (List Int))} {as:List Addr} {us:List Value} (k:List (List Int)) (u:Value),(ent3 ks as us).map (putAt k u)=ent3 ks as (rpA ks us k u)
 | [],_,_,_,_=>by simp [ent3]
 | k :: ks,[],_,_,_=>by simp [ent3]
 | k :: ks,_ :: _,[],_,_=>by simp [ent3,rpA]
 | k' :: ks,a :: as,v :: us,k,u=>by
  rw [ent3,List.map_cons,ent_put k u,rpA,ent3]
  unfold putAt
  by_cases e:k'=k
  ·rw [if_pos e,if_pos e]
  ·rw [if_neg e,if_neg e]
theorem ent_snoc:∀ {ks:List (List (List Int))} {as:List Addr} {us:List Value} (k:List (List Int)) (a:Addr) (u:Value),as.length=ks.length→us.length=ks.length→ent3 (ks ++ [k]) (as ++ [a]) (us ++ [u])=ent3 ks as us ++ [(k,a,u)]
 | [],[],[],_,_,_,_,_=>rfl
 | [],_ :: _,_,_,_,_,h,_=>by simp at h
 | [],[],_ :: _,_,_,_,_,h=>by simp at h
 | k :: ks,[],_,_,_,_,h,_=>by simp at h
 | k :: ks,_ :: _,[],_,_,_,_,h=>by simp at h
 | k' :: ks,a' :: as,u' :: us,k,a,u,h1,h2=>by
  rw [List.cons_append,List.cons_append,List.cons_append,ent3,ent_snoc k a u (by simpa using h1) (by simpa using h2),ent3,List.cons_append]
theorem ent_stored {ks:List (List (List Int))} {as:List Addr} {us:List Value} (k:List (List Int)) (a:Addr) (u:Value) (h1:as.length=ks.length) (h2:us.length=ks.length) :
  storedH (ent3 ks as us) k a u=ent3 (ptK ks k) (if k∈ks then as else as ++ [a]) (ptA ks us k u):=by
 have g:=ent_get (as:=as) (us:=us) k h1 h2
 unfold storedH ptK ptA
 by_cases m:k∈ks
 ·have s:(atKey (ent3 ks as us) k).isSome=true:=by
   have z:((atKey (ent3 ks as us) k).map (·.2)).isSome=true:=by
    rw [g]
    cases q:lkA ks us k with
    | none=>exact absurd m ((lk_none h2).mp q)
    | some x=>rfl
   rwa [Option.isSome_map] at z
  rw [if_pos s,if_pos m,if_pos m,if_pos m,ent_put]
 ·have s:¬ (atKey (ent3 ks as us) k).isSome=true:=by
   have z:((atKey (ent3 ks as us) k).map (·.2)).isSome=false:=by
    rw [g,(lk_none h2).mpr m]; rfl
   rw [Option.isSome_map] at z
   rw [z]; simp
  rw [if_neg s,if_neg m,if_neg m,if_neg m,ent_snoc k a u h1 h2]
def KeyAt (H:Hp) (b:Bool) (k:List (List Int)) (a:Addr):Prop:=match b with
 | false=>∃ l:List Int,k=[l]∧H a=some (.tup (l.map V.int))
 | true=>∃ as:List Addr,H a=some (.tup (as.map V.ref))∧Paired (fun (l:List Int) c=>H c=some (.tup (l.map V.int))) k as
theorem ints_are:∀ {l:List Int} {us:List Value},Vals (l.map V.int) us→ItemsAre (intKind P w) l us
 | [],_,r=>by rw [List.map_nil] at r; cases r; exact .nil
 | i :: l,_,r=>by
  rw [List.map_cons] at r
  cases r with
  | cons h t =>
   obtain ⟨t',e⟩:=(show ∃ t,_=Value.int i t from h)
   subst e
   exact .cons (by simp [intKind,Value.isInt]) (ints_are t)
theorem flat_at {H:Hp} {h:Heap} {l:List Int} {a:Addr} (ok:HOk P w H h) (e:H a=some (.tup (l.map V.int))):IsTupleKey (intKind P w) h l a:=by
 obtain ⟨_,its,r,o,h1,h2,n,h3⟩:=(show ObjOk P w H h a (.tup (l.map V.int)) from ok a _ e)
 exact ⟨o,its.toArray,n,h1,h2,h3,by simpa using ints_are r⟩
theorem tups_are {H:Hp} {h:Heap} (ok:HOk P w H h):∀ {ks:List (List Int)} {as:List Addr} {us:List Value},Paired (fun (l:List Int) c=>H c=some (.tup (l.map V.int))) ks as→Vals (as.map V.ref) us→TupsAre (P:=P) (w:=w) h ks us
 | [],[],_,.nil,r=>by rw [List.map_nil] at r; cases r; exact .nil
 | _ :: _,a :: as,_,.cons p q,r=>by
  rw [List.map_cons] at r
  cases r with
  | cons h t =>
   cases (show _=Value.ref a from h)
   exact .cons (flat_at ok p) (tups_are ok q t)
theorem KeyAt.is {H:Hp} {h:Heap} {k:List (List Int)} {a:Addr} (x:KeyAt H b k a) (ok:HOk P w H h):(kd P w b).is h k a:=by
 cases b with
 | false =>
  obtain ⟨l,rfl,e⟩:=x
  exact ⟨l,rfl,flat_at ok e⟩
 | true =>
  obtain ⟨as,e,p⟩:=x
  obtain ⟨_,its,r,o,h1,h2,n,h3⟩:=(show ObjOk P w H h a (.tup (as.map V.ref)) from ok a _ e)
  exact ⟨o,its.toArray,n,h1,h2,h3,by simpa using tups_are ok p r⟩
structure DcAt (H:Hp) (b:Bool) (a:Addr) (ep:Nat) (ks:List (List (List Int))) (as:List Addr) (vs:List V):Prop where
 h:H a=some (DicO b a ep ks as vs)
 k:Paired (KeyAt H b) ks as
theorem keys_is {H:Hp} {h:Heap} (ok:HOk P w H h):∀ {ks:List (List (List Int))} {as:List Addr} {us:List Value},Paired (KeyAt H b) ks as→∀ x∈ent3 ks as us,(kd P w b).is h x.1 x.2.1
 | _,_,[],p,x,m=>by cases p <;> simp [ent3] at m
 | [],[],_ :: _,.nil,x,m=>by simp [ent3] at m
 | k :: ks,a :: as,u :: us,.cons p q,x,m=>by
  rw [ent3] at m
  rcases List.mem_cons.mp m with e | m
  ·subst e; exact p.is ok
  ·exact keys_is ok q x m
theorem DcAt.raw {H:Hp} {h:Heap} {a:Addr} {ep:Nat} {ks:List (List (List Int))} {as:List Addr} {vs:List V} (d:DcAt H b a ep ks as vs) (ok:HOk P w H h) :
  ks.length≤sizeLine∧as.length=ks.length∧vs.length=ks.length∧(a == sysModules)=false∧∃ us,Vals vs us∧h.DictOfH (kd P w b) a (ent3 ks as us)∧ks.Nodup:=by
 obtain ⟨⟨h1,h2,h3,h4,us,h5,o,es,h6,h7,h8,h9,h10⟩,_⟩:=(show ObjOk P w H h a (DicO b a ep ks as vs) from ok a _ d.h)
 have l5:=h5.length
 exact ⟨h1,h2,h3,h4,us,h5,⟨o,es,ep,h6,h7,h8,by rw [h9,ent_map (P:=P) (w:=w)],keys_is ok d.k,by rw [ent_keys h2 (by omega)]; exact h10⟩,h10⟩
theorem vals_lk:∀ {ks:List (List (List Int))} {vs:List V} {us:List Value} (k:List (List Int)),Vals vs us→RelO (lkA ks vs k) (lkA ks us k)
 | [],_,_,_,_=>by simp [lkA]; trivial
 | _ :: _,_,_,_,.nil=>by simp [lkA]; trivial
 | k' :: ks,_,_,k,.cons r t=>by
  rw [lkA,lkA]
  by_cases e:k'=k
  ·rw [if_pos e,if_pos e]; exact r
  ·rw [if_neg e,if_neg e]; exact vals_lk k t
theorem vals_rp {v:V} {u:Value} (r:RelV v u):∀ {ks:List (List (List Int))} {vs:List V} {us:List Value} (k:List (List Int)),Vals vs us→Vals (rpA ks vs k v) (rpA ks us k u)
 | [],_,_,_,t=>by simp only [rpA]; exact t
 | _ :: _,_,_,_,.nil=>by simp only [rpA]; exact .nil
 | k' :: ks,_,_,k,.cons q t=>by
  rw [rpA,rpA]
  refine .cons ?_ (vals_rp r k t)
  by_cases e:k'=k
  ·rw [if_pos e,if_pos e]; exact r
  ·rw [if_neg e,if_neg e]; exact q
theorem vals_pt {v:V} {u:Value} (r:RelV v u) {ks:List (List (List Int))} {vs:List V} {us:List Value} (k:List (List Int)) (t:Vals vs us):Vals (ptA ks vs k v) (ptA ks us k u):=by
 unfold ptA
 by_cases m:k∈ks
 ·rw [if_pos m,if_pos m]; exact vals_rp r k t
 ·rw [if_neg m,if_neg m]; exact Paired.snoc t r
end
end L3
namespace L3
open PySem L2
theorem relo_getD {o:Option V} {u:Option Value} {d:V} {d':Value} (r:RelO o u) (rd:RelV d d'):RelV (o.getD d) (u.getD d'):=by
 cases o <;> cases u <;> first | exact rd | exact r | exact r.elim
def rIxD (b:Bool):R2:=fun x y H Q=>∃ a c ep ks as vs k v,x=.ref a∧y=.ref c∧DcAt H b a ep ks as vs∧KeyAt H b k c∧lkA ks vs k=some v∧Q v H
def IsDc (H:Hp) (a:Addr):Prop:=∃ b ep ks as vs,DcAt H b a ep ks as vs
def tCNew (b:Bool):TE:=fun _ H Q=>∀ p,H p=none→Q (.ref p) (upd H p (DicO b p 0 [] [] []))
def tCGet2 (b:Bool) (td ty tx:TE):TE:=fun σ H Q=>td σ H fun x H1=>∃ a,x=.ref a∧IsDc H1 a∧ty σ H1 fun y H2=>tx σ H2 fun z H3=>∃ c ep ks as vs k,y=.ref c∧DcAt H3 b a ep ks as vs∧KeyAt H3 b k c∧Q ((lkA ks vs k).getD z) H3
def sCPut (b:Bool) (td ty tv:TE):TS:=fun D σ H=>tv σ H fun v H1=>td σ H1 fun x H2=>ty σ H2 fun y H3=>∃ a c ep ks as vs k,x=.ref a∧y=.ref c∧DcAt H3 b a ep ks as vs∧KeyAt H3 b k c∧ks.length < sizeLine ∧
 ∀ ep',D.nx σ (upd H3 a (DicO b a ep' (ptK ks k) (if k∈ks then as else as ++ [c]) (ptA ks vs k v)))
section
variable {X:Cx} {b:Bool} {pos pos' apos cpos:Pos} {o e f i value:Expr} {td ty tx tv:TE}
theorem DcAt.typ {H:Hp} {s:Shared} {pins:List (Addr×Obj)} {σ:St} {a:Addr} {ep:Nat} {ks:List (List (List Int))} {as:List Addr} {vs:List V} (I:Inv X pins σ H s) (d:DcAt H b a ep ks as vs) :
  s.TypeIs (.ref a) "dict" ∧ ∀ c,Value.ref a=.ref c→∃ ob,s.heap.get? c=some ob∧ob.dict=none:=by
 obtain ⟨_,_,_,_,us,_,dd,_⟩:=d.raw I.hok
 refine ⟨dd.typeIs,fun c q=>?_⟩
 cases q
 obtain ⟨ob,_,_,h1,h2,_⟩:=dd
 exact ⟨ob,h1,h2.2.1⟩
theorem ix_dic (hu:X.A.units + 4 < cLine):IxR X (rIxD b):=by
 intro va sl pins s σ H x y v u Q I rx ry h hs
 obtain ⟨a,c,ep,ks,as,vs,k,z,rfl,rfl,d,ka,l,q⟩:=h
 cases rx
 cases (show u=Value.ref c from ry)
 obtain ⟨h1,h2,h3,h4,us,h5,dd,h6⟩:=d.raw I.hok
 have l5:=h5.length
 have g:=ent_get (as:=as) (us:=us) k h2 (by omega)
 obtain ⟨u',hu',ru⟩:=RelO.some_of (v:=z) (o:=lkA ks us k) (by rw [← l]; exact vals_lk k h5)
 rw [hu'] at g
 obtain ⟨p,hp,hp2⟩:=Option.map_eq_some_iff.mp g
 exact PyProof.Rows.subscriptTail_builtinR (x:=u') dd.typeIs PySem.F.slot_dict_getitem.lookup
  (wpAny_getItem_heap (Q:=fun r s'=>r=u'∧EP X pins σ Q r s') (kd_room hu) (ka.is I.hok) dd hp ⟨hp2,by rw [hp2]; exact ⟨z,H,I.tok _,ru,q⟩⟩) hs
theorem pe_cget2 (hu:X.A.units + 4 < cLine) (ho:PE X o td) (he:PE X e ty) (hf:PE X f tx)
  (hbase:attributeBase o "get" X.env (eval o X.env)=eval o X.env:=by rfl)
  (hfew:((backTo cpos (starEach [e,f] X.env)).all (fun x => !x.1) && (backToKw cpos (keywordEach [] X.env)).all (fun x=>x.1.isSome)
   && decide (([e,f]:List Expr).length + ([]:List Keyword).length + (if ([]:List Keyword).isEmpty then 0 else 1) < 30))=true:=by rfl)
  (hline:(apos.endLine == cpos.line)=true:=by rfl) (htr:backTo cpos (starEach [e,f] X.env)=[(false,eval e X.env),(false,eval f X.env)]:=by rfl) :
  PE X (.Call (.Attribute o "get" apos) [e,f] [] cpos) (tCGet2 b td ty tx):=by
 intro pins s σ H Q I h
 refine wpAny_Call_method hbase hfew hline PySem.F.plainAttrs_dict PySem.F.slot_dict_get PySem.F.type_dict_get (thn (ho pins s σ H _ I h) fun u s1 ⟨x,H1,I1,rx,a,ex,dI,q1⟩=>?_)
 obtain ⟨b1,ep1,ks1,as1,vs1,d⟩:=dI
 subst ex
 obtain rfl:u=Value.ref a:=rx
 obtain ⟨t1,t2⟩:=d.typ I1
 refine ⟨t1,t2,?_⟩
 rw [htr]
 refine Calls.callWith_builtin rfl (Calls.evalArgs_plain (Calls.spliced_cons (thn (he pins s1 σ H1 _ I1 q1) fun iv s2 ⟨y,H2,I2,ry,q2⟩ =>
  Calls.spliced_cons (thn (hf pins s2 σ H2 _ I2 q2) fun fv s3 ⟨z,H3,I3,rz,c,ep,ks,as,vs,k,ey,dc,ka,q3⟩=>Calls.spliced_nil ?_))))
 subst ey
 obtain rfl:iv=Value.ref c:=ry
 obtain ⟨h1,h2,h3,h4,us,h5,dd,h6⟩:=dc.raw I3.hok
 have l5:=h5.length
 refine call_meetsIn PySem.F.slot_dict_get dd.typeIs PySem.F.entry_dict_get (PySem.F.args_dict_get_3 _ _ _) (meetsH_dict_get_default (kd X.prog X.w b) a c h4 fv) ⟨kd_room hu,k,ent3 ks as us,ka.is I3.hok,dd,?_⟩
 rw [ent_get k h2 (by omega)]
 exact ⟨_,H3,I3.tok _,relo_getD (vals_lk k h5) rz,q3⟩
theorem pt_nodup {ks:List (List (List Int))} {k:List (List Int)} (h:ks.Nodup):(ptK ks k).Nodup:=by
 unfold ptK
 by_cases m:k∈ks
 ·rw [if_pos m]; exact h
 ·rw [if_neg m]
  refine List.nodup_append.mpr ⟨h,by simp,fun x hx y hy=>?_⟩
  rw [List.mem_singleton.mp hy]
  rintro rfl
  exact m hx
theorem ps_cput (hu:X.A.units + 4 < cLine) (ho:PE X o td) (hi:PE X i ty) (hv:PE X value tv) (hs:swapsWith value (some (.Subscript o i pos')) pos.line X.env=pure false:=by rfl) :
  PS X (.Assign [.Subscript o i pos'] value pos) (sCPut b td ty tv):=by
 intro pins s σ H D I h
 refine wpAny_Assign_Subscript (thn (hv pins s σ H _ I h) fun r s1 ⟨v,H1,I1,rv,q1⟩=>thn (ho pins s1 σ H1 _ I1 q1) fun u s2 ⟨x,H2,I2,rx,q2⟩=>thn (hi pins s2 σ H2 _ I2 q2) fun iv s3 ⟨y,H3,I3,ry,a,c,ep0,ks,as,vs,k,ex,ey,dc,ka,hl,q3⟩=>?_) hs
 subst ex ey
 obtain rfl:u=Value.ref a:=rx
 obtain rfl:iv=Value.ref c:=ry
 obtain ⟨h1,h2,h3,h4,us,h5,dd,h6⟩:=dc.raw I3.hok
 have l5:=h5.length
 have le:(ent3 ks as us).length=ks.length:=by
  have:=congrArg List.length (ent_keys (as:=as) (us:=us) h2 (by omega))
  rwa [List.length_map] at this
 refine wpAny_setItem_heap (kd_room hu) (ka.is I3.hok) dd (fun h' dn sb=>?_) (by omega)
 rw [ent_stored k c r h2 (by omega)] at dn
 have lk:(ptK ks k).length≤sizeLine:=by
  unfold ptK
  split
  ·exact h1
  ·rw [List.length_append,List.length_singleton]; omega
 have la:(if k∈ks then as else as ++ [c]).length=(ptK ks k).length:=by
  unfold ptK
  split
  ·exact h2
  ·rw [List.length_append,List.length_append,h2]; rfl
 have lv:(ptA ks vs k v).length=(ptK ks k).length:=by
  unfold ptK ptA
  split
  ·rw [rp_len]; exact h3
  ·rw [List.length_append,List.length_append,h3]; rfl
 obtain ⟨ob,es,ep,o1,o2,o3,o4,o5,o6⟩:=dn
 have hI:Inv X pins σ (upd H3 a (DicO b a ep (ptK ks k) (if k∈ks then as else as ++ [c]) (ptA ks vs k v))) { s3 with heap:=h',toks:=s3.toks + (kd X.prog X.w b).draws k }:=by
  refine I3.write (x:=a) (e:=a) (by rw [dc.h]; trivial) (.inl rfl) (fun c' q hb z=>(sb.2 c' hb).trans z) ⟨ob,o1⟩ ?_
  refine ⟨⟨lk,la,lv,h4,_,vals_pt rv k h5,ob,es,o1,o2,o3,?_,pt_nodup h6⟩,⟨ob,o1⟩,?_⟩
  ·rw [o4,ent_map (P:=X.prog) (w:=X.w)]
  ·rintro g1 g2 ⟨z1,z2,z3,z4,us',z5,ob',es',z6,z7⟩ hk
   exact ⟨z1,z2,z3,z4,us',z5,ob',es',hk _ z6,z7⟩
 exact ⟨σ,_,hI,q3 ep⟩
theorem pe_cnew:PE X (.Dict [] [] pos) (tCNew b):=fun pins s σ H Q I h=>by
 have big:sysModules < s.heap.objs.size:=Nat.lt_trans (by decide) ((I.mod.glob.keeps I.bk).lt:mainGlobals < s.heap.objs.size)
 refine wpAny_Dict_empty ⟨.ref s.heap.objs.size,_,I.laid (a:=s.heap.objs.size) (o:=DicO b s.heap.objs.size 0 [] [] []) (t':=s.toks) (fun _ _ q=>Heap.get?_push_of_some _ q) (Nat.le_refl _) ?_,rfl,h _ (I.hok.fresh (Nat.le_refl _))⟩
 refine ⟨⟨Nat.zero_le _,rfl,rfl,beq_eq_false_iff_ne.mpr (Ne.symm (Nat.ne_of_lt big)),[],.nil,_,#[],Heap.get?_push_size _ rfl,⟨rfl,rfl,rfl⟩,rfl,rfl,List.nodup_nil⟩,⟨_,Heap.get?_push_size _ rfl⟩,?_⟩
 rintro g1 g2 ⟨z1,z2,z3,z4,us',z5,ob',es',z6,z7⟩ hk
 exact ⟨z1,z2,z3,z4,us',z5,ob',es',hk _ z6,z7⟩
end
end L3
namespace L3
open PySem L2
def RawD (h:Heap) (d:Addr) (es:Array DictEntry) (ep:Nat):Prop:=∃ o,h.get? d=some o∧o.ExactDict∧o.data=.dict es ep
section
variable {prog:Program} {w:World} {A:Around} {E:Value→Shared→Prop} {s:Shared} {d it:Addr} {i ep:Nat} {es:Array DictEntry}
theorem iter_raw {Q:Value→Shared→Prop} (hd:(d == sysModules)=false) (hm:RawD s.heap d es ep)
  (hQ:Q (.ref s.heap.objs.size) { s with heap:=s.heap.push { cls:=.type "dict_keyiterator", data:=.fields #[.ref d,.int 0 0,.int es.size 0,.int ep 0] } }):wpAny (model prog w) A (pyIter (.ref d)) Q E s:=by
 obtain ⟨o,ho,hc,he⟩:=hm
 have ty:s.TypeIs (.ref d) "dict" := ⟨o,ho,hc.1⟩
 have no:¬ (d == sysModules)=true:=fun z=>by rw [hd] at z; cases z
 refine wpAny_pyIter_slot ty F.slot_dict_iter (wpAny_call_entry F.slot_dict_iter ty F.entry_dict_iter ?_ (F.args_dict_iter_1 _))
 unfold Builtin.«dict.__iter__» Builtin.Dict.dictSlotNone
 refine wpAny_bind (wpAny_bind (wpAny_notOrdered_dict ty (show wpAny _ _ (pure (Value.ref d)) _ _ s from wpAny_pure ?_)))
 show wpAny _ _ (Builtin.Dict.showsAll d >>= _) _ _ s
 unfold Builtin.Dict.showsAll
 rw [if_neg no]
 refine wpAny_bind (wpAny_pure (wpAny_bind (wpAny_dictEntries ho he (wpAny_bind (wpAny_dictEpoch ho he (wpAny_bind (wpAny_newObj_type (wpAny_pure ?_))))))))
 exact ⟨_,rfl, "dict_keyiterator", _,⟨_,Heap.get?_push_size _ rfl,rfl⟩,F.slot_dict_keyiterator_next.lookup,by simpa [rawInt] using hQ⟩
theorem step_raw {Q:Option Value→Shared→Prop} (hh:A.handled=none) (hit:s.heap.IsKeyIter it d i es.size ep) (hm:RawD s.heap d es ep)
  (more:∀ e h',es[i]?=some e→h'.IsKeyIter it d (i + 1) es.size ep→Heap.SameBut it s.heap h'→Q (some e.key) { s with heap:=h' })
  (done:∀ h',es[i]?=none→Heap.ExtBut it s.heap h'→Q none { s with heap:=h' }):wpAny (model prog w) A (pyNext (.ref it)) Q E s:=by
 have ty:=hit.typeIs
 obtain ⟨oi,hi,ci,di⟩:=hit
 obtain ⟨o,ho,hc,he⟩:=hm
 have own:Builtin.Dict_items.ownsTuple "dict_keyiterator" = false:=by decide
 have n0:¬ ((i:Int) < 0):=by omega
 have none_:¬ (Value.ref d == Value.none)=true:=Bool.false_ne_true
 unfold pyNext
 refine wpAny_bind (wpAny_attempt (wpAny_callSpecial?_slot (name := "__next__") ty F.slot_dict_keyiterator_next (wpAny_call_entry F.slot_dict_keyiterator_next ty F.entry_dict_keyiterator_next ?_ (F.args_dict_keyiterator_next_1 _))))
 refine wpAny_bind (wpAny_pure (wpAny_bind (wpAny_bind ?_)))
 first | refine wpAny_bind (wpAny_typeNameOfWhole_keyiter ty (wpAny_pure (wpAny_bind (wpAny_fieldsOf hi di ?_)))) | refine wpAny_bind (wpAny_typeNameOf_keyiter ty (wpAny_pure (wpAny_bind (wpAny_fieldsOf hi di ?_))))
 rw [own]
 show wpAny _ _ (if (Value.ref d == Value.none)=true then _ else _) _ _ s
 rw [if_neg none_]
 refine wpAny_bind (wpAny_pure (wpAny_bind (wpAny_dictEntries ho he ?_)))
 rw [if_neg (by simp)]
 refine wpAny_bind (wpAny_pure (wpAny_bind (wpAny_dictEpoch ho he ?_)))
 rw [if_neg (by simp)]
 refine wpAny_pure ?_
 simp only [n0,if_false,Int.toNat_natCast]
 cases q:es[i]? with
 | some e =>
  let h1:=s.heap.update it (Obj.mapFields (·.setIfInBounds 1 (rawInt ((i:Int) + 1))))
  have k1:h1.IsKeyIter it d (i + 1) es.size ep:=by
   refine ⟨_,Heap.get?_update_self _ hi ?_,(Obj.cls_mapFields ..).trans ci,?_⟩
   ·exact Obj.isFreed_of_fields (Obj.data_mapFields di _)
   ·rw [Obj.data_mapFields di]; simp [rawInt]
  refine wpAny_bind ?_
  first | refine wpAny_bind (wpAny_typeNameOfWhole_keyiter ty (wpAny_pure (wpAny_bind (wpAny_isOneOf_keyiter ty ?_)))) | refine wpAny_bind (wpAny_typeNameOf_keyiter ty (wpAny_pure (wpAny_bind (wpAny_isOneOf_keyiter ty ?_))))
  show wpAny _ _ (setField (.ref it) 1 (rawInt ((i:Int) + 1)) >>= _) _ _ s
  refine wpAny_bind (wpAny_setField hi di (by simp) (wpAny_bind (wpAny_holding (wpAny_bind (wpAny_isOneOf_keyiter (s:={ s with heap:=h1 }) k1.typeIs ?_)))))
  exact wpAny_pure (wpAny_pure ⟨_,rfl,wpAny_pure (more e h1 q k1 (Heap.SameBut.update ..))⟩)
 | none =>
  refine wpAny_bind ?_
  first | refine wpAny_bind (wpAny_typeNameOfWhole_keyiter ty (wpAny_pure ?_)) | refine wpAny_bind (wpAny_typeNameOf_keyiter ty (wpAny_pure ?_))
  show wpAny _ _ (setField (.ref it) 0 .none >>= _) _ _ s
  refine wpAny_bind (wpAny_setField hi di (by simp) ?_)
  show wpAny _ _ (newExc (.type "StopIteration") [] >>= _) _ _ _
  unfold newExc newTuple
  refine wpAny_bind (wpAny_bind (wpAny_newObj_type (wpAny_bind (m:=firstArgMember _ _) (wpAny_of_eq (a:=Value.none) (by first | rfl | (unfold firstArgMember; rfl)) (wpAny_newObj_type ?_ (by size_fits)))) (by size_fits)))
  unfold raiseNew
  refine wpAny_bind (wpAny_handled ?_)
  rw [show A.in1.handled=none from hh]
  refine wpAny_bind (wpAny_pure (wpAny_throw ?_))
  refine wpAny_bind (wpAny_isInstance (T := "StopIteration") (b:=true) (by exact ⟨_,Heap.get?_push_size _ rfl,rfl⟩) isSubtype_stop ?_)
  exact wpAny_pure (done _ q (((Heap.SameBut.update ..).extBut.push _).push _))
theorem next_raw {k v:Value} {hsh:Int} {Q:Option Value→Shared→Prop} (hh:A.handled=none) (hit:s.heap.IsKeyIter it d i es.size ep) (hm:RawD s.heap d es ep) (hx:es[i]?=some ⟨hsh,k,v⟩)
  (hQ:∀ h',h'.IsKeyIter it d (i + 1) es.size ep→Heap.SameBut it s.heap h'→Q (some k) { s with heap:=h' }):wpAny (model prog w) A (pyNext (.ref it)) Q E s :=
 step_raw hh hit hm (fun e h' q a b=>by rw [hx] at q; cases q; exact hQ h' a b) fun h' q _=>by rw [hx] at q; cases q
theorem end_raw {Q:Option Value→Shared→Prop} (hh:A.handled=none) (hit:s.heap.IsKeyIter it d i es.size ep) (hm:RawD s.heap d es ep) (hx:es.size≤i) (hQ:∀ h',Heap.ExtBut it s.heap h'→Q none { s with heap:=h' }):wpAny (model prog w) A (pyNext (.ref it)) Q E s :=
 step_raw hh hit hm (fun e h' q _ _=>by rw [Array.getElem?_eq_none hx] at q; cases q) fun h' _ eb=>hQ h' eb
end
end L3
namespace L3
open PySem L2
def Itd (b:Bool) (a:Addr) (ep:Nat) (ks:List (List (List Int))) (as:List Addr) (vs:List V):It where
 go:=fun i H=>H a=some (DicO b a ep ks as vs)∧i < ks.length
 yld:=fun i H x H'=>H'=H∧∃ c,as[i]?=some c∧x=.ref c
 stop:=fun i H=>H a=some (DicO b a ep ks as vs)∧ks.length≤i
theorem ent_len {b:Bool}:∀ {ks:List (List (List Int))} {as:List Addr} {us:List Value},as.length=ks.length→us.length=ks.length→(entK b ks as us).length=ks.length
 | [],_,_,_,_=>by simp [entK]
 | k :: ks,[],_,h,_=>by simp at h
 | k :: ks,_ :: _,[],_,h=>by simp at h
 | k :: ks,a :: as,u :: us,h1,h2=>by rw [entK,List.length_cons,List.length_cons,ent_len (by simpa using h1) (by simpa using h2)]
theorem ent_nth {b:Bool}:∀ {ks:List (List (List Int))} {as:List Addr} {us:List Value} {i:Nat},as.length=ks.length→us.length=ks.length→i < ks.length→∃ k c u,as[i]?=some c∧us[i]?=some u∧(entK b ks as us)[i]?=some ⟨hashK b k,.ref c,u⟩
 | [],_,_,i,_,_,h=>by simp at h
 | k :: ks,[],_,_,h,_,_=>by simp at h
 | k :: ks,_ :: _,[],_,_,h,_=>by simp at h
 | k :: ks,a :: as,u :: us,0,_,_,_=>⟨k,a,u,rfl,rfl,rfl⟩
 | k :: ks,a :: as,u :: us,i + 1,h1,h2,h3=>by
  obtain ⟨k',c,u',z1,z2,z3⟩:=ent_nth (b:=b) (ks:=ks) (as:=as) (us:=us) (i:=i) (by simpa using h1) (by simpa using h2) (by simpa using h3)
  exact ⟨k',c,u',by simpa using z1,by simpa using z2,by simpa [entK] using z3⟩
section
variable {P:Program} {w:World} {K:PySem.W.Frag} {tg:Expr} {b:Bool} {a:Addr} {ep:Nat} {ks:List (List (List Int))} {as:List Addr} {vs:List V}
theorem raw_of {H:Hp} {h:Heap} (ok:HOk P w H h) (e:H a=some (DicO b a ep ks as vs)):∃ us es,RawD h a es ep∧es.toList=entK b ks as us∧as.length=ks.length∧us.length=ks.length∧es.size=ks.length∧Vals vs us∧(a == sysModules)=false:=by
 obtain ⟨⟨h1,h2,h3,h4,us,h5,o,es,h6,h7,h8,h9,h10⟩,_⟩:=(show ObjOk P w H h a (DicO b a ep ks as vs) from ok a _ e)
 have l5:=h5.length
 exact ⟨us,es,⟨o,h6,h7,h8⟩,h9,h2,by omega,by rw [← Array.length_toList,h9,ent_len h2 (by omega)],h5,h4⟩
theorem turn_dict (it:Addr):Turn P w K tg (Itd b a ep ks as vs) [it] it (fun i h=>h.IsKeyIter it a i ks.length ep) where
 mem:=by simp
 obj:=fun i h st c hc=>by
  have e:c=it:=by simpa using hc
  subst e
  obtain ⟨o,e,_,d⟩:=st
  exact ⟨o,e,fun v z=>by rw [d] at z; cases z⟩
 keep:=fun i h h' st k=>st.at fun o e=>k it (by simp) o e
 item:=by
  intro X hP hw hK hc i pins s σ H E I hf st hg
  subst hP hw hK
  obtain ⟨hq,hi⟩:=hg
  obtain ⟨us,es,rd,el,l1,l2,l3,_⟩:=raw_of I.hok hq
  obtain ⟨k,c,u,hc1,hu1,he⟩:=ent_nth (b:=b) l1 l2 hi
  obtain ⟨f0,f1,f2,f3,f4,f5⟩:=hf it (by simp)
  refine next_raw (I.ok.hd hc) (by rw [l3]; exact st) rd (hsh:=hashK b k) (k:=.ref c) (v:=u) (by rw [← Array.getElem?_toList,el]; exact he) fun h' st' sb=>?_
  rw [l3] at st'
  have I1:Inv X pins σ H { s with heap:=h' }:=I.turned (t':=s.toks) (fun c' o hb e=>(sb.2 c' hb).trans e) f0 f1 f3 f4 f5
  obtain ⟨o,e,c2,d⟩:=id st'
  exact ⟨.ref c,rfl,go_of (s:={ s with heap:=h' }) e c2 d (by decide) ⟨.ref c,H,I1,rfl,⟨rfl,c,hc1,rfl⟩,st',fun b' hb=>(hf b' hb).1⟩⟩
 done:=by
  intro X hP hw hK hc i pins s σ H E I hf st hg
  subst hP hw hK
  obtain ⟨hq,hi⟩:=hg
  obtain ⟨us,es,rd,el,l1,l2,l3,_⟩:=raw_of I.hok hq
  obtain ⟨f0,f1,f2,f3,f4,f5⟩:=hf it (by simp)
  exact end_raw (I.ok.hd hc) (by rw [l3]; exact st) rd (by omega) fun h' eb=>⟨rfl,I.turned (t':=s.toks) (fun c' o hb e=>eb c' o hb e) f0 f1 f3 f4 f5⟩
 self:=fun _ _ _ _ _ st h=>wpAny_pyIter_keyiter st h
end
def iDict (tl:TE):TI:=fun σ H R=>tl σ H fun x H1=>∃ b a ep ks as vs,x=.ref a∧H1 a=some (DicO b a ep ks as vs)∧R (Itd b a ep ks as vs) H1
section
variable {X:Cx} {tg:Expr}
theorem pi_dict {l:Expr} {tl:TE} (hl:PE X l tl):PI X tg l (iDict tl):=by
 intro pins s σ H R I h
 refine thn (hl pins s σ H _ I h) fun v s1 ⟨x,H1,I1,r1,q1⟩=>?_
 obtain ⟨b,a,ep,ks,as,vs,e,hq,q⟩:=q1
 subst e
 cases r1
 obtain ⟨us,es,rd,el,l1,l2,l3,_,hs⟩:=raw_of I1.hok hq
 refine iter_raw hs rd ?_
 refine ⟨s1.heap.objs.size,[s1.heap.objs.size],_,_,H1,rfl,I1.kept (t':=s1.toks) fun b o e=>Heap.get?_push_of_some _ e,turn_dict _,⟨_,Heap.get?_push_size _ rfl,rfl,by rw [l3]; rfl⟩,fun c hc=>?_,q⟩
 have e:c=s1.heap.objs.size:=by simpa using hc
 subst e
 exact I1.fpOk (Nat.le_refl _) (I1.hok.fresh (Nat.le_refl _))
end
section
variable {K:PySem.W.Frag} {B H:Hp}
theorem reps_intV:∀ {vs:List V} {l:List Int},Reps K B vs (l.map D.int)→vs=l.map V.int
 | _,[],r=>by cases r; rfl
 | _,i :: l,r=>by
  rw [List.map_cons] at r
  cases r with
  | cons h t=>rw [h.intV,reps_intV t]; rfl
theorem reps_tups (s:Same B H):∀ {vs:List V} {k:List (List Int)},Reps K B vs (k.map fun ks=>.tup (ks.map D.int))→∃ as:List Addr,vs=as.map V.ref∧Paired (fun (l:List Int) c=>H c=some (.tup (l.map V.int))) k as
 | _,[],r=>by cases r; exact ⟨[],rfl,.nil⟩
 | _,l :: k,r=>by
  rw [List.map_cons] at r
  cases r with
  | cons h t =>
   obtain ⟨c,us,rfl,hc,rs⟩:=h.tupV
   rw [reps_intV rs] at hc
   obtain ⟨as,rfl,p⟩:=reps_tups s t
   exact ⟨c :: as,rfl,.cons (s _ _ hc) p⟩
theorem key_ref {b:Bool} {k:List (List Int)} {v:V} (r:Rep K B v (keyD b k)):∃ c,v=.ref c:=by
 unfold keyD at r
 split at r
 ·obtain ⟨c,_,rfl,_⟩:=r.tupV; exact ⟨c,rfl⟩
 ·obtain ⟨c,_,rfl,_⟩:=r.tupV; exact ⟨c,rfl⟩
theorem keyAt_of {b:Bool} {k:List (List Int)} {c:Addr} (s:Same B H) (hb:b=false→∃ l,k=[l]) (r:Rep K B (.ref c) (keyD b k)):KeyAt H b k c:=by
 cases b with
 | false =>
  obtain ⟨l,rfl⟩:=hb rfl
  obtain ⟨c',us,e,hc,rs⟩:=(show Rep K B (.ref c) (.tup (l.map D.int)) from r).tupV
  cases e
  rw [reps_intV rs] at hc
  exact ⟨l,rfl,s _ _ hc⟩
 | true =>
  obtain ⟨c',us,e,hc,rs⟩:=(show Rep K B (.ref c) (.tup (k.map fun ks=>.tup (ks.map D.int))) from r).tupV
  cases e
  obtain ⟨as,rfl,p⟩:=reps_tups s rs
  exact ⟨as,s _ _ hc,p⟩
theorem keys_of {b:Bool} (s:Same B H):∀ {ks:List (List (List Int))} {as:List Addr},(b=false→∀ k∈ks,∃ l,k=[l])→Reps K B (as.map V.ref) (ks.map (keyD b))→Paired (KeyAt H b) ks as
 | [],[],_,_=>.nil
 | [],_ :: _,_,r=>by cases r
 | _ :: _,[],_,r=>by cases r
 | k :: ks,a :: as,hb,r=>by
  rw [List.map_cons,List.map_cons] at r
  cases r with
  | cons h t=>exact .cons (keyAt_of s (fun z=>hb z k List.mem_cons_self) h) (keys_of s (fun z k' m=>hb z k' (List.mem_cons_of_mem _ m)) t)
theorem reps_lk {b:Bool} {z:V} {dz:D} (rz:Rep K B z dz) (k:List (List Int)):∀ {ks:List (List (List Int))} {vs:List V} {ds:List D},Reps K B vs ds→Rep K B ((lkA ks vs k).getD z) ((lkA ks ds k).getD dz)
 | [],_,_,_=>by simp only [lkA,Option.getD_none]; exact rz
 | _ :: _,_,_,.nil=>by simp only [lkA,Option.getD_none]; exact rz
 | k' :: ks,_,_,.cons h t=>by
  rw [lkA,lkA]
  by_cases e:k'=k
  ·rw [if_pos e,if_pos e]; exact h
  ·rw [if_neg e,if_neg e]; exact reps_lk (b:=b) rz k t
theorem reps_lk2 {d:D} (k:List (List Int)):∀ {ks:List (List (List Int))} {vs:List V} {ds:List D},Reps K B vs ds→lkA ks ds k=some d→∃ v,lkA ks vs k=some v∧Rep K B v d
 | [],_,_,_,e=>by simp [lkA] at e
 | _ :: _,_,_,.nil,e=>by simp [lkA] at e
 | k' :: ks,_,_,.cons h t,e=>by
  rw [lkA] at e ⊢
  by_cases z:k'=k
  ·rw [if_pos z] at e ⊢; cases e; exact ⟨_,rfl,h⟩
  ·rw [if_neg z] at e ⊢; exact reps_lk2 k t e
theorem reps_rp {v:V} {d:D} (r:Rep K B v d) (k:List (List Int)):∀ {ks:List (List (List Int))} {vs:List V} {ds:List D},Reps K B vs ds→Reps K B (rpA ks vs k v) (rpA ks ds k d)
 | [],_,_,t=>by simp only [rpA]; exact t
 | _ :: _,_,_,.nil=>by simp only [rpA]; exact .nil
 | k' :: ks,_,_,.cons h t=>by
  rw [rpA,rpA]
  refine .cons ?_ (reps_rp r k t)
  by_cases e:k'=k
  ·rw [if_pos e,if_pos e]; exact r
  ·rw [if_neg e,if_neg e]; exact h
theorem reps_pt {v:V} {d:D} (r:Rep K B v d) (k:List (List Int)) {ks:List (List (List Int))} {vs:List V} {ds:List D} (t:Reps K B vs ds):Reps K B (ptA ks vs k v) (ptA ks ds k d):=by
 unfold ptA
 by_cases m:k∈ks
 ·rw [if_pos m,if_pos m]; exact reps_rp r k t
 ·rw [if_neg m,if_neg m]; exact t.append (.cons r .nil)
theorem reps_ptK {b:Bool} {c:Addr} {k:List (List Int)} {ks:List (List (List Int))} {as:List Addr} (r:Rep K B (.ref c) (keyD b k)) (t:Reps K B (as.map V.ref) (ks.map (keyD b))) :
  Reps K B ((if k∈ks then as else as ++ [c]).map V.ref) ((ptK ks k).map (keyD b)):=by
 unfold ptK
 by_cases m:k∈ks
 ·rw [if_pos m,if_pos m]; exact t
 ·rw [if_neg m,if_neg m,List.map_append,List.map_append]; exact t.append (.cons r .nil)
end
def KeyOk (b:Bool) (k:List (List Int)):Prop:=b=false→∃ l,k=[l]
theorem ptK_ok {b:Bool} {k:List (List Int)} {ks:List (List (List Int))} (h:b=false→∀ k∈ks,∃ l,k=[l]) (hk:KeyOk b k):b=false→∀ k'∈ptK ks k,∃ l,k'=[l]:=fun z k' m=>by
 unfold ptK at m
 split at m
 ·exact h z k' m
 ·rcases List.mem_append.mp m with m | m
  ·exact h z k' m
  ·rw [List.mem_singleton.mp m]; exact hk z
def uDnew (b:Bool) (i:Nat):US:=fun U ρ=>U.nx (ρ.set i (.own (.d b none [] [])))
def uDget2 (b:Bool) (n:Nat) (ue uf:UE):UE:=fun ρ k=>∃ t ks ds,ρ[n]?=some (.own (.d b t ks ds))∧ue ρ fun y=>uf ρ fun z=>∃ kk,y=keyD b kk∧KeyOk b kk∧k ((lkA ks ds kk).getD z)
def uDput (b:Bool) (n:Nat) (ue uv:UE):US:=fun U ρ=>uv ρ fun d=>∃ t ks ds,ρ[n]?=some (.own (.d b t ks ds))∧ue ρ fun y=>∃ kk,y=keyD b kk∧KeyOk b kk∧ks.length < sizeLine∧U.nx (ρ.set n (.own (.d b t (ptK ks kk) (ptA ks ds kk d))))
def uIxD (b:Bool) (uo ue:UE):UE:=fun ρ k=>uo ρ fun x=>ue ρ fun y=>∃ ks ds kk d,x=.dct b ks ds∧y=keyD b kk∧KeyOk b kk∧lkA ks ds kk=some d∧k d
def uiD (u:UE):UL:=fun ρ k=>u ρ fun x=>∃ b ks ds,x=.dct b ks ds∧k (ks.map (keyD b))
def uFzD (i:Nat) (s:US):US:=fun U ρ=>∃ b t ks ds,ρ[i]?=some (.own (.d b t ks ds))∧s U (ρ.set i (.val (.dct b ks ds)))
section
variable {X:Cx} {b:Bool} {n:Nat} {x:Str} {px pos pos' apos cpos pd:Pos} {o e f i value:Expr} {uo ue uf uv:UE} {tg:Expr}
theorem s_dnew {i:Nat} (hN:X.N.Nodup) (hi:X.N[i]?=some x) (hx:Loc X.env.scope x) (hs:swapsWith (.Dict [] [] pd) (some (.Name x pos')) pos.line X.env=pure false:=by rfl) (hf:X.fn x=true∨X.env.scope.names.lookup x=some .local:=by first | exact .inl rfl | exact .inr rfl | assumption) :
  PS3 X (.Assign [.Name x pos'] (.Dict [] [] pd) pos) (uDnew b i):=by
 refine ⟨_,ps_set hN hi hx (pe_cnew (b:=b)) hs hf,fun U ρ h R W B H σ D e s=>?_⟩
 intro p hp
 obtain ⟨f1,f2,f3⟩:=e.toWd.fresh hp
 exact s.nx _ _ B _ h ((e.allocH hp _).setC i f1 f3 ⟨0,[],[],(fun _ z=>nomatch z),upd_same,.nil,fun _ _ z=>by simp at z,.nil⟩ fun j _ m=>e.notNew hp m rfl) (Grow.refl _ _)
theorem e_dget2 (n:Nat) (hu:X.A.units + 4 < cLine) (he:PE3 X e ue) (hf:PE3 X f uf) (hN:X.N[n]?=some x:=by rfl) (hv:Vis X.env.scope x:=by first | exact Or.inl rfl | exact Or.inr (Or.inl rfl) | exact Or.inr (Or.inr rfl)) (hd:(x == ("__debug__" : Str))=false:=by decide)
  (hcd:(x == ("__classdict__" : Str))=false:=by decide)
  (hbase:attributeBase (.Name x px) "get" X.env (eval (.Name x px) X.env)=eval (.Name x px) X.env:=by rfl)
  (hfew:((backTo cpos (starEach [e,f] X.env)).all (fun x => !x.1) && (backToKw cpos (keywordEach [] X.env)).all (fun x=>x.1.isSome)
   && decide (([e,f]:List Expr).length + ([]:List Keyword).length + (if ([]:List Keyword).isEmpty then 0 else 1) < 30))=true:=by rfl)
  (hline:(apos.endLine == cpos.line)=true:=by rfl) (htr:backTo cpos (starEach [e,f] X.env)=[(false,eval e X.env),(false,eval f X.env)]:=by rfl) :
  PE3 X (.Call (.Attribute (.Name x px) "get" apos) [e,f] [] cpos) (uDget2 b n ue uf):=by
 obtain ⟨_,h1,r1⟩:=he
 obtain ⟨_,h2,r2⟩:=hf
 refine ⟨_,pe_cget2 (b:=b) hu (pe_var hN hv hd hcd) h1 h2 hbase hfew hline htr,fun ρ k z R W B H σ Q ev q=>?_⟩
 obtain ⟨t,ks,ds,ho,z⟩:=z
 obtain ⟨a,e1,e2,e3,ep,as,vs,_,e4,e5,e6,e7⟩:=ev.ownC ho
 refine ⟨_,e1,a,rfl,⟨b,ep,ks,as,vs,e4,keys_of ev.bh e6 e5⟩,?_⟩
 refine r1 ρ _ z R W B H σ _ ev fun y v B1 H1 z1 f1 g1 s1=>?_
 refine r2 ρ _ z1 R W B1 H1 σ _ f1 fun y2 v2 B2 H2 z2 f2 g2 s2=>?_
 obtain ⟨kk,rfl,hk,hq⟩:=z2
 obtain ⟨c,rfl⟩:=key_ref s1
 obtain ⟨a',c1,c2,c3,ep',as',vs',_,c4,c5,c6,c7⟩:=f2.ownC ho
 rw [e1] at c1; cases c1
 exact ⟨c,ep',ks,as',vs',kk,rfl,⟨c4,keys_of f2.bh c6 c5⟩,keyAt_of f2.bh hk (s1.mono g2.s),q _ _ B2 H2 hq f2 (g1.trans g2) (reps_lk (b:=b) s2 kk c7)⟩
theorem e_ixD (b:Bool) (hu:X.A.units + 4 < cLine) (ho:PE3 X o uo) (he:PE3 X e ue) (hs:PlainIx e):PE3 X (.Subscript o e pos) (uIxD b uo ue):=by
 obtain ⟨_,h1,r1⟩:=ho
 obtain ⟨_,h2,r2⟩:=he
 refine ⟨_,pe_ix (ix_dic (b:=b) hu) h1 h2 hs,fun ρ k z R W B H σ Q ev q=>?_⟩
 refine r1 ρ _ z R W B H σ _ ev fun x v B1 H1 z1 f1 g1 s1=>?_
 refine r2 ρ _ z1 R W B1 H1 σ _ f1 fun y v2 B2 H2 z2 f2 g2 s2=>?_
 obtain ⟨ks,ds,kk,d,rfl,rfl,hk,hl,hq⟩:=z2
 obtain ⟨c,rfl⟩:=key_ref s2
 cases s1.mono g2.s with
 | @dct a _ ep _ as vs _ hB hkk hbb rr =>
  obtain ⟨v,hv,rv⟩:=reps_lk2 kk rr hl
  exact ⟨a,c,ep,ks,as,vs,kk,v,rfl,rfl,⟨f2.bh _ _ hB,keys_of f2.bh hbb hkk⟩,keyAt_of f2.bh hk s2,hv,q _ _ B2 H2 hq f2 (g1.trans g2) rv⟩
theorem s_dput (n:Nat) (hu:X.A.units + 4 < cLine) (he:PE3 X e ue) (hv:PE3 X value uv) (hN:X.N[n]?=some x:=by rfl) (hvi:Vis X.env.scope x:=by first | exact Or.inl rfl | exact Or.inr (Or.inl rfl) | exact Or.inr (Or.inr rfl)) (hd:(x == ("__debug__" : Str))=false:=by decide)
  (hcd:(x == ("__classdict__" : Str))=false:=by decide) (hs:swapsWith value (some (.Subscript (.Name x px) e pos')) pos.line X.env=pure false:=by rfl) :
  PS3 X (.Assign [.Subscript (.Name x px) e pos'] value pos) (uDput b n ue uv):=by
 obtain ⟨_,h1,r1⟩:=hv
 obtain ⟨_,h2,r2⟩:=he
 refine ⟨_,ps_cput (b:=b) hu (pe_var hN hvi hd hcd) h2 h1 hs,fun U ρ z R W B H σ D ev sm=>?_⟩
 refine r1 ρ _ z R W B H σ _ ev fun d v B1 H1 z1 f1 g1 s1=>?_
 obtain ⟨t,ks,ds,ho,z1⟩:=z1
 obtain ⟨a,e1,e2,e3,_⟩:=f1.ownC ho
 refine ⟨_,e1,?_⟩
 refine r2 ρ _ z1 R W B1 H1 σ _ f1 fun y v2 B2 H2 z2 f2 g2 s2=>?_
 obtain ⟨kk,rfl,hk,hl,hq⟩:=z2
 obtain ⟨c,rfl⟩:=key_ref s2
 obtain ⟨a',c1,c2,c3,ep,as,vs,c0,c4,c5,c6,c7⟩:=f2.ownC ho
 rw [e1] at c1; cases c1
 refine ⟨a,c,ep,ks,as,vs,kk,rfl,rfl,⟨c4,keys_of f2.bh c6 c5⟩,keyAt_of f2.bh hk s2,hl,fun ep'=>?_⟩
 exact sm.nx _ _ B2 _ hq (f2.writeC e1 ho ⟨ep',_,_,c0,upd_same,reps_ptK s2 c5,ptK_ok c6 hk,reps_pt (s1.mono g2.s) kk c7⟩) (g1.trans g2)
theorem s_fzD {st:List Stmt} {s:US} (i:Nat) (h:PSs3 X st s):PSs3 X st (uFzD i s):=by
 obtain ⟨_,h1,r1⟩:=h
 refine ⟨_,h1,fun U ρ h R W B H σ D e sm=>?_⟩
 obtain ⟨b,t,ks,ds,ho,z⟩:=h
 obtain ⟨B',e',g⟩:=e.fzD ho
 exact r1 U _ z R W B' H σ D e' (sm.grow g)
theorem i_dct {l:Expr} (hl:PE3 X l uo):PI3 X tg l (uiD uo):=by
 obtain ⟨_,h1,r1⟩:=hl
 refine ⟨_,pi_dict h1,fun ρ k h R W B H σ Q e q=>?_⟩
 refine r1 ρ _ h R W B H σ _ e fun d v B1 H1 z1 e1 g1 s1=>?_
 obtain ⟨b,ks,ds,rfl,z⟩:=z1
 cases s1 with
 | @dct a _ ep _ as vs _ hB hkk hbb rr =>
  refine ⟨b,a,ep,ks,as,vs,rfl,e1.bh _ _ hB,q _ _ B1 H1 z e1 g1 fun H' sH i=>⟨fun hi=>⟨sH _ _ hB,by simpa using hi⟩,fun hi=>⟨sH _ _ hB,by simpa using hi⟩,fun x H2 hi y=>?_⟩⟩
  obtain ⟨rfl,c,hc,rfl⟩:=y
  obtain ⟨d,hd,rd⟩:=hkk.getV (i:=i) (v:=.ref c) (by rw [List.getElem?_map,hc]; rfl)
  exact ⟨rfl,d,hd,rd⟩
end
end L3
namespace L3
open PySem L2
theorem hu4 {A:Around} {k:Nat} (hr:Room k A):A.units + 4 < cLine:=Nat.lt_of_le_of_lt (Nat.add_le_add_left (by decide:4≤64) _) hr.units
abbrev FD:=Bool→List (List (List Int))→List D→List D→(List (List (List Int))→List D→Prop)→Prop
def ConD (K:PySem.W.Frag) (n:Nat) (F:FD):Sp:=fun vs H Q _=>∃ (B:Hp) (a:Addr) (us:List V) (xs:List D) (b:Bool) (ks:List (List (List Int))) (ds:List D) (k:List (List (List Int))→List D→Prop),
 vs=.ref a :: us∧F b ks ds xs k∧xs.length + 1=n∧Same B H∧B a=none∧CnOk K B H a (.d b none ks ds)∧Reps K B us xs ∧
 ∀ ks' ds' B' H',k ks' ds'→(∀ c o,c≠a→H c=some o→H' c=some o)→Same B' H'→Same B B'→(∀ c o,B' c=some o→B c=some o∨c=a∨H c=none)→B' a=none→CnOk K B' H' a (.d b none ks' ds')→Q .non H'
def uCallW (m n:Nat) (F:FD) (w:UL):US:=fun U ρ=>∃ b t ks ds,ρ[m]?=some (.own (.d b t ks ds))∧w ρ fun xs=>xs.length + 1=n∧F b ks ds xs fun ks' ds'=>U.nx (ρ.set m (.own (.d b t ks' ds')))
section
variable {K:PySem.W.Frag}
theorem def3D {P:Program} {w:World} {mg:Str→Option Value} {base:Heap} {x:Str} {st:Stmt} {N ps:List Str} {lv n:Nat} {F:FD} (Fd:Fnd K mg x st ps) (S:FnScope N ps (defScope st)) (hn:ps.length=n)
  (hbody:∀ (f:Addr) (cdv:Value) (A:Around) (outer:List PySem.Env) (s:Shared) (H:Hp) (E:XK),Room lv (A.deeper (PyProof.Rows.envOfC x (defScope st) s.heap.objs.size f cdv)) →
   ∃ u,PSs3 (cxOf CX0 P w K mg base N x (defScope st) f cdv A outer s H E).nox (defBody st) u∧∀ b t ks ds xs k,xs.length + 1=n→F b ks ds xs k →
    u { nx:=fun ρ=>∃ ks' ds',ρ[0]?=some (.own (.d b t ks' ds'))∧k ks' ds',rt:=fun _=>False } (.own (.d b t ks ds) :: xs.map Sl.val ++ List.replicate (N.length - n) .no)):Cal P w K mg base x ps (lv + 1) (ConD K n F):=by
 refine Fd.ok S (fun vs H Q E h=>?_) (fun f cdv A outer s H vs Q E hr h=>?_)
 ·obtain ⟨B,a,us,xs,b,ks,ds,k,rfl,_,hl,_,_,_,rs,_⟩:=h
  rw [List.length_cons,rs.length,hl,hn]
 ·obtain ⟨B,a,us,xs,b,ks,ds,k,rfl,hF,hl,sB,hb,hc,rs,q⟩:=h
  obtain ⟨u,⟨t,ht,rt⟩,hu⟩:=hbody f cdv A outer s H E hr
  obtain ⟨ep,as,vs,_,c4,c5,c6,c7⟩:=hc
  have hlen:=rs.length
  have hRa:(fun c=>if c=a then none else H c:Hp) a=none:=if_pos rfl
  have hRc:∀ c,c≠a→(fun c=>if c=a then none else H c:Hp) c=H c:=fun c z=>if_neg z
  generalize hR:(fun c=>if c=a then none else H c:Hp)=R at hRa hRc
  have hxs:(xs.map Sl.val).length=us.length:=by rw [List.length_map]; omega
  have at0:(L2.start N (.ref a :: us))[0]?=some (some (.ref a)):=rfl
  have atS:∀ i v,us[i]?=some v→(L2.start N (.ref a :: us))[i + 1]?=some (some v):=fun i v h=>by
   have lt:i < us.length:=by
    by_cases z:i < us.length
    ·exact z
    ·rw [List.getElem?_eq_none (by omega)] at h; cases h
   unfold L2.start
   rw [List.getElem?_append_left (by rw [List.length_map,List.length_cons]; omega),List.getElem?_map,List.getElem?_cons_succ,h]
   rfl
  have look:∀ (i:Nat) (kk:Sl),(Sl.own (.d b (some a) ks ds) :: xs.map Sl.val ++ List.replicate (N.length - n) Sl.no)[i]?=some kk→(i=0∧kk=.own (.d b (some a) ks ds))∨(∃ j d,i=j + 1∧xs[j]?=some d∧kk=.val d)∨kk=.no:=fun i kk h=>by
   cases i with
   | zero=>exact .inl ⟨rfl,(Option.some.inj h).symm⟩
   | succ j =>
    rw [List.cons_append,List.getElem?_cons_succ] at h
    by_cases z:j < (xs.map Sl.val).length
    ·rw [List.getElem?_append_left z,List.getElem?_map] at h
     cases y:xs[j]? with
     | none=>rw [y] at h; cases h
     | some d=>rw [y] at h; exact .inr (.inl ⟨j,d,rfl,y,(Option.some.inj h).symm⟩)
    ·rw [List.getElem?_append_right (by omega),List.getElem?_replicate] at h
     split at h
     ·exact .inr (.inr (Option.some.inj h).symm)
     ·cases h
  have ev:Ev K R (fun _=>False) B H (L2.start N (.ref a :: us)) (.own (.d b (some a) ks ds) :: xs.map Sl.val ++ List.replicate (N.length - n) .no):=by
   refine ⟨⟨fun c o h _=>?_,sB,fun _ z=>z.elim,fun _ z=>z.elim,fun _ z=>z.elim⟩,?_,fun i kk h=>?_,fun i j c m1 m2=>?_⟩
   ·by_cases z:c=a
    ·subst z; rw [hRa] at h; cases h
    ·rw [hRc c z] at h; exact h
   ·unfold L2.start
    simp only [List.length_append,List.length_map,List.length_cons,List.length_replicate]
    omega
   ·rcases look i kk h with ⟨rfl,rfl⟩ | ⟨j,d,rfl,hd,rfl⟩ | rfl
    ·exact ⟨a,by rw [at0]; rfl,hRa,hb,ep,as,vs,fun c z=>by cases z; rfl,c4,c5,c6,c7⟩
    ·obtain ⟨v,hv,rv⟩:=rs.get hd
     exact ⟨v,by rw [atS j v hv]; rfl,rv⟩
    ·trivial
   ·have one:∀ i,MutAt (L2.start N (.ref a :: us)) (.own (.d b (some a) ks ds) :: xs.map Sl.val ++ List.replicate (N.length - n) .no) i c→i=0:=fun i m=>by
     rcases m.2 with z | ⟨_,z⟩
     ·rcases look i _ z with ⟨rfl,y⟩ | ⟨j,d,rfl,hd,y⟩ | y <;> cases y
     ·rcases look i _ z with ⟨rfl,y⟩ | ⟨j,d,rfl,hd,y⟩ | y
      ·rfl
      ·cases y
      ·cases y
    rw [one i m1,one j m2]
  refine ⟨t,ht,rt _ _ (hu b (some a) ks ds xs k hl hF) R (fun _=>False) B H (L2.start N (.ref a :: us)) _ ev ⟨fun ρ σ B' H' h e g=>?_,fun _ _ _ _ h=>h.elim,fun _ _ _ _ h=>h.elim,fun _ _ _ _ h=>h.elim⟩⟩
  obtain ⟨ks',ds',ho,hk⟩:=h
  obtain ⟨a',d1,d2,d3,ep',as',vs',d0,d4,d5,d6,d7⟩:=e.ownC ho
  have ea:a=a':=d0 a rfl
  subst ea
  refine q ks' ds' B' H' hk (fun c o hc hH=>e.fr c o (by rw [hRc c hc]; exact hH) fun z=>z) e.bh g.s (fun c o z=>?_) d3 ⟨ep',as',vs',(fun _ z=>nomatch z),d4,d5,d6,d7⟩
  rcases g.n c o z with y | y
  ·exact .inl y
  ·by_cases z2:c=a
   ·exact .inr (.inl z2)
   ·rw [hRc c z2] at y; exact .inr (.inr y)
end
section
variable {X:Cx} {m n:Nat} {x:Str} {px p pos pos2:Pos} {e:Expr} {es:List Expr} {F:FD} {w:UL}
theorem s_callD {f:Str} {ps:List Str} {j lv:Nat} (m:Nat) (c:Cal X.prog X.w X.K X.mg X.base f ps j (ConD X.K n F)) (hr:Room lv X.A) (hg:Gl X f) (ha:PL3 X es w) (hN:X.N[m]?=some x:=by rfl) (hv:Vis X.env.scope x:=by first | exact Or.inl rfl | exact Or.inr (Or.inl rfl) | exact Or.inr (Or.inr rfl)) (hd:(x == ("__debug__" : Str))=false:=by decide)
  (hcd:(x == ("__classdict__" : Str))=false:=by decide) (hjk:j≤lv:=by decide) (hdb:(f == ("__debug__" : Str))=false:=by decide)
  (he:starEach (.Name x px :: es) X.env=(false,eval (.Name x px) X.env) :: starEach es X.env:=by rfl) (hpl:(backTo pos (starEach es X.env)).any (·.1)=false:=by rfl) (hs:swapsWith (.Call (.Name f p) (.Name x px :: es) [] pos) none pos2.line X.env=pure false:=by rfl) :
  PS3 X (.Expr (.Call (.Name f p) (.Name x px :: es) [] pos) pos2) (uCallW m n F w):=by
 obtain ⟨_,h1,r1⟩:=ha
 refine ⟨_,ps_expr (pe_cal c hr hg (pa_cons (pe_var hN hv hd hcd) h1 he) hjk hdb he hpl) hs,fun U ρ h R W B H σ D ev sm=>?_⟩
 obtain ⟨b,t,ks,ds,ho,h⟩:=h
 obtain ⟨a,e1,e2,e3,_⟩:=ev.ownC ho
 refine ⟨_,e1,?_⟩
 refine r1 ρ _ h R W B H σ _ ev fun xs vs B1 H1 z1 f1 g1 s1=>?_
 obtain ⟨zl,z1⟩:=z1
 obtain ⟨a',c1,c2,c3,ep,as,us,c0,c4,c5,c6,c7⟩:=f1.ownC ho
 rw [e1] at c1; cases c1
 show ConD X.K n F ((.ref a :: vs) ++ []) H1 _ _
 rw [List.append_nil]
 refine ⟨B1,a,vs,xs,b,ks,ds,_,rfl,z1,zl,f1.bh,c3,⟨ep,as,us,(fun _ z=>nomatch z),c4,c5,c6,c7⟩,s1,fun ks' ds' B' H' hk fr sB s2 gn hBa cn=>?_⟩
 have nWa:¬ W a:=fun z=>f1.wr a z c2
 have mm:MutAt σ ρ m a:=⟨e1,.inr ⟨_,ho⟩⟩
 have nb:∀ c,c≠a→B1 c=none→H1 c≠none→B' c=none:=fun c hc h1 h2=>by
  cases z:B' c with
  | none=>rfl
  | some o =>
   rcases gn c o z with y | y | y
   ·rw [h1] at y; cases y
   ·exact absurd y hc
   ·exact absurd y h2
 have f0:Ev X.K R W B1 H1 (σ.set m (some .non)) (ρ.set m .no):=f1.set m trivial fun _ _ z=>by rcases z with z | ⟨_,z⟩ <;> cases z
 have wd:Wd R W B' H':=by
  refine ⟨fun c o h nw=>fr c o (by rintro rfl; rw [c2] at h; cases h) (f1.fr c o h nw),sB,fun c z=>?_,fun c z=>?_,f1.wr⟩
  ·obtain ⟨y1,y2,y3,_⟩:=f1.wh c z
   exact nb c (by rintro rfl; exact nWa z) (f1.wb c z) (by rw [y3]; simp)
  ·obtain ⟨y1,y2,y3,y4⟩:=f1.wh c z
   exact ⟨y1,y2,fr c _ (by rintro rfl; exact nWa z) y3,y4⟩
 have keep:∀ c,c≠a→H1 c≠none→H' c=H1 c:=fun c hc hn=>by
  cases z:H1 c with
  | none=>exact absurd z hn
  | some o=>exact fr c o hc z
 have f2:Ev X.K R W B' H' (σ.set m (some .non)) (ρ.set m .no):=f0.move wd s2 fun i c mu=>by
  have ne:c≠a:=by
   rintro rfl
   rcases mut_set mu with ⟨_,z,_⟩ | ⟨hne,mu⟩
   ·cases z
   ·exact hne (f1.sep i m c mu mm)
  obtain ⟨y1,y2⟩:=f0.mutOk mu
  refine ⟨nb c ne y1 y2,fun z=>?_,fun _=>keep c ne y2⟩
  obtain ⟨c',w1,_,_,w4⟩:=f0.bagAt z
  rw [mu.1] at w1; cases w1
  obtain ⟨x1,x2,x3,x4⟩:=w4
  exact ⟨x1,x2,by rw [keep c ne y2]; exact x3,x4⟩
 obtain ⟨ep',as',us',_,d4,d5,d6,d7⟩:=cn
 have f3:=f2.setC m (c:=.d b t ks' ds') c2 hBa ⟨ep',as',us',c0,d4,d5,d6,d7⟩ fun j hj mu=>by
  rcases mut_set mu with ⟨_,z,_⟩ | ⟨hne,mu⟩
  ·cases z
  ·exact hne (f1.sep j m a mu mm)
 rw [List.set_set,List.set_set] at f3
 have q:σ.set m (some (.ref a))=σ:=by
  apply List.ext_getElem?
  intro j
  by_cases z:m=j
  ·subst z
   have lt:m < σ.length:=by
    by_cases z:m < σ.length
    ·exact z
    ·rw [List.getElem?_eq_none (by omega)] at e1; cases e1
   rw [List.getElem?_set_self lt,e1]
  ·rw [List.getElem?_set_ne z]
 rw [q] at f3
 refine sm.nx _ _ B' H' hk f3 (g1.trans ⟨s2,fun c o z=>?_⟩)
 rcases gn c o z with y | y | y
 ·exact .inl y
 ·subst y; exact .inr c2
 ·exact .inr (f1.toWd.fresh y).1
end
end L3
namespace Cut
open PySem L2 L3
abbrev dH (ps:List P3):D:=.lst (ps.map dP)
theorem atI_some {α β:Type} {f:α→β} {L:List α} {i:Int} (h1 : -(L.length:Int)≤i) (h2:i < L.length):∃ x∈L,atI (L.map f) i=some (f x):=by
 have e:∃ j,L2.ixN (L.map f).length i=some j∧j < L.length:=by
  unfold L2.ixN
  rw [List.length_map]
  by_cases h0:0≤i
  ·rw [if_pos h0,if_pos h2]
   exact ⟨_,rfl,by omega⟩
  ·rw [if_neg h0,if_pos h1]
   exact ⟨_,rfl,by omega⟩
 obtain ⟨j,e,hj⟩:=e
 refine ⟨L[j],List.getElem_mem _,?_⟩
 unfold atI
 rw [e]
 simp [hj]
end Cut
namespace Cut
open PySem L2 L3
open PySem.Builtin.Int (intBits)
end Cut
namespace Cut
open PySem L2 L3
end Cut
namespace Cut
open PySem L2 L3
open PySem.Builtin.Int (intBits)
abbrev RP:=List (List P3)
end Cut
namespace Cut
end Cut
namespace Cut
open PySem L2 L3
open PySem.Builtin.Int (intBits)
end Cut
namespace Cut
end Cut
namespace Cut
end Cut
namespace Cut
open PySem L2 L3
end Cut
namespace Cut
open PySem L2 L3
open PySem.Builtin.Int (intBits)
end Cut
namespace Cut
open PySem
end Cut
namespace Cut
open PySem L2 L3
open PySem.Builtin.Int (intBits)
end Cut
namespace Cut
open PySem L2 L3
def dL (p:P3):List Int:=[p.1,p.2.1,p.2.2]
def gcL (l:P3):Int:=(Nat.gcd (Nat.gcd l.1.natAbs l.2.1.natAbs) l.2.2.natAbs:Nat)
def downL (l:P3):Prop:=l.1 < 0∨(l.1=0∧l.2.1 < 0)
instance (l:P3):Decidable (downL l):=by unfold downL; infer_instance
def oftL (l:P3):Int:=if downL l then -gcL l else gcL l
def nrmL (l:P3):P3:=(l.1 / oftL l,l.2.1 / oftL l,l.2.2 / oftL l)
theorem gcL_dvd (l:P3):gcL l ∣ l.1∧gcL l ∣ l.2.1∧gcL l ∣ l.2.2:=by
 unfold gcL
 refine ⟨?_,?_,?_⟩
 ·exact Int.ofNat_dvd_left.mpr (Nat.dvd_trans (Nat.gcd_dvd_left _ _) (Nat.gcd_dvd_left _ _))
 ·exact Int.ofNat_dvd_left.mpr (Nat.dvd_trans (Nat.gcd_dvd_left _ _) (Nat.gcd_dvd_right _ _))
 ·exact Int.ofNat_dvd_left.mpr (Nat.gcd_dvd_right _ _)
theorem oft_dvd (l:P3):oftL l ∣ l.1∧oftL l ∣ l.2.1∧oftL l ∣ l.2.2:=by
 obtain ⟨a,b,c⟩:=gcL_dvd l
 unfold oftL
 split
 ·exact ⟨Int.neg_dvd.mpr a,Int.neg_dvd.mpr b,Int.neg_dvd.mpr c⟩
 ·exact ⟨a,b,c⟩
theorem gcL_sc (c:Int) (l:P3):gcL (sc c l)=c.natAbs * gcL l:=by
 unfold gcL sc
 dsimp only
 rw [Int.natAbs_mul,Int.natAbs_mul,Int.natAbs_mul,Nat.gcd_mul_left,Nat.gcd_mul_left,Int.natCast_mul]
theorem oft_sc {c:Int} {l:P3} (hc:c≠0) (hl:l.1≠0∨l.2.1≠0):oftL (sc c l)=c * oftL l:=by
 have down:downL (sc c l)↔(if 0 < c then downL l else ¬ downL l):=by
  unfold downL sc
  dsimp only
  split
  ·rename_i h
   constructor
   ·rintro (z | ⟨z,y⟩)
    ·exact .inl (by
      by_cases q:l.1 < 0
      ·exact q
      ·have:=Int.mul_nonneg (Int.le_of_lt h) (show 0≤l.1 by omega)
       omega)
    ·have z:=(Int.mul_eq_zero.mp z).resolve_left hc
     refine .inr ⟨z,?_⟩
     by_cases q:l.2.1 < 0
     ·exact q
     ·have:=Int.mul_nonneg (Int.le_of_lt h) (show 0≤l.2.1 by omega)
      omega
   ·rintro (z | ⟨z,y⟩)
    ·exact .inl (Int.mul_neg_of_pos_of_neg h z)
    ·exact .inr ⟨by rw [z,Int.mul_zero],Int.mul_neg_of_pos_of_neg h y⟩
  ·rename_i h
   have h:c < 0:=by omega
   constructor
   ·rintro (z | ⟨z,y⟩) (q | ⟨q,r⟩)
    ·have:=Int.mul_pos_of_neg_of_neg h q; omega
    ·rw [q,Int.mul_zero] at z; omega
    ·have z:=(Int.mul_eq_zero.mp z).resolve_left hc; omega
    ·have:=Int.mul_pos_of_neg_of_neg h r; omega
   ·intro z
    have z1:¬ l.1 < 0:=fun q=>z (.inl q)
    by_cases q:l.1=0
    ·refine .inr ⟨by rw [q,Int.mul_zero],Int.mul_neg_of_neg_of_pos h ?_⟩
     have z2:¬ l.2.1 < 0:=fun r=>z (.inr ⟨q,r⟩)
     rcases hl with w | w
     ·exact absurd q w
     ·omega
    ·exact .inl (Int.mul_neg_of_neg_of_pos h (by omega))
 unfold oftL
 rw [gcL_sc]
 by_cases h:0 < c
 ·rw [if_pos h] at down
  have e:((c.natAbs:Nat):Int)=c:=by omega
  by_cases d:downL l
  ·rw [if_pos (down.mpr d),if_pos d,e,Int.mul_neg]
  ·rw [if_neg (fun z=>d (down.mp z)),if_neg d,e]
 ·rw [if_neg h] at down
  have e:((c.natAbs:Nat):Int) = -c:=by omega
  by_cases d:downL l
  ·rw [if_neg (fun z=>down.mp z d),if_pos d,e,Int.mul_neg,Int.neg_mul]
  ·rw [if_pos (down.mpr d),if_neg d,e,Int.neg_mul,Int.neg_neg]
theorem oft_ne {l:P3} (hl:l.1≠0∨l.2.1≠0):oftL l≠0:=by
 have g:gcL l≠0:=fun z=>by
  obtain ⟨a,b,_⟩:=gcL_dvd l
  rw [z] at a b
  have a:=Int.zero_dvd.mp a
  have b:=Int.zero_dvd.mp b
  rcases hl with h | h <;> contradiction
 unfold oftL
 split
 ·omega
 ·exact g
theorem div_sc {c x g:Int} (hc:c≠0) (hg:g≠0) (h:g ∣ x):c * x / (c * g)=x / g:=by
 obtain ⟨k,rfl⟩:=h
 rw [Int.mul_ediv_cancel_left _ hg,← Int.mul_assoc,Int.mul_ediv_cancel_left _ (Int.mul_ne_zero hc hg)]
theorem nrm_sc {c:Int} {l:P3} (hc:c≠0) (hl:l.1≠0∨l.2.1≠0):nrmL (sc c l)=nrmL l:=by
 obtain ⟨a,b,d⟩:=oft_dvd l
 have g:=oft_ne hl
 unfold nrmL
 rw [oft_sc hc hl]
 unfold sc
 dsimp only
 rw [div_sc hc g a,div_sc hc g b,div_sc hc g d]
def lnK (p q:P3):P3:=nrmL (crs p q)
def kE (p q x:P3):List (List Int):=[dL (lnK p q),dL x]
def sG (φ:List (List Int)→Int) (p q:P3):Rat:=((φ (kE p q p):Int):Rat) - ((φ (kE p q q):Int):Rat)
def sR (φ:List (List Int)→Int) (ps:List P3):Rat:=sumT (sG φ) (eds ps)
def sRs (φ:List (List Int)→Int) (rs:List (List P3)):Rat:=(rs.map (sR φ)).sum
def Bal (rs qs:List (List P3)):Prop:=∀ φ,sRs φ rs=sRs φ qs
end Cut
namespace Cut
open PySem L2 L3
theorem par_nrm {l w:P3} (hl:l.1≠0∨l.2.1≠0) (hw:w.1≠0∨w.2.1≠0) (h:crs l w=(0,0,0)):nrmL l=nrmL w:=by
 have h1:l.2.1 * w.2.2 - l.2.2 * w.2.1=0:=congrArg (·.1) h
 have h2:l.2.2 * w.1 - l.1 * w.2.2=0:=congrArg (·.2.1) h
 have h3:l.1 * w.2.1 - l.2.1 * w.1=0:=congrArg (·.2.2) h
 by_cases a:l.1=0
 ·have b:l.2.1≠0:=hl.resolve_left fun z=>z a
  have w1:w.1=0:=by
   rw [a] at h3
   have:l.2.1 * w.1=0:=by omega
   exact (Int.mul_eq_zero.mp this).resolve_left b
  have w2:w.2.1≠0:=hw.resolve_left fun z=>z w1
  have e:sc w.2.1 l=sc l.2.1 w:=p3_ext (by show w.2.1 * l.1=l.2.1 * w.1; rw [a,w1]; simp) (by show w.2.1 * l.2.1=l.2.1 * w.2.1; rw [Int.mul_comm]) (by show w.2.1 * l.2.2=l.2.1 * w.2.2; grind)
  rw [← nrm_sc w2 hl,e,nrm_sc b hw]
 ·have w1:w.1≠0:=fun z=>by
   rw [z] at h3
   have:l.1 * w.2.1=0:=by omega
   have:=(Int.mul_eq_zero.mp this).resolve_left a
   rcases hw with q | q
   ·exact q z
   ·exact q this
  have e:sc w.1 l=sc l.1 w:=p3_ext (by show w.1 * l.1=l.1 * w.1; rw [Int.mul_comm]) (by show w.1 * l.2.1=l.1 * w.2.1; grind) (by show w.1 * l.2.2=l.1 * w.2.2; grind)
  rw [← nrm_sc w1 hl,e,nrm_sc a hw]
theorem crs_ne {u v:P3} (hu:PtP u) (hv:PtP v) (h:u≠v):(crs u v).1≠0∨(crs u v).2.1≠0:=by
 by_cases a:(crs u v).1=0
 ·right
  intro b
  have a:u.2.1 * v.2.2 - u.2.2 * v.2.1=0:=a
  have b:u.2.2 * v.1 - u.1 * v.2.2=0:=b
  obtain ⟨e1,e2,e3⟩:=pt_uniq hu hv (by grind) (by grind)
  exact h (p3_ext e1 e2 e3)
 ·exact .inl a
theorem crs_on {l u v:P3} (hu:ln l u=0) (hv:ln l v=0):crs l (crs u v)=(0,0,0):=by
 unfold ln at hu hv
 refine p3_ext ?_ ?_ ?_ <;> simp only [crs] <;> grind
theorem lnK_on {l u v:P3} (hl:l.1≠0∨l.2.1≠0) (hu:PtP u) (hv:PtP v) (h:u≠v) (lu:ln l u=0) (lv:ln l v=0):lnK u v=nrmL l:=(par_nrm hl (crs_ne hu hv h) (crs_on lu lv)).symm
theorem crs_sw (u v:P3):crs v u=sc (-1) (crs u v):=by refine p3_ext ?_ ?_ ?_ <;> simp only [crs,sc] <;> grind
theorem lnK_swap {u v:P3} (hu:PtP u) (hv:PtP v):lnK v u=lnK u v:=by
 by_cases h:u=v
 ·rw [h]
 ·unfold lnK
  rw [crs_sw,nrm_sc (by decide) (crs_ne hu hv h)]
theorem nrm_of_sc {s b:Int} {x w:P3} (hs:s≠0) (hb:b≠0) (hw:w.1≠0∨w.2.1≠0) (e:sc s x=sc b w):nrmL x=nrmL w:=by
 obtain ⟨e1,e2,_⟩:=sc_out e
 have hx:x.1≠0∨x.2.1≠0:=by
  rcases hw with h | h
  ·left; intro z; rw [z,Int.mul_zero] at e1; exact Int.mul_ne_zero hb h e1.symm
  ·right; intro z; rw [z,Int.mul_zero] at e2; exact Int.mul_ne_zero hb h e2.symm
 rw [← nrm_sc hs hx,e,nrm_sc hb hw]
theorem lnK_btw {p q m:P3} (hp:PtP p) (hq:PtP q) (h:p≠q) (b:Btw p q m):lnK p m=lnK p q∧lnK m q=lnK p q:=by
 obtain ⟨s,a,c,s0,a0,c0,e⟩:=b
 obtain ⟨e1,e2,e3⟩:s * m.1=a * p.1 + c * q.1∧s * m.2.1=a * p.2.1 + c * q.2.1∧s * m.2.2=a * p.2.2 + c * q.2.2:=⟨congrArg (·.1) e,congrArg (·.2.1) e,congrArg (·.2.2) e⟩
 have w:=crs_ne hp hq h
 constructor
 ·refine nrm_of_sc (s:=s) (b:=c) (by omega) (by omega) w ?_
  refine p3_ext ?_ ?_ ?_ <;> simp only [crs,sc] <;> grind
 ·refine nrm_of_sc (s:=s) (b:=a) (by omega) (by omega) w ?_
  refine p3_ext ?_ ?_ ?_ <;> simp only [crs,sc] <;> grind
section
variable (φ:List (List Int)→Int) (l:P3)
def wt (x:P3):Rat:=((φ [dL (nrmL l),dL x]:Int):Rat)
def tF (p q:P3):Rat:=sG φ p q - (wt φ l p - wt φ l q)
end
theorem sumT_sub {T1 T2:P3→P3→Rat}:∀ (es:List (P3×P3)),sumT (fun p q=>T1 p q - T2 p q) es=sumT T1 es - sumT T2 es
 | []=>by rw [sumT_nil,sumT_nil,sumT_nil]; grind
 | e :: es=>by rw [sumT_cons,sumT_cons,sumT_cons,sumT_sub es]; grind
theorem sumT_congr {T1 T2:P3→P3→Rat}:∀ {es:List (P3×P3)},(∀ e∈es,T1 e.1 e.2=T2 e.1 e.2)→sumT T1 es=sumT T2 es
 | [],_=>rfl
 | e :: es,h=>by rw [sumT_cons,sumT_cons,h e List.mem_cons_self,sumT_congr fun e he=>h e (List.mem_cons_of_mem _ he)]
theorem tele0 (h:P3→Rat) (ps:List P3):sumT (fun p q=>h p - h q) (eds ps)=0:=by
 cases ps with
 | nil=>rfl
 | cons a r =>
  have e:lz (lz (0,0,1) (a :: r)) (a :: r)=lz (0,0,1) (a :: r):=lz_cons (by simp)
  unfold eds
  rw [tele,e]
  grind
theorem sR_tF (φ:List (List Int)→Int) (l:P3) (ps:List P3):sumT (tF φ l) (eds ps)=sR φ ps:=by
 unfold tF sR
 rw [sumT_sub (T1:=sG φ) (T2:=fun p q=>wt φ l p - wt φ l q),tele0]
 grind
theorem sG_self (φ:List (List Int)→Int) (u:P3):sG φ u u=0:=by unfold sG; grind
theorem tF_zero {φ:List (List Int)→Int} {l u v:P3} (hl:l.1≠0∨l.2.1≠0) (hu:PtP u) (hv:PtP v) (lu:ln l u=0) (lv:ln l v=0):tF φ l u v=0:=by
 by_cases h:u=v
 ·subst h; unfold tF; rw [sG_self]; grind
 ·unfold tF sG wt kE
  rw [lnK_on hl hu hv h lu lv]
  grind
section
variable {l o:P3} {ps:List P3}
theorem keep_one (φ:List (List Int)→Int) (hl:l.1≠0∨l.2.1≠0) (ho:PtP o) (lo:ln l o=0) (hv:∀ p∈ps,PtP p):sR φ (keepR (ln l) (mtQ l) ps)=sumT (TL (ln l) (mtQ l) (tF φ l)) (eds ps):=by
 have mv:∀ p q,PtP p→PtP q→ln l p * ln l q < 0→PtP (mtQ l p q):=fun p q hp hq c=>by
  rw [← mtQ_pt hp hq]; exact nP_pt (meet_ne hp hq c)
 have hz:∀ u v,PtP u→PtP v→ln l u=0→ln l v=0→tF φ l u v=0:=fun u v hu hv a b=>tF_zero hl hu hv a b
 unfold keepR
 split
 ·rw [← sR_tF φ l]
  exact cut_area (V:=PtP) hz (fun p q hp hq c=>⟨mv p q hp hq c,mtQ_on c⟩) o ho lo hv
 ·rename_i n
  rw [TL_none (V:=PtP) hz fun e he=>?_]
  ·rfl
  ·obtain ⟨h1,h2⟩:=eds_mem he
   have a:¬ 0 < ln l e.1:=fun z=>n ⟨_,h1,z⟩
   have b:¬ 0 < ln l e.2:=fun z=>n ⟨_,h2,z⟩
   exact ⟨hv _ h1,hv _ h2,by omega,by omega⟩
theorem keep_two (φ:List (List Int)→Int) (hl:l.1≠0∨l.2.1≠0) (ho:PtP o) (lo:ln l o=0) (hv:∀ p∈ps,PtP p):sR φ (keepR (fun c => -ln l c) (mtQ l) ps)=sumT (TL (fun c => -ln l c) (mtQ l) (tF φ l)) (eds ps):=by
 have mv:∀ p q,PtP p→PtP q→ln l p * ln l q < 0→PtP (mtQ l p q):=fun p q hp hq c=>by
  rw [← mtQ_pt hp hq]; exact nP_pt (meet_ne hp hq c)
 have hz:∀ u v,PtP u→PtP v → -ln l u=0 → -ln l v=0→tF φ l u v=0:=fun u v hu hv a b=>tF_zero hl hu hv (by omega) (by omega)
 unfold keepR
 split
 ·rw [← sR_tF φ l]
  refine cut_area (f:=fun c => -ln l c) (V:=PtP) hz (fun p q hp hq c=>?_) o ho (by show -ln l o=0; omega) hv
  have c:ln l p * ln l q < 0:=by rw [Int.neg_mul_neg] at c; exact c
  exact ⟨mv p q hp hq c,by show -ln l (mtQ l p q)=0; rw [mtQ_on c]; rfl⟩
 ·rename_i n
  rw [TL_none (f:=fun c => -ln l c) (V:=PtP) hz fun e he=>?_]
  ·rfl
  ·obtain ⟨h1,h2⟩:=eds_mem he
   have a:¬ 0 < -ln l e.1:=fun z=>n ⟨_,h1,z⟩
   have b:¬ 0 < -ln l e.2:=fun z=>n ⟨_,h2,z⟩
   exact ⟨hv _ h1,hv _ h2,by show -ln l e.1≤0; omega,by show -ln l e.2≤0; omega⟩
theorem ln_ne {p q:P3} (c:ln l p * ln l q < 0):p≠q:=by
 rintro rfl
 have:0≤ln l p * ln l p:=by
  rcases Int.le_total 0 (ln l p) with h | h
  ·exact Int.mul_nonneg h h
  ·exact Int.mul_nonneg_of_nonpos_of_nonpos h h
 omega
theorem tF_btw {φ:List (List Int)→Int} {p q m:P3} (hp:PtP p) (hq:PtP q) (h:p≠q) (b:Btw p q m):tF φ l p m + tF φ l m q=tF φ l p q:=by
 obtain ⟨e1,e2⟩:=lnK_btw hp hq h b
 unfold tF sG kE
 rw [e1,e2]
 grind
theorem keep_sum (φ:List (List Int)→Int) (hl:l.1≠0∨l.2.1≠0) (ho:PtP o) (lo:ln l o=0) (hv:∀ p∈ps,PtP p):sR φ (keepR (ln l) (mtQ l) ps) + sR φ (keepR (fun c => -ln l c) (mtQ l) ps)=sR φ ps:=by
 rw [keep_one φ hl ho lo hv,keep_two φ hl ho lo hv,← sR_tF φ l]
 refine sumT_add fun e he=>?_
 obtain ⟨h1,h2⟩:=eds_mem he
 exact TL_both (V:=PtP) (fun u v hu hv a b=>tF_zero hl hu hv a b) (hv _ h1) (hv _ h2) fun c=>tF_btw (hv _ h1) (hv _ h2) (ln_ne c) (btw_mtQ c)
end
def toP:List Int→P3
 | [a,b,c]=>(a,b,c)
 | _=>(0,0,0)
theorem toP_dL (p:P3):toP (dL p)=p:=rfl
def chi (s:Int) (φ:List (List Int)→Int) (l:P3):List (List Int)→Int
 | [k,x]=>if 0 < s * ln l (toP x) then φ [k,x] - φ [dL (nrmL l),x] - (φ [k,dL (nP (crs l (toP k)))] - φ [dL (nrmL l),dL (nP (crs l (toP k)))]) else 0
 | _=>0
theorem nP_crs {l p q:P3} (hp:PtP p) (hq:PtP q) (h:p≠q) (hn:(crs l (crs p q)).2.2≠0):nP (crs l (lnK p q))=nP (crs l (crs p q)):=by
 have w:=crs_ne hp hq h
 have g:=oft_ne w
 obtain ⟨d1,d2,d3⟩:=oft_dvd (crs p q)
 have e:crs p q=sc (oftL (crs p q)) (lnK p q):=by
  unfold lnK nrmL sc
  refine p3_ext ?_ ?_ ?_
  ·exact (Int.mul_ediv_cancel' d1).symm
  ·exact (Int.mul_ediv_cancel' d2).symm
  ·exact (Int.mul_ediv_cancel' d3).symm
 have e2:crs l (crs p q)=sc (oftL (crs p q)) (crs l (lnK p q)):=by
  conv=>lhs; rw [e]
  refine p3_ext ?_ ?_ ?_ <;> simp only [crs,sc] <;> grind
 have pt:=nP_pt hn
 obtain ⟨c,c0,hc⟩:=nP_sc hn
 exact (nP_of_sc (M:=crs l (lnK p q)) (h:=nP (crs l (crs p q))) g c0 pt (by rw [← e2]; exact hc)).2
theorem nP_end {l p q:P3} (hp:PtP p) (hq:PtP q) (lp:ln l p≠0) (lq:ln l q=0):nP (crs l (lnK p q))=q∧nP (crs l (lnK q p))=q:=by
 have ne:p≠q:=by rintro rfl; exact lp lq
 have e:crs l (crs p q)=sc (-ln l p) q:=by
  unfold ln at lq ⊢
  refine p3_ext ?_ ?_ ?_ <;> simp only [crs,sc] <;> grind
 have hq0:=hq.1
 have hn:(crs l (crs p q)).2.2≠0:=by
  rw [e]
  exact Int.mul_ne_zero (by omega) (by omega)
 have a:nP (crs l (lnK p q))=q:=by
  rw [nP_crs hp hq ne hn]
  exact (nP_of_sc (M:=crs l (crs p q)) (G:=1) (c := -ln l p) (by decide) (by omega) hq (by rw [e]; unfold sc; simp)).2
 exact ⟨a,by rw [lnK_swap hp hq]; exact a⟩
theorem ratI_sub (a b:Int):((a - b:Int):Rat)=(a:Rat) - (b:Rat):=by grind
section
variable {l:P3} {φ:List (List Int)→Int}
theorem chi_pos {s:Int} {k:List Int} {x:P3} (h:0 < s * ln l x):((chi s φ l [k,dL x]:Int):Rat)=((φ [k,dL x]:Int):Rat) - wt φ l x - (((φ [k,dL (nP (crs l (toP k)))]:Int):Rat) - wt φ l (nP (crs l (toP k)))):=by
 have e:chi s φ l [k,dL x]=φ [k,dL x] - φ [dL (nrmL l),dL x] - (φ [k,dL (nP (crs l (toP k)))] - φ [dL (nrmL l),dL (nP (crs l (toP k)))]):=by
  show (if 0 < s * ln l x then _ else _)=_
  rw [if_pos h]
 rw [e,ratI_sub,ratI_sub,ratI_sub]
 rfl
theorem chi_not {s:Int} {k:List Int} {x:P3} (h:¬ 0 < s * ln l x):((chi s φ l [k,dL x]:Int):Rat)=0:=by
 have e:chi s φ l [k,dL x]=0:=by
  show (if 0 < s * ln l x then _ else _)=_
  rw [if_neg h]
 rw [e]; rfl
theorem TL_chi (hl:l.1≠0∨l.2.1≠0) {p q:P3} (hp:PtP p) (hq:PtP q) {s:Int} (hs:s=1∨s = -1):TL (fun c=>s * ln l c) (mtQ l) (tF φ l) p q=sG (chi s φ l) p q:=by
 have sq:∀ a b:Int,(s * a) * (s * b)=a * b:=fun a b=>by rcases hs with rfl | rfl <;> grind
 unfold TL
 dsimp only
 rw [sq]
 have s0:∀ x:Int,s * x=0→x=0:=fun x h=>by rcases hs with rfl | rfl <;> omega
 have key:sG (chi s φ l) p q=((chi s φ l [dL (lnK p q),dL p]:Int):Rat) - ((chi s φ l [dL (lnK p q),dL q]:Int):Rat):=rfl
 rw [key]
 rcases Int.lt_trichotomy (s * ln l p) 0 with a | a | a
 ·rw [if_neg (show ¬ 0≤s * ln l p by omega),chi_not (show ¬ 0 < s * ln l p by omega)]
  by_cases b:0 < s * ln l q
  ·have c:ln l p * ln l q < 0:=by rw [← sq]; exact Int.mul_neg_of_neg_of_pos a b
   have ne:=ln_ne c
   obtain ⟨e1,e2⟩:=lnK_btw hp hq ne (btw_mtQ c)
   have em:nP (crs l (toP (dL (lnK p q))))=mtQ l p q:=by rw [toP_dL,nP_crs hp hq ne (meet_ne hp hq c),mtQ_pt hp hq]
   rw [if_pos c,chi_pos b,em]
   unfold tF sG kE
   rw [e2]
   grind
  ·have c:¬ ln l p * ln l q < 0:=by rw [← sq]; have:=Int.mul_nonneg_of_nonpos_of_nonpos (show s * ln l p≤0 by omega) (show s * ln l q≤0 by omega); omega
   rw [if_neg c,chi_not b]
   grind
 ·have lp:=s0 _ a
  have c:¬ ln l p * ln l q < 0:=by rw [lp,Int.zero_mul]; omega
  rw [if_pos (show 0≤s * ln l p by omega),chi_not (show ¬ 0 < s * ln l p by omega),if_neg c]
  rcases Int.lt_trichotomy (s * ln l q) 0 with b | b | b
  ·rw [if_neg (show ¬ 0≤s * ln l q by omega),chi_not (show ¬ 0 < s * ln l q by omega)]; grind
  ·rw [if_pos (show 0≤s * ln l q by omega),chi_not (show ¬ 0 < s * ln l q by omega),tF_zero hl hp hq lp (s0 _ b)]; grind
  ·have lq:ln l q≠0:=fun z=>by rw [z,Int.mul_zero] at b; omega
   have em:nP (crs l (toP (dL (lnK p q))))=p:=by rw [toP_dL]; exact (nP_end hq hp lq lp).2
   rw [if_pos (show 0≤s * ln l q by omega),chi_pos b,em]
   unfold tF sG kE
   grind
 ·have lp:ln l p≠0:=fun z=>by rw [z,Int.mul_zero] at a; omega
  rw [if_pos (show 0≤s * ln l p by omega),chi_pos a]
  rcases Int.lt_trichotomy (s * ln l q) 0 with b | b | b
  ·have c:ln l p * ln l q < 0:=by rw [← sq]; exact Int.mul_neg_of_pos_of_neg a b
   have ne:=ln_ne c
   obtain ⟨e1,e2⟩:=lnK_btw hp hq ne (btw_mtQ c)
   have em:nP (crs l (toP (dL (lnK p q))))=mtQ l p q:=by rw [toP_dL,nP_crs hp hq ne (meet_ne hp hq c),mtQ_pt hp hq]
   rw [if_neg (show ¬ 0≤s * ln l q by omega),if_pos c,chi_not (show ¬ 0 < s * ln l q by omega),em]
   unfold tF sG kE
   rw [e1]
   grind
  ·have em:nP (crs l (toP (dL (lnK p q))))=q:=by rw [toP_dL]; exact (nP_end hp hq lp (s0 _ b)).1
   rw [if_pos (show 0≤s * ln l q by omega),chi_not (show ¬ 0 < s * ln l q by omega),em]
   unfold tF sG kE
   grind
  ·rw [if_pos (show 0≤s * ln l q by omega),chi_pos b]
   unfold tF sG kE
   grind
theorem keep_chi {o:P3} {ps:List P3} (hl:l.1≠0∨l.2.1≠0) (ho:PtP o) (lo:ln l o=0) (hv:∀ p∈ps,PtP p):sR φ (keepR (ln l) (mtQ l) ps)=sR (chi 1 φ l) ps∧sR φ (keepR (fun c => -ln l c) (mtQ l) ps)=sR (chi (-1) φ l) ps:=by
 rw [keep_one φ hl ho lo hv,keep_two φ hl ho lo hv]
 constructor
 ·refine sumT_congr fun e he=>?_
  obtain ⟨h1,h2⟩:=eds_mem he
  have:=TL_chi (φ:=φ) hl (hv _ h1) (hv _ h2) (s:=1) (.inl rfl)
  rw [← this]
  congr 1
  funext c
  rw [Int.one_mul]
 ·refine sumT_congr fun e he=>?_
  obtain ⟨h1,h2⟩:=eds_mem he
  have:=TL_chi (φ:=φ) hl (hv _ h1) (hv _ h2) (s := -1) (.inr rfl)
  rw [← this]
  congr 1
  funext c
  rw [Int.neg_one_mul]
end
theorem Bal.keep {l o:P3} {rs qs:List (List P3)} (h:Bal rs qs) (hl:l.1≠0∨l.2.1≠0) (ho:PtP o) (lo:ln l o=0) (hr:∀ ps∈rs,∀ p∈ps,PtP p) (hq:∀ ps∈qs,∀ p∈ps,PtP p) :
  Bal (rs.map (keepR (ln l) (mtQ l))) (qs.map (keepR (ln l) (mtQ l)))∧Bal (rs.map (keepR (fun c => -ln l c) (mtQ l))) (qs.map (keepR (fun c => -ln l c) (mtQ l))):=by
 have one:∀ (L:List (List P3)) φ,(∀ ps∈L,∀ p∈ps,PtP p)→sRs φ (L.map (keepR (ln l) (mtQ l)))=sRs (chi 1 φ l) L:=fun L φ hL=>by
  unfold sRs
  rw [List.map_map]
  congr 1
  exact List.map_congr_left fun ps hp=>(keep_chi hl ho lo (hL ps hp)).1
 have two:∀ (L:List (List P3)) φ,(∀ ps∈L,∀ p∈ps,PtP p)→sRs φ (L.map (keepR (fun c => -ln l c) (mtQ l)))=sRs (chi (-1) φ l) L:=fun L φ hL=>by
  unfold sRs
  rw [List.map_map]
  congr 1
  exact List.map_congr_left fun ps hp=>(keep_chi hl ho lo (hL ps hp)).2
 exact ⟨fun φ=>by rw [one rs φ hr,one qs φ hq]; exact h _,fun φ=>by rw [two rs φ hr,two qs φ hq]; exact h _⟩
end Cut
namespace Cut
open PySem L2 L3
theorem prZ_mp (m:P3→P3):∀ (z:P3) (L:List P3),prZ (m z) (L.map m)=(prZ z L).map fun e=>(m e.1,m e.2)
 | _,[]=>rfl
 | z,p :: L=>by
  show (m z,m p) :: prZ (m p) (L.map m)=_
  rw [prZ_mp m p L]
  rfl
theorem lz_mp (m:P3→P3):∀ (z:P3) (L:List P3),lz (m z) (L.map m)=m (lz z L)
 | _,[]=>rfl
 | z,p :: L=>lz_mp m p L
theorem eds_mp (m:P3→P3) (ps:List P3):eds (ps.map m)=(eds ps).map fun e=>(m e.1,m e.2):=by
 cases ps with
 | nil=>rfl
 | cons a r =>
  unfold eds
  have e:lz (0,0,1) ((a :: r).map m)=m (lz (0,0,1) (a :: r)):=by
   rw [← lz_mp m (0,0,1) (a :: r)]
   exact lz_cons (by simp)
  rw [e,prZ_mp]
theorem sumT_map {T:P3→P3→Rat} (m:P3→P3) (es:List (P3×P3)):sumT T (es.map fun e=>(m e.1,m e.2))=sumT (fun p q=>T (m p) (m q)) es:=by
 unfold sumT
 rw [List.map_map]
 rfl
structure Mv (m A:P3→P3):Prop where
 lin:∀ c l,A (sc c l)=sc c (A l)
 ne:∀ l:P3,(l.1≠0∨l.2.1≠0)→(A l).1≠0∨(A l).2.1≠0
 pt:∀ p,PtP p→PtP (m p)
 ln:∀ p q,PtP p→PtP q→∃ g h:Int,g≠0∧h≠0∧sc g (crs (m p) (m q))=sc h (A (crs p q))
def mvF (m A:P3→P3) (φ:List (List Int)→Int):List (List Int)→Int
 | [k,x]=>φ [dL (nrmL (A (toP k))),dL (m (toP x))]
 | _=>0
theorem crs_oft {p q:P3}:crs p q=sc (oftL (crs p q)) (lnK p q):=by
 obtain ⟨d1,d2,d3⟩:=oft_dvd (crs p q)
 unfold lnK nrmL sc
 refine p3_ext ?_ ?_ ?_
 ·exact (Int.mul_ediv_cancel' d1).symm
 ·exact (Int.mul_ediv_cancel' d2).symm
 ·exact (Int.mul_ediv_cancel' d3).symm
theorem lnK_ne {p q:P3} (hp:PtP p) (hq:PtP q) (h:p≠q):(lnK p q).1≠0∨(lnK p q).2.1≠0:=by
 have w:=crs_ne hp hq h
 rw [crs_oft] at w
 rcases w with w | w
 ·exact .inl fun z=>w (by show _ * (lnK p q).1=0; rw [z,Int.mul_zero])
 ·exact .inr fun z=>w (by show _ * (lnK p q).2.1=0; rw [z,Int.mul_zero])
theorem Mv.line {m A:P3→P3} (M:Mv m A) {p q:P3} (hp:PtP p) (hq:PtP q) (h:p≠q):lnK (m p) (m q)=nrmL (A (lnK p q)):=by
 obtain ⟨g,c,g0,c0,e⟩:=M.ln p q hp hq
 have w:=crs_ne hp hq h
 have e1:lnK (m p) (m q)=nrmL (A (crs p q)):=nrm_of_sc g0 c0 (M.ne _ w) e
 rw [e1]
 conv=>lhs; rw [crs_oft,M.lin]
 exact nrm_sc (oft_ne w) (M.ne _ (lnK_ne hp hq h))
theorem Mv.side {m A:P3→P3} (M:Mv m A) (φ:List (List Int)→Int) {p q:P3} (hp:PtP p) (hq:PtP q):sG φ (m p) (m q)=sG (mvF m A φ) p q:=by
 by_cases h:p=q
 ·subst h; rw [sG_self,sG_self]
 ·unfold sG kE
  rw [M.line hp hq h]
  rfl
theorem Mv.ring {m A:P3→P3} (M:Mv m A) (φ:List (List Int)→Int) {ps:List P3} (hv:∀ p∈ps,PtP p):sR φ (ps.map m)=sR (mvF m A φ) ps:=by
 unfold sR
 rw [eds_mp,sumT_map]
 refine sumT_congr fun e he=>?_
 obtain ⟨h1,h2⟩:=eds_mem he
 exact M.side φ (hv _ h1) (hv _ h2)
theorem Mv.bal {m A:P3→P3} (M:Mv m A) {rs qs:List (List P3)} (h:Bal rs qs) (hr:∀ ps∈rs,∀ p∈ps,PtP p) (hq:∀ ps∈qs,∀ p∈ps,PtP p):Bal (rs.map fun ps=>ps.map m) (qs.map fun ps=>ps.map m):=fun φ=>by
 have one:∀ (L:List (List P3)),(∀ ps∈L,∀ p∈ps,PtP p)→sRs φ (L.map fun ps=>ps.map m)=sRs (mvF m A φ) L:=fun L hL=>by
  unfold sRs
  rw [List.map_map]
  congr 1
  exact List.map_congr_left fun ps hp=>M.ring φ (hL ps hp)
 rw [one rs hr,one qs hq]
 exact h _
def slA (v l:P3):P3:=(l.1 * v.2.2,l.2.1 * v.2.2,l.2.2 * v.2.2 - l.1 * v.1 - l.2.1 * v.2.1)
def trA (l:P3):P3:=(-l.1,-l.2.1,l.2.2)
theorem mv_sld {v:P3} (hv:0 < v.2.2):Mv (fun p=>nP (sld v p)) (slA v):=by
 refine ⟨fun c l=>?_,fun l h=>?_,fun p hp=>nP_pt ?_,fun p q hp hq=>?_⟩
 ·refine p3_ext ?_ ?_ ?_ <;> simp only [slA,sc] <;> grind
 ·rcases h with h | h
  ·exact .inl (Int.mul_ne_zero h (by omega))
  ·exact .inr (Int.mul_ne_zero h (by omega))
 ·have:=hp.1
  show p.2.2 * v.2.2≠0
  exact Int.mul_ne_zero (by omega) (by omega)
 ·have n1:(sld v p).2.2≠0:=Int.mul_ne_zero (by have:=hp.1; omega) (by omega)
  have n2:(sld v q).2.2≠0:=Int.mul_ne_zero (by have:=hq.1; omega) (by omega)
  obtain ⟨g1,z1,e1⟩:=nP_sc n1
  obtain ⟨g2,z2,e2⟩:=nP_sc n2
  refine ⟨g1 * g2,v.2.2,Int.mul_ne_zero z1 z2,by omega,?_⟩
  rw [← crs_sc,← e1,← e2]
  refine p3_ext ?_ ?_ ?_ <;> simp only [crs,sc,slA,sld] <;> grind
theorem mv_trn:Mv trn trA:=by
 refine ⟨fun c l=>?_,fun l h=>?_,fun p hp=>pt_neg hp,fun p q hp hq=>⟨1,1,by decide,by decide,?_⟩⟩
 ·refine p3_ext ?_ ?_ ?_ <;> simp only [trA,sc] <;> grind
 ·rcases h with h | h
  ·exact .inl (by show -l.1≠0; omega)
  ·exact .inr (by show -l.2.1≠0; omega)
 ·refine p3_ext ?_ ?_ ?_ <;> simp only [crs,sc,trA,trn] <;> grind
theorem sR_rot (φ:List (List Int)→Int) (a:P3) (r:List P3):sR φ (r ++ [a])=sR φ (a :: r):=by
 unfold sR
 rw [← sumT_rot]
 have e:eds (r ++ [a])=prZ a (r ++ [a]):=by
  unfold eds
  rw [lz_app]
  rfl
 rw [e]
end Cut
namespace Cut
open PySem L2 L3
open PySem.Builtin.Int (intBits)
theorem back_P {ps:List P3} {i:Nat} (h:i < ps.length):∃ p q,p∈ps∧q∈ps∧atI (ps.map dP) ((i:Int) - 1)=some (dP p)∧atI (ps.map dP) (i:Int)=some (dP q)∧(p,q)∈eds ps∧(eds ps).take (i + 1)=(eds ps).take i ++ [(p,q)]:=by
 obtain ⟨p,mp,hp⟩:=atI_some (f:=id) (L:=ps) (i:=(i:Int) - 1) (by omega) (by omega)
 obtain ⟨q,mq,hq⟩:=atI_some (f:=id) (L:=ps) (i:=(i:Int)) (by omega) (by omega)
 rw [List.map_id] at hp hq
 have e1:nth ps ((i + ps.length - 1) % ps.length)=p:=dP_inj (Option.some.inj ((atI_back1 h).symm.trans (atI_map hp)))
 have e2:nth ps i=q:=dP_inj (Option.some.inj ((atI_nth h).symm.trans (atI_map hq)))
 have et:(eds ps).take (i + 1)=(eds ps).take i ++ [(p,q)]:=by rw [eds_take h,e1,e2]
 exact ⟨p,q,mp,mq,atI_map hp,atI_map hq,List.mem_of_mem_take (i:=i + 1) (by rw [et]; simp),et⟩
theorem lk_put {α:Type} (k:List (List Int)) (x:α):∀ {ks:List (List (List Int))} {ds:List α} (key:List (List Int)),ds.length=ks.length→lkA (ptK ks k) (ptA ks ds k x) key=if key=k then some x else lkA ks ds key:=by
 have rp:∀ {ks:List (List (List Int))} {ds:List α} (key:List (List Int)),ds.length=ks.length→lkA ks (rpA ks ds k x) key=if key=k∧k∈ks then some x else lkA ks ds key:=by
  intro ks
  induction ks with
  | nil=>intro ds key h; simp [lkA]
  | cons k' ks ih =>
   intro ds key h
   cases ds with
   | nil=>simp at h
   | cons d ds =>
    have ih:=ih (ds:=ds) key (by simpa using h)
    rw [rpA,lkA,lkA]
    by_cases e:k'=key
    ·rw [if_pos e,if_pos e]
     by_cases e2:k'=k
     ·rw [if_pos e2,if_pos ⟨by rw [← e,e2],by rw [e2]; simp⟩]
     ·rw [if_neg e2,if_neg (fun z=>e2 (e.trans z.1))]
    ·rw [if_neg e,if_neg e,ih]
     by_cases z:key=k∧k∈ks
     ·rw [if_pos z,if_pos ⟨z.1,List.mem_cons_of_mem _ z.2⟩]
     ·rw [if_neg z,if_neg (fun y=>z ⟨y.1,by
       rcases List.mem_cons.mp y.2 with q | q
       ·exact absurd (q.symm.trans y.1.symm) e
       ·exact q⟩)]
 have ap:∀ {ks:List (List (List Int))} {ds:List α} (key:List (List Int)),ds.length=ks.length→lkA (ks ++ [k]) (ds ++ [x]) key=(lkA ks ds key).or (if k=key then some x else none):=by
  intro ks
  induction ks with
  | nil =>
   intro ds key h
   cases ds with
   | nil=>simp [lkA]
   | cons d ds=>simp at h
  | cons k' ks ih =>
   intro ds key h
   cases ds with
   | nil=>simp at h
   | cons d ds =>
    have ih:=ih (ds:=ds) key (by simpa using h)
    rw [List.cons_append,List.cons_append,lkA,lkA]
    by_cases e:k'=key
    ·rw [if_pos e,if_pos e]; rfl
    ·rw [if_neg e,if_neg e,ih]
 intro ks ds key h
 unfold ptK ptA
 by_cases m:k∈ks
 ·rw [if_pos m,if_pos m,rp key h]
  by_cases e:key=k
  ·rw [if_pos ⟨e,m⟩,if_pos e]
  ·rw [if_neg (fun z=>e z.1),if_neg e]
 ·rw [if_neg m,if_neg m,ap key h]
  by_cases e:key=k
  ·subst e
   rw [(lk_none h).mpr m,if_pos rfl]; rfl
  ·rw [if_neg e,if_neg (fun z=>e z.symm)]
   cases lkA ks ds key <;> rfl
theorem pt_len {α:Type} {k:List (List Int)} {x:α} {ks:List (List (List Int))} {ds:List α} (h:ds.length=ks.length):(ptA ks ds k x).length=(ptK ks k).length∧(ptK ks k).length≤ks.length + 1:=by
 unfold ptK ptA
 by_cases m:k∈ks
 ·rw [if_pos m,if_pos m,rp_len]; exact ⟨h,by omega⟩
 ·rw [if_neg m,if_neg m,List.length_append,List.length_append,h]; exact ⟨rfl,Nat.le_refl _⟩
theorem lk_map {α β:Type} (f:α→β):∀ (ks:List (List (List Int))) (ds:List α) (key:List (List Int)),lkA ks (ds.map f) key=(lkA ks ds key).map f
 | [],_,_=>by simp [lkA]
 | _ :: _,[],_=>by simp [lkA]
 | k' :: ks,d :: ds,key=>by
  rw [List.map_cons,lkA,lkA]
  by_cases e:k'=key
  ·rw [if_pos e,if_pos e]; rfl
  ·rw [if_neg e,if_neg e,lk_map f ks ds key]
theorem pt_map {α β:Type} (f:α→β) (k:List (List Int)) (x:α) (ks:List (List (List Int))) (ds:List α):(ptA ks ds k x).map f=ptA ks (ds.map f) k (f x):=by
 have rp:∀ (ks:List (List (List Int))) (ds:List α),(rpA ks ds k x).map f=rpA ks (ds.map f) k (f x):=by
  intro ks
  induction ks with
  | nil=>intro ds; simp [rpA]
  | cons k' ks ih =>
   intro ds
   cases ds with
   | nil=>simp [rpA]
   | cons d ds =>
    rw [rpA,List.map_cons,ih,List.map_cons,rpA]
    by_cases e:k'=k
    ·rw [if_pos e,if_pos e]
    ·rw [if_neg e,if_neg e]
 unfold ptA
 by_cases m:k∈ks
 ·rw [if_pos m,if_pos m,rp]
 ·rw [if_neg m,if_neg m,List.map_append]; rfl
def cn1 (key:List (List Int)) (e:P3×P3):Int:=(if key=kE e.1 e.2 e.1 then 1 else 0) - (if key=kE e.1 e.2 e.2 then 1 else 0)
def cnE (key:List (List Int)) (es:List (P3×P3)):Int:=(es.map (cn1 key)).sum
def cnR (key:List (List Int)) (rs:List (List P3)):Int:=(rs.map fun ps=>cnE key (eds ps)).sum
theorem sumI_cast:∀ (l:List Int),((l.sum:Int):Rat)=(l.map fun x:Int=>(x:Rat)).sum
 | []=>by simp
 | a :: l=>by
  rw [List.sum_cons,List.map_cons,List.sum_cons,← sumI_cast l]
  grind
theorem cnR_bal {rs qs:List (List P3)} (h:Bal rs qs) (key:List (List Int)):cnR key rs=cnR key qs:=by
 have one:∀ L:List (List P3),((cnR key L:Int):Rat)=sRs (fun k=>if key=k then 1 else 0) L:=fun L=>by
  unfold cnR sRs
  rw [sumI_cast,List.map_map]
  congr 1
  refine List.map_congr_left fun ps _=>?_
  show ((cnE key (eds ps):Int):Rat)=_
  unfold cnE sR sumT
  rw [sumI_cast,List.map_map]
  congr 1
  refine List.map_congr_left fun e _=>?_
  show ((cn1 key e:Int):Rat)=_
  unfold cn1 sG
  rw [ratI_sub]
 have:=h (fun k=>if key=k then 1 else 0)
 rw [← one,← one] at this
 exact_mod_cast this
def RgT (ps:List P3):Prop:=ps.length≤75∧(∀ e∈eds ps,(crs e.1 e.2).1≠0∨(crs e.1 e.2).2.1≠0)∧∀ p∈ps,BP 4000 p
theorem bits_dvd {g x:Int} {n:Nat} (h:g ∣ x) (x0:x≠0) (b:intBits x≤n):intBits g≤n:=by
 refine intBits_le_iff.mpr (Nat.lt_of_le_of_lt ?_ (intBits_le_iff.mp b))
 exact Nat.le_of_dvd (by omega) (Int.natAbs_dvd_natAbs.mpr h)
theorem oft_bits {l:P3} {n:Nat} (b1:intBits l.1≤n) (b2:intBits l.2.1≤n) (w:l.1≠0∨l.2.1≠0):intBits (oftL l)≤n:=by
 obtain ⟨d1,d2,_⟩:=oft_dvd l
 rcases w with h | h
 ·exact bits_dvd d1 h b1
 ·exact bits_dvd d2 h b2
theorem lk_int (ks:List (List (List Int))) (vs:List Int) (key:List (List Int)):(lkA ks (vs.map D.int) key).getD (.int 0)=.int ((lkA ks vs key).getD 0):=by
 rw [lk_map]
 cases lkA ks vs key <;> rfl
end Cut
namespace Cut
open PySem L2 L3
open PySem.Builtin.Int (intBits)
def btP (p q:P3) (t:Int):P3:=npt (p.1 * q.2.2 * (3 - t) + q.1 * p.2.2 * t) (p.2.1 * q.2.2 * (3 - t) + q.2.1 * p.2.2 * t) (p.2.2 * q.2.2 * 3)
theorem eqS_FL:eqD (.str "high") (.str "low")=false:=by
 unfold eqD
 exact @decide_eq_false _ (Classical.propDecidable _) fun h=>absurd (D.str.inj h) (by decide)
theorem eqS_TL:eqD (.str "low") (.str "low")=true:=eqD_self _
theorem atI_back2 {ps:List P3} {k:Nat} (h:k < ps.length) (h2:2≤ps.length):atI (ps.map dP) ((k:Int) - 2)=some (dP (nth ps ((k + ps.length - 2) % ps.length))):=by
 by_cases z:2≤k
 ·have e:(k + ps.length - 2) % ps.length=k - 2:=by
   rw [show k + ps.length - 2=(k - 2) + ps.length by omega,Nat.add_mod_right,Nat.mod_eq_of_lt (by omega)]
  rw [e,show ((k:Int) - 2)=((k - 2:Nat):Int) by omega]
  exact atI_nth (by omega)
 ·have e:(k + ps.length - 2) % ps.length=k + ps.length - 2:=Nat.mod_eq_of_lt (by omega)
  rw [e,nth_eq (by omega)]
  unfold atI ixN
  rw [if_neg (by omega),if_pos (by rw [List.length_map]; omega)]
  show (ps.map dP)[_]?=_
  rw [List.getElem?_map,List.length_map,show ((k:Int) - 2 + (ps.length:Int)).toNat=k + ps.length - 2 by omega,List.getElem?_eq_getElem (by omega)]
  rfl
theorem sg_onP {x:Int} (h:sg x=1):0 < x:=by
 unfold sg at h
 split at h
 ·assumption
 ·split at h <;> omega
theorem Cvx.turn {ps:List P3} (h:Cvx ps) {k:Nat} (hk:k < ps.length):0 < det3 (nth ps ((k + ps.length - 2) % ps.length)) (nth ps ((k + ps.length - 1) % ps.length)) (nth ps k):=by
 have l3:=h.1
 have e:((k + ps.length - 2) % ps.length + 1) % ps.length=(k + ps.length - 1) % ps.length:=by
  rw [Nat.mod_add_mod]
  congr 1
  omega
 have md:∀ d,0 < d→d < ps.length→k≠(k + ps.length - d) % ps.length:=fun d d0 d1 z=>by
  by_cases y:d≤k
  ·rw [show k + ps.length - d=(k - d) + ps.length by omega,Nat.add_mod_right,Nat.mod_eq_of_lt (by omega)] at z; omega
  ·rw [Nat.mod_eq_of_lt (by omega)] at z; omega
 have:=h.2 ((k + ps.length - 2) % ps.length) k (Nat.mod_lt _ (by omega)) hk (md 2 (by decide) (by omega)) (by rw [e]; exact md 1 (by decide) (by omega))
 rw [e] at this
 exact sg_onP this
theorem det_cyP (p q r:P3):det3 p q r=det3 q r p:=by unfold det3 crs; grind
theorem Cvx.fan {ps:List P3} (h:Cvx ps) {k:Nat} (k0:0 < k) (hk:k + 1 < ps.length):0 < det3 (nth ps 0) (nth ps k) (nth ps (k + 1)):=by
 have:=h.2 k 0 (by omega) (by omega) (by omega) (by rw [Nat.mod_eq_of_lt hk]; omega)
 rw [Nat.mod_eq_of_lt hk] at this
 rw [det_cyP]
 exact sg_onP this
theorem first_pt {p s:P3} (hp:PtP p) (hs:PtP s) (fl:Bool):npt ((1 - 2 * (if fl then 1 else 0)) * (p.1 * s.2.2 - s.1 * p.2.2)) ((1 - 2 * (if fl then 1 else 0)) * (p.2.1 * s.2.2 - s.2.1 * p.2.2)) (p.2.2 * s.2.2)=if fl=true then trn (nP (sld (trn s) p)) else nP (sld (trn s) p):=by
 have e:sld (trn s) p=(p.1 * s.2.2 - s.1 * p.2.2,p.2.1 * s.2.2 - s.2.1 * p.2.2,p.2.2 * s.2.2):=by
  refine p3_ext ?_ ?_ ?_ <;> simp only [sld,trn] <;> grind
 have n0:(sld (trn s) p).2.2≠0:=by
  rw [e]
  exact Int.mul_ne_zero (Int.ne_of_gt hp.1) (Int.ne_of_gt hs.1)
 cases fl with
 | false =>
  simp only [Bool.false_eq_true,if_false,Int.mul_zero,Int.sub_zero,Int.one_mul]
  unfold nP
  rw [e]
 | true =>
  simp only [if_true]
  obtain ⟨g,g0,hg⟩:=nP_sc n0
  refine (nP_of_sc (M:=((1 - 2 * 1) * (p.1 * s.2.2 - s.1 * p.2.2),(1 - 2 * 1) * (p.2.1 * s.2.2 - s.2.1 * p.2.2),p.2.2 * s.2.2)) (h:=trn (nP (sld (trn s) p))) (G:=1) (c:=g) (by decide) g0 (pt_neg (nP_pt n0)) ?_).2
  rw [e] at hg ⊢
  obtain ⟨h1,h2,h3⟩:p.1 * s.2.2 - s.1 * p.2.2=g * (nP (p.1 * s.2.2 - s.1 * p.2.2,p.2.1 * s.2.2 - s.2.1 * p.2.2,p.2.2 * s.2.2)).1∧p.2.1 * s.2.2 - s.2.1 * p.2.2=g * (nP (p.1 * s.2.2 - s.1 * p.2.2,p.2.1 * s.2.2 - s.2.1 * p.2.2,p.2.2 * s.2.2)).2.1∧p.2.2 * s.2.2=g * (nP (p.1 * s.2.2 - s.1 * p.2.2,p.2.1 * s.2.2 - s.2.1 * p.2.2,p.2.2 * s.2.2)).2.2:=⟨congrArg (·.1) hg,congrArg (·.2.1) hg,congrArg (·.2.2) hg⟩
  refine p3_ext ?_ ?_ ?_
  ·show 1 * ((1 - 2 * 1) * (p.1 * s.2.2 - s.1 * p.2.2))=g * -(nP _).1; grind
  ·show 1 * ((1 - 2 * 1) * (p.2.1 * s.2.2 - s.2.1 * p.2.2))=g * -(nP _).2.1; grind
  ·show 1 * (p.2.2 * s.2.2)=g * (nP _).2.2; grind
theorem firstR_map (s:Piece):firstR s=s.1.map fun p=>if s.2.1=true then trn (nP (sld (trn s.2.2) p)) else nP (sld (trn s.2.2) p):=by
 unfold firstR
 by_cases h:s.2.1=true
 ·rw [if_pos h,List.map_map]
  refine List.map_congr_left fun p _=>?_
  rw [if_pos h]; rfl
 ·rw [if_neg h]
  refine List.map_congr_left fun p _=>?_
  rw [if_neg h]
structure PcT (s:Piece):Prop where
 ln:s.1.length≤24
 cv:Cvx s.1
 ps:∀ p∈s.1,GP 2900 p
 st:GP 900 s.2.2
theorem det_same (a p:P3):det3 a p p=0:=by unfold det3 crs; grind
theorem Cvx.side {ps:List P3} (h:Cvx ps) {p q:P3} (me:(p,q)∈eds ps):p≠q:=by
 rw [eds_range] at me
 obtain ⟨i,hi,e⟩:=List.mem_map.mp me
 have hi:=List.mem_range.mp hi
 have t:=h.turn hi
 obtain ⟨rfl,rfl⟩:=Prod.mk.inj e
 intro z
 rw [z,det_same] at t
 omega
theorem Mv.rg {m A:P3→P3} (M:Mv m A) {ps:List P3} (hv:∀ p∈ps,PtP p) (he:∀ e∈eds ps,(crs e.1 e.2).1≠0∨(crs e.1 e.2).2.1≠0):∀ e∈eds (ps.map m),(crs e.1 e.2).1≠0∨(crs e.1 e.2).2.1≠0:=fun e h=>by
 rw [eds_mp] at h
 obtain ⟨d,hd,rfl⟩:=List.mem_map.mp h
 obtain ⟨h1,h2⟩:=eds_mem hd
 obtain ⟨g,c,g0,c0,q⟩:=M.ln d.1 d.2 (hv _ h1) (hv _ h2)
 obtain ⟨q1,q2,_⟩:=sc_out q
 rcases M.ne _ (he d hd) with w | w
 ·exact .inl fun z=>Int.mul_ne_zero c0 w (by rw [← q1]; show g * (crs (m d.1) (m d.2)).1=0; rw [show (crs (m d.1) (m d.2)).1=0 from z,Int.mul_zero])
 ·exact .inr fun z=>Int.mul_ne_zero c0 w (by rw [← q2]; show g * (crs (m d.1) (m d.2)).2.1=0; rw [show (crs (m d.1) (m d.2)).2.1=0 from z,Int.mul_zero])
theorem PcT.side {s:Piece} (h:PcT s):∀ e∈eds s.1,(crs e.1 e.2).1≠0∨(crs e.1 e.2).2.1≠0:=fun e he=>by
 obtain ⟨h1,h2⟩:=eds_mem he
 exact crs_ne (h.ps _ h1).pt (h.ps _ h2).pt (h.cv.side he)
theorem PcT.rg {s:Piece} (h:PcT s):RgT s.1:=⟨Nat.le_trans h.ln (by decide),h.side,fun p hp=>(h.ps p hp).bp.mono (by decide)⟩
theorem PcT.first {s:Piece} (h:PcT s):RgT (firstR s)∧∀ p∈firstR s,PtP p:=by
 have st:=h.st
 have sl:∀ p∈s.1,GP 3801 (nP (sld (trn s.2.2) p)):=fun p hp=>(st.trn.sl (h.ps p hp)).mono (by decide)
 have hv:∀ p∈s.1,PtP p:=fun p hp=>(h.ps p hp).pt
 have r1:=(mv_sld (v:=trn s.2.2) st.pt.1).rg hv h.side
 unfold firstR
 split
 ·have hv2:∀ p∈s.1.map (fun p=>nP (sld (trn s.2.2) p)),PtP p:=fun p hp=>by
   obtain ⟨q,hq,rfl⟩:=List.mem_map.mp hp
   exact (sl q hq).pt
  refine ⟨⟨by rw [List.length_map,List.length_map]; exact Nat.le_trans h.ln (by decide),mv_trn.rg hv2 r1,fun p hp=>?_⟩,fun p hp=>?_⟩
  ·obtain ⟨q,hq,rfl⟩:=List.mem_map.mp hp
   obtain ⟨r,hr,rfl⟩:=List.mem_map.mp hq
   exact (sl r hr).trn.bp.mono (by decide)
  ·obtain ⟨q,hq,rfl⟩:=List.mem_map.mp hp
   obtain ⟨r,hr,rfl⟩:=List.mem_map.mp hq
   exact (sl r hr).trn.pt
 ·refine ⟨⟨by rw [List.length_map]; exact Nat.le_trans h.ln (by decide),r1,fun p hp=>?_⟩,fun p hp=>?_⟩
  ·obtain ⟨r,hr,rfl⟩:=List.mem_map.mp hp
   exact (sl r hr).bp.mono (by decide)
  ·obtain ⟨r,hr,rfl⟩:=List.mem_map.mp hp
   exact (sl r hr).pt
theorem firstR_len (s:Piece):(firstR s).length=s.1.length:=by rw [firstR_map,List.length_map]
theorem sum_le {α:Type} {f:α→Nat} {m:Nat}:∀ {l:List α},(∀ x∈l,f x≤m)→(l.map f).sum≤l.length * m
 | [],_=>by simp
 | x :: l,h=>by
  rw [List.map_cons,List.sum_cons,List.length_cons]
  have h1:=h x List.mem_cons_self
  have h2:=sum_le (l:=l) fun y hy=>h y (List.mem_cons_of_mem _ hy)
  rw [Nat.add_mul,Nat.one_mul]
  omega
theorem eqD_bl (a b:Bool):eqD (.bl a) (.bl b)=(a == b):=by
 by_cases h:a=b
 ·subst h; rw [eqD_self]; simp
 ·have:eqD (.bl a) (.bl b)=false:=by
   unfold eqD
   exact @decide_eq_false _ (Classical.propDecidable _) fun z=>h (D.bl.inj z)
  rw [this]
  cases a <;> cases b <;> first | rfl | exact absurd rfl h
theorem cvx_rg {ps:List P3} (cv:Cvx ps) (hp:∀ p∈ps,GP 4000 p) (hl:ps.length≤75):RgT ps:=⟨hl,fun e he=>by
 obtain ⟨h1,h2⟩:=eds_mem he
 exact crs_ne (hp _ h1).pt (hp _ h2).pt (cv.side he),fun p h=>(hp p h).bp⟩
theorem box_rg {w h:Int×Int} (b:Bx w h) (b1:intBits w.1≤140) (b2:intBits w.2≤140) (b3:intBits h.1≤140) (b4:intBits h.2≤140):RgT (boxP w h):=cvx_rg b.cvx (fun p hp=>(b.boxG b1 b2 b3 b4 p hp).mono (by decide)) (by show 4≤75; decide)
end Cut
namespace Cut
open PySem L2 L3
open PySem.Builtin.Int (intBits)
def upL (x:Int×Int):P3:=crs (npt (x.1 * 1) (0 * x.2) (x.2 * 1)) (npt (x.1 * 1) (1 * x.2) (x.2 * 1))
def lvL (x:Int×Int):P3:=crs (npt (0 * x.2) (x.1 * 1) (1 * x.2)) (npt (1 * x.2) (x.1 * 1) (1 * x.2))
theorem at_bits {x y u v:Int} {m n:Nat} (bx:intBits x≤m) (bY:intBits y≤m) (bu:intBits u≤n) (bv:intBits v≤n) (l1:Low x y) (l2:Low u v):BP (m + n) (npt (x * v) (u * y) (y * v)) :=
 BP.nP (p:=(x * v,u * y,y * v)) ⟨intBits_mul_le bx bv,by rw [Nat.add_comm]; exact intBits_mul_le bu bY,intBits_mul_le bY bv⟩ (Int.mul_ne_zero (Int.ne_of_gt l1.1) (Int.ne_of_gt l2.1))
def spR (w pt:Int×Int):Int×Int:=nrat (w.1 * pt.2 - pt.1 * w.2) (w.2 * pt.2)
structure SpOk (s w pt:Int×Int):Prop where
 ls:Low s.1 s.2
 lw:Low w.1 w.2
 lp:Low pt.1 pt.2
 s0:s.1≠0
 w0:0 < w.1
 p0:0 < pt.1
 lt:pt.1 * w.2 < w.1 * pt.2
 c1:intBits s.1≤21
 c2:intBits s.2≤21
 c3:intBits w.1≤21
 c4:intBits w.2≤21
 c5:intBits pt.1≤25
 c6:intBits pt.2≤25
noncomputable def cL (x:Int×Int) (b:Bool) (sh:List Piece):List Piece:=if b then cutS (ln (upL x)) (mtQ (upL x)) sh else cutS (fun c => -ln (upL x) c) (mtQ (upL x)) sh
noncomputable def cV (x:Int×Int) (b:Bool) (sh:List Piece):List Piece:=if b then cutS (ln (lvL x)) (mtQ (lvL x)) sh else cutS (fun c => -ln (lvL x) c) (mtQ (lvL x)) sh
def spL (s:Int×Int) (hi:Bool):Bool:=(!hi) == decide (0 < s.1)
def spH (s w pt:Int×Int) (hi:Bool):Int×Int:=hgt s (if hi then spR w pt else pt)
def spX (s w pt:Int×Int) (hi:Bool):Int×Int:=if spL s hi then pt else spR w pt
def stA (s w pt:Int×Int) (hi:Bool):P3:=top4 (if spL s hi then (0,1) else (-(spR w pt).1,(spR w pt).2)) (if hi then (-(spH s w pt hi).1,(spH s w pt hi).2) else (0,1))
def stB (s w pt:Int×Int) (hi:Bool):P3:=top4 (if spL s hi then (-pt.1,pt.2) else (0,1)) (if hi then (0,1) else (-(spH s w pt hi).1,(spH s w pt hi).2))
def stC (s w pt:Int×Int) (hi:Bool):P3:=top4 (if spL s hi then (-pt.1,pt.2) else (0,1)) (if hi then (-(spH s w pt hi).1,(spH s w pt hi).2) else (0,1))
noncomputable def spA (s w pt:Int×Int) (hi:Bool) (sh:List Piece):List Piece:=(cL (spX s w pt hi) (spL s hi) sh).map (slS (stA s w pt hi))
noncomputable def spB (s w pt:Int×Int) (hi:Bool) (sh:List Piece):List Piece:=(cV (spH s w pt hi) (!hi) (cL (spX s w pt hi) (!spL s hi) sh)).map (slS (stB s w pt hi))
noncomputable def spC (s w pt:Int×Int) (hi:Bool) (sh:List Piece):List Piece:=(cV (spH s w pt hi) hi (cL (spX s w pt hi) (!spL s hi) sh)).map (slS (stC s w pt hi))
section
variable {s w pt:Int×Int}
theorem SpOk.r (h:SpOk s w pt):Low (spR w pt).1 (spR w pt).2∧0 < (spR w pt).1∧intBits (spR w pt).1≤47∧intBits (spR w pt).2≤47:=by
 have n0:0 < w.2 * pt.2:=Int.mul_pos h.lw.1 h.lp.1
 obtain ⟨l,e,q1,q2⟩:=nrat_spec (t:=w.1 * pt.2 - pt.1 * w.2) (b:=w.2 * pt.2) (Int.ne_of_gt n0)
 refine ⟨l,?_,bits_of_abs q1 (Nat.le_trans (intBits_sub_le (m:=46) (n:=46) (intBits_mul_le h.c3 h.c6) (Nat.le_trans (intBits_mul_le h.c5 h.c4) (by decide))) (by decide)),bits_of_abs q2 (Nat.le_trans (intBits_mul_le h.c4 h.c6) (by decide))⟩
 have:0 < (spR w pt).1 * (w.2 * pt.2):=by
  show 0 < (nrat _ _).1 * (w.2 * pt.2)
  rw [e]
  have:=h.lt
  exact Int.mul_pos (by omega) l.1
 exact Int.pos_of_mul_pos_left this n0
theorem hgt_ok {x:Int×Int} (ls:Low s.1 s.2) (s0:s.1≠0) (c1:intBits s.1≤21) (c2:intBits s.2≤21) (lx:Low x.1 x.2) (x0:0 < x.1) (b1:intBits x.1≤47) (b2:intBits x.2≤47):Low (hgt s x).1 (hgt s x).2∧0 < (hgt s x).1∧intBits (hgt s x).1≤68∧intBits (hgt s x).2≤68:=by
 have bx:=hgt_bx ls lx s0 x0
 obtain ⟨_,_,q1,q2⟩:=nrat_spec (t:=(if s.1 < 0 then -s.1 else s.1) * x.1) (b:=s.2 * x.2) (one_ne ls.1 lx.1)
 have ca:intBits (if s.1 < 0 then -s.1 else s.1)≤21:=by
  split
  ·exact intBits_neg_le c1
  ·exact c1
 exact ⟨bx.lh,bx.h0,bits_of_abs q1 (intBits_mul_le ca b1),bits_of_abs q2 (intBits_mul_le c2 b2)⟩
theorem SpOk.h (h:SpOk s w pt) (hi:Bool):Low (spH s w pt hi).1 (spH s w pt hi).2∧0 < (spH s w pt hi).1∧intBits (spH s w pt hi).1≤68∧intBits (spH s w pt hi).2≤68:=by
 obtain ⟨r1,r2,r3,r4⟩:=h.r
 unfold spH
 cases hi with
 | true=>exact hgt_ok h.ls h.s0 h.c1 h.c2 r1 r2 r3 r4
 | false=>exact hgt_ok h.ls h.s0 h.c1 h.c2 h.lp h.p0 (Nat.le_trans h.c5 (by decide)) (Nat.le_trans h.c6 (by decide))
theorem SpOk.x (h:SpOk s w pt) (hi:Bool):Low (spX s w pt hi).1 (spX s w pt hi).2∧0 < (spX s w pt hi).1∧intBits (spX s w pt hi).1≤47∧intBits (spX s w pt hi).2≤47:=by
 unfold spX
 cases spL s hi with
 | true=>exact ⟨h.lp,h.p0,Nat.le_trans h.c5 (by decide),Nat.le_trans h.c6 (by decide)⟩
 | false=>exact h.r
theorem upL_bits {x:Int×Int} (l:Low x.1 x.2) (b1:intBits x.1≤47) (b2:intBits x.2≤47):BP 97 (upL x):=by
 have a:BP 48 (npt (x.1 * 1) (0 * x.2) (x.2 * 1)):=at_bits (n:=1) b1 b2 (by decide) (by decide) l ⟨by decide,by decide⟩
 have b:BP 48 (npt (x.1 * 1) (1 * x.2) (x.2 * 1)):=at_bits (n:=1) b1 b2 (by decide) (by decide) l ⟨by decide,by decide⟩
 exact a.crs b
theorem lvL_bits {x:Int×Int} (l:Low x.1 x.2) (b1:intBits x.1≤68) (b2:intBits x.2≤68):BP 139 (lvL x):=by
 have a:BP 69 (npt (0 * x.2) (x.1 * 1) (1 * x.2)):=at_bits (m:=1) (by decide) (by decide) b1 b2 ⟨by decide,by decide⟩ l
 have b:BP 69 (npt (1 * x.2) (x.1 * 1) (1 * x.2)):=at_bits (m:=1) (by decide) (by decide) b1 b2 ⟨by decide,by decide⟩ l
 exact a.crs b
theorem cL_gl (h:SpOk s w pt) (hi b:Bool) {sh:List Piece} (hs:∀ x∈sh,GL 600 6 x):∀ x∈cL (spX s w pt hi) b sh,GL 1310 12 x:=by
 obtain ⟨x1,_,x3,x4⟩:=h.x hi
 have ub:=upL_bits x1 x3 x4
 unfold cL
 cases b with
 | true=>exact cutS_gl ub hs (by decide) (by decide) _ (.inl rfl)
 | false =>
  have:=cutS_gl (m:=1310) ub hs (by decide) (by decide) (ngL (upL (spX s w pt hi))) (.inr rfl)
  rw [ln_ngF] at this
  exact this
theorem cV_gl (h:SpOk s w pt) (hi b:Bool) {sh:List Piece} (hs:∀ x∈sh,GL 1310 12 x):∀ x∈cV (spH s w pt hi) b sh,GL 2770 24 x:=by
 obtain ⟨x1,_,x3,x4⟩:=h.h hi
 have ub:=lvL_bits x1 x3 x4
 unfold cV
 cases b with
 | true=>exact cutS_gl ub hs (by decide) (by decide) _ (.inl rfl)
 | false =>
  have:=cutS_gl (m:=2770) ub hs (by decide) (by decide) (ngL (lvL (spH s w pt hi))) (.inr rfl)
  rw [ln_ngF] at this
  exact this
theorem cL_len (x:Int×Int) (b:Bool) (sh:List Piece):(cL x b sh).length≤sh.length:=by
 unfold cL
 cases b
 ·exact cutS_len _
 ·exact cutS_len _
theorem cV_len (x:Int×Int) (b:Bool) (sh:List Piece):(cV x b sh).length≤sh.length:=by
 unfold cV
 cases b
 ·exact cutS_len _
 ·exact cutS_len _
theorem top4_gp {x y:Int×Int} (lx:Low x.1 x.2) (ly:Low y.1 y.2) (b1:intBits x.1≤68) (b2:intBits x.2≤68) (b3:intBits y.1≤68) (b4:intBits y.2≤68):GP 136 (top4 x y):=⟨nP_pt (p:=(x.1 * y.2,y.1 * x.2,x.2 * y.2)) (one_ne lx.1 ly.1),at_bits b1 b2 b3 b4 lx ly⟩
theorem SpOk.stA (h:SpOk s w pt) (hi:Bool):GP 400 (stA s w pt hi):=by
 obtain ⟨r1,_,r3,r4⟩:=h.r
 obtain ⟨h1,_,h3,h4⟩:=h.h hi
 have ng:∀ {x y:Int},Low x y→Low (-x) y:=fun l=>⟨l.1,by rw [Int.neg_gcd]; exact l.2⟩
 have lN:Low 0 1:=⟨by decide,by decide⟩
 unfold Cut.stA
 refine (top4_gp ?_ ?_ ?_ ?_ ?_ ?_).mono (by decide)
 ·split
  ·exact lN
  ·exact ng r1
 ·split
  ·exact ng h1
  ·exact lN
 ·split
  ·show intBits 0≤68; decide
  ·exact Nat.le_trans (intBits_neg_le r3) (by decide)
 ·split
  ·show intBits 1≤68; decide
  ·exact Nat.le_trans r4 (by decide)
 ·split
  ·exact intBits_neg_le h3
  ·show intBits 0≤68; decide
 ·split
  ·exact h4
  ·show intBits 1≤68; decide
theorem SpOk.stB (h:SpOk s w pt) (hi:Bool):GP 400 (stB s w pt hi):=by
 obtain ⟨h1,_,h3,h4⟩:=h.h hi
 have ng:∀ {x y:Int},Low x y→Low (-x) y:=fun l=>⟨l.1,by rw [Int.neg_gcd]; exact l.2⟩
 have lN:Low 0 1:=⟨by decide,by decide⟩
 unfold Cut.stB
 refine (top4_gp ?_ ?_ ?_ ?_ ?_ ?_).mono (by decide)
 ·split
  ·exact ng h.lp
  ·exact lN
 ·split
  ·exact lN
  ·exact ng h1
 ·split
  ·exact Nat.le_trans (intBits_neg_le h.c5) (by decide)
  ·show intBits 0≤68; decide
 ·split
  ·exact Nat.le_trans h.c6 (by decide)
  ·show intBits 1≤68; decide
 ·split
  ·show intBits 0≤68; decide
  ·exact intBits_neg_le h3
 ·split
  ·show intBits 1≤68; decide
  ·exact h4
theorem SpOk.stC (h:SpOk s w pt) (hi:Bool):GP 400 (stC s w pt hi):=by
 obtain ⟨h1,_,h3,h4⟩:=h.h hi
 have ng:∀ {x y:Int},Low x y→Low (-x) y:=fun l=>⟨l.1,by rw [Int.neg_gcd]; exact l.2⟩
 have lN:Low 0 1:=⟨by decide,by decide⟩
 unfold Cut.stC
 refine (top4_gp ?_ ?_ ?_ ?_ ?_ ?_).mono (by decide)
 ·split
  ·exact ng h.lp
  ·exact lN
 ·split
  ·exact ng h1
  ·exact lN
 ·split
  ·exact Nat.le_trans (intBits_neg_le h.c5) (by decide)
  ·show intBits 0≤68; decide
 ·split
  ·exact Nat.le_trans h.c6 (by decide)
  ·show intBits 1≤68; decide
 ·split
  ·exact intBits_neg_le h3
  ·show intBits 0≤68; decide
 ·split
  ·exact h4
  ·show intBits 1≤68; decide
end
theorem ifB {b:Bool} {A B:Prop} (h1:b=true→A) (h2:b=false→B):if b=true then A else B:=by
 cases b with
 | true=>rw [if_pos rfl]; exact h1 rfl
 | false=>rw [if_neg Bool.false_ne_true]; exact h2 rfl
end Cut
namespace Cut
open PySem L2 L3
open PySem.Builtin.Int (intBits)
theorem sRs_cons (φ:List (List Int)→Int) (ps:List P3) (rs:List (List P3)):sRs φ (ps :: rs)=sR φ ps + sRs φ rs:=by unfold sRs; rw [List.map_cons,List.sum_cons]
theorem sRs_app (φ:List (List Int)→Int):∀ rs qs:List (List P3),sRs φ (rs ++ qs)=sRs φ rs + sRs φ qs
 | [],qs=>by rw [List.nil_append]; show _=(0:Rat) + _; grind
 | ps :: rs,qs=>by rw [List.cons_append,sRs_cons,sRs_cons,sRs_app φ rs qs]; grind
theorem sRs_one (φ:List (List Int)→Int) (ps:List P3):sRs φ [ps]=sR φ ps:=by rw [sRs_cons]; show _ + (0:Rat)=_; grind
theorem sRs_cut (φ:List (List Int)→Int) (f:P3→Int) (mt:P3→P3→P3):∀ sh:List Piece,sRs φ ((cutS f mt sh).map fun s=>s.1)=sRs φ (sh.map fun s=>keepR f mt s.1)
 | []=>rfl
 | s :: sh=>by
  have ih:=sRs_cut φ f mt sh
  have e:cutS f mt (s :: sh)=cutS f mt [s] ++ cutS f mt sh:=by
   unfold cutS
   rw [← List.filter_append,← List.map_append]
   rfl
  rw [e,List.map_append,sRs_app,ih,List.map_cons,sRs_cons]
  congr 1
  cases c:(keepR f mt s.1).isEmpty with
  | true =>
   rw [cutS_one_no c,List.isEmpty_iff.mp c]
   rfl
  | false =>
   rw [cutS_one_yes c]
   exact sRs_one φ _
section
variable {l o:P3} {sh:List Piece} {qs:List P3}
theorem cut_bal (h:Bal (sh.map fun s=>s.1) [qs]) (hl:l.1≠0∨l.2.1≠0) (ho:PtP o) (lo:ln l o=0) (hr:∀ s∈sh,∀ p∈s.1,PtP p) (hq:∀ p∈qs,PtP p) :
  Bal ((cutS (ln l) (mtQ l) sh).map fun s=>s.1) [keepR (ln l) (mtQ l) qs]∧Bal ((cutS (fun c => -ln l c) (mtQ l) sh).map fun s=>s.1) [keepR (fun c => -ln l c) (mtQ l) qs]:=by
 obtain ⟨a,b⟩:=h.keep hl ho lo (fun ps hp=>by
  obtain ⟨s,hs,rfl⟩:=List.mem_map.mp hp
  exact hr s hs) (fun ps hp=>by rw [List.mem_singleton.mp hp]; exact hq)
 rw [List.map_map] at a b
 exact ⟨fun φ=>by rw [sRs_cut]; exact a φ,fun φ=>by rw [sRs_cut]; exact b φ⟩
theorem sl_bal {g:P3} (hg:0 < g.2.2) (h:Bal (sh.map fun s=>s.1) [qs]) (hr:∀ s∈sh,∀ p∈s.1,PtP p) (hq:∀ p∈qs,PtP p):Bal ((sh.map (slS g)).map fun s=>s.1) [qs.map fun p=>nP (sld g p)]:=by
 have:=(mv_sld hg).bal h (fun ps hp=>by
  obtain ⟨s,hs,rfl⟩:=List.mem_map.mp hp
  exact hr s hs) (fun ps hp=>by rw [List.mem_singleton.mp hp]; exact hq)
 rw [List.map_map] at this
 rw [List.map_map]
 exact this
end
theorem first_mv {s:Piece} (hs:PtP s.2.2):∃ A,Mv (fun p=>if s.2.1=true then trn (nP (sld (trn s.2.2) p)) else nP (sld (trn s.2.2) p)) A:=by
 have m1:=mv_sld (v:=trn s.2.2) hs.1
 by_cases h:s.2.1=true
 ·refine ⟨fun l=>trA (slA (trn s.2.2) l),⟨fun c l=>by rw [m1.lin,mv_trn.lin],fun l hl=>mv_trn.ne _ (m1.ne l hl),fun p hp=>by rw [if_pos h]; exact mv_trn.pt _ (m1.pt p hp),fun p q hp hq=>?_⟩⟩
  simp only [if_pos h]
  obtain ⟨g,c,g0,c0,e⟩:=m1.ln p q hp hq
  obtain ⟨g',c',g0',c0',e'⟩:=mv_trn.ln _ _ (m1.pt p hp) (m1.pt q hq)
  refine ⟨g * g',c * c',Int.mul_ne_zero g0 g0',Int.mul_ne_zero c0 c0',?_⟩
  have e2:sc g (trA (crs (nP (sld (trn s.2.2) p)) (nP (sld (trn s.2.2) q))))=sc c (trA (slA (trn s.2.2) (crs p q))):=by
   rw [← mv_trn.lin,e,mv_trn.lin]
  have ss:∀ (a b:Int) (x:P3),sc (a * b) x=sc a (sc b x):=fun a b x=>by refine p3_ext ?_ ?_ ?_ <;> simp only [sc] <;> grind
  have sw:∀ (a b:Int) (x:P3),sc a (sc b x)=sc b (sc a x):=fun a b x=>by refine p3_ext ?_ ?_ ?_ <;> simp only [sc] <;> grind
  rw [ss,e',sw,e2,← ss,Int.mul_comm c']
 ·refine ⟨slA (trn s.2.2),⟨m1.lin,m1.ne,fun p hp=>by rw [if_neg h]; exact m1.pt p hp,fun p q hp hq=>?_⟩⟩
  simp only [if_neg h]
  exact m1.ln p q hp hq
theorem first_sum {l o:P3} {s:Piece} (φ:List (List Int)→Int) (hs:PtP s.2.2) (hl:l.1≠0∨l.2.1≠0) (ho:PtP o) (lo:ln l o=0) (hv:∀ p∈s.1,PtP p):sR φ (firstR (keepR (ln l) (mtQ l) s.1,s.2)) + sR φ (firstR (keepR (fun c => -ln l c) (mtQ l) s.1,s.2))=sR φ (firstR s):=by
 obtain ⟨A,M⟩:=first_mv hs
 have mv:∀ p q,PtP p→PtP q→ln l p * ln l q < 0→PtP (mtQ l p q):=fun p q hp hq c=>by
  rw [← mtQ_pt hp hq]; exact nP_pt (meet_ne hp hq c)
 have kp:∀ f:P3→Int,(∀ p q,f p * f q < 0→ln l p * ln l q < 0)→∀ p∈keepR f (mtQ l) s.1,PtP p:=fun f hf p hp=>by
  unfold keepR at hp
  split at hp
  ·rcases cutR_mem hp with ⟨h,_⟩ | ⟨a,ha,b,hb,c,e⟩
   ·exact hv p h
   ·rw [e]; exact mv a b (hv a ha) (hv b hb) (hf a b c)
  ·cases hp
 have e1:=M.ring φ (kp (ln l) fun p q h=>h)
 have e2:=M.ring φ (kp (fun c => -ln l c) fun p q h=>by rw [Int.neg_mul_neg] at h; exact h)
 have e3:=M.ring φ hv
 rw [firstR_map,firstR_map,firstR_map,e1,e2,e3]
 exact keep_sum _ hl ho lo hv
end Cut
namespace Cut
open PySem L2 L3
open PySem.Builtin.Int (intBits)
theorem slide_both {g p q:P3} (hg:PtP g) (hp:PtP p) (hq:PtP q):nP (sld (trn (nP (sld g q))) (nP (sld g p)))=nP (sld (trn q) p):=by
 have nz:∀ {a b:P3},PtP a→PtP b→(sld a b).2.2≠0:=fun ha hb=>Int.mul_ne_zero (Int.ne_of_gt hb.1) (Int.ne_of_gt ha.1)
 obtain ⟨ga,a0,ea⟩:=nP_sc (nz hg hp)
 obtain ⟨gb,b0,eb⟩:=nP_sc (nz hg hq)
 obtain ⟨gh,h0,eh⟩:=nP_sc (nz hq.trn hp)
 have hh:PtP (nP (sld (trn q) p)):=nP_pt (nz hq.trn hp)
 obtain ⟨a1,a2,a3⟩:(sld g p).1=ga * (nP (sld g p)).1∧(sld g p).2.1=ga * (nP (sld g p)).2.1∧(sld g p).2.2=ga * (nP (sld g p)).2.2:=⟨congrArg (·.1) ea,congrArg (·.2.1) ea,congrArg (·.2.2) ea⟩
 obtain ⟨b1,b2,b3⟩:(sld g q).1=gb * (nP (sld g q)).1∧(sld g q).2.1=gb * (nP (sld g q)).2.1∧(sld g q).2.2=gb * (nP (sld g q)).2.2:=⟨congrArg (·.1) eb,congrArg (·.2.1) eb,congrArg (·.2.2) eb⟩
 obtain ⟨h1,h2,h3⟩:(sld (trn q) p).1=gh * (nP (sld (trn q) p)).1∧(sld (trn q) p).2.1=gh * (nP (sld (trn q) p)).2.1∧(sld (trn q) p).2.2=gh * (nP (sld (trn q) p)).2.2:=⟨congrArg (·.1) eh,congrArg (·.2.1) eh,congrArg (·.2.2) eh⟩
 generalize nP (sld g p)=a at *
 generalize nP (sld g q)=b at *
 generalize nP (sld (trn q) p)=h at *
 simp only [sld,trn] at a1 a2 a3 b1 b2 b3 h1 h2 h3
 refine (nP_of_sc (M:=sld (trn b) a) (h:=h) (G:=ga * gb) (c:=g.2.2 * g.2.2 * gh) (Int.mul_ne_zero a0 b0) (Int.mul_ne_zero (Int.mul_ne_zero (Int.ne_of_gt hg.1) (Int.ne_of_gt hg.1)) h0) hh ?_).2
 refine p3_ext ?_ ?_ ?_ <;> simp only [sc,sld,trn]
 ·have:ga * gb * (a.1 * b.2.2 + -b.1 * a.2.2)=(ga * a.1) * (gb * b.2.2) - (gb * b.1) * (ga * a.2.2):=by grind
  rw [this,← a1,← b3,← b1,← a3]
  have:g.2.2 * g.2.2 * gh * h.1=g.2.2 * g.2.2 * (gh * h.1):=by grind
  rw [this,← h1]
  grind
 ·have:ga * gb * (a.2.1 * b.2.2 + -b.2.1 * a.2.2)=(ga * a.2.1) * (gb * b.2.2) - (gb * b.2.1) * (ga * a.2.2):=by grind
  rw [this,← a2,← b3,← b2,← a3]
  have:g.2.2 * g.2.2 * gh * h.2.1=g.2.2 * g.2.2 * (gh * h.2.1):=by grind
  rw [this,← h2]
  grind
 ·have:ga * gb * (a.2.2 * b.2.2)=(ga * a.2.2) * (gb * b.2.2):=by grind
  rw [this,← a3,← b3]
  have:g.2.2 * g.2.2 * gh * h.2.2=g.2.2 * g.2.2 * (gh * h.2.2):=by grind
  rw [this,← h3]
  grind
theorem first_sl {g:P3} {s:Piece} (hg:PtP g) (hs:PtP s.2.2) (hv:∀ p∈s.1,PtP p):firstR (slS g s)=firstR s:=by
 rw [firstR_map,firstR_map]
 unfold slS
 dsimp only
 rw [List.map_map]
 refine List.map_congr_left fun p hp=>?_
 show (if s.2.1=true then trn (nP (sld (trn (nP (sld g s.2.2))) (nP (sld g p)))) else nP (sld (trn (nP (sld g s.2.2))) (nP (sld g p))))=_
 rw [slide_both hg (hv p hp) hs]
def kF (φ:List (List Int)→Int) (b:Bool) (L:List Piece):Rat:=sRs φ ((L.filter fun s=>s.2.1 == b).map firstR)
theorem kF_app (φ:List (List Int)→Int) (b:Bool) (L M:List Piece):kF φ b (L ++ M)=kF φ b L + kF φ b M:=by unfold kF; rw [List.filter_append,List.map_append,sRs_app]
theorem kF_nil (φ:List (List Int)→Int) (b:Bool):kF φ b []=0:=rfl
theorem kF_one (φ:List (List Int)→Int) (b:Bool) (s:Piece):kF φ b [s]=if s.2.1 == b then sR φ (firstR s) else 0:=by
 unfold kF
 by_cases h:(s.2.1 == b)=true
 ·rw [if_pos h,List.filter_cons_of_pos (by exact h)]; exact sRs_one φ _
 ·rw [if_neg h,List.filter_cons_of_neg (by exact h)]; rfl
theorem kF_cons (φ:List (List Int)→Int) (b:Bool) (s:Piece) (L:List Piece):kF φ b (s :: L)=kF φ b [s] + kF φ b L:=by rw [← kF_app]; rfl
theorem kF_sl (φ:List (List Int)→Int) (b:Bool) {g:P3} (hg:PtP g):∀ {L:List Piece},(∀ s∈L,PtP s.2.2∧∀ p∈s.1,PtP p)→kF φ b (L.map (slS g))=kF φ b L
 | [],_=>rfl
 | s :: L,h=>by
  obtain ⟨h1,h2⟩:=h s List.mem_cons_self
  rw [List.map_cons,kF_cons,kF_cons φ b s,kF_sl φ b hg fun t ht=>h t (List.mem_cons_of_mem _ ht),kF_one,kF_one,first_sl hg h1 h2]
  rfl
theorem kF_cut (φ:List (List Int)→Int) (b:Bool) {l o:P3} (hl:l.1≠0∨l.2.1≠0) (ho:PtP o) (lo:ln l o=0):∀ {L:List Piece},(∀ s∈L,PtP s.2.2∧∀ p∈s.1,PtP p)→kF φ b (cutS (ln l) (mtQ l) L) + kF φ b (cutS (fun c => -ln l c) (mtQ l) L)=kF φ b L
 | [],_=>by show kF φ b [] + kF φ b []=_; rw [kF_nil]; grind
 | s :: L,h=>by
  obtain ⟨h1,h2⟩:=h s List.mem_cons_self
  have ih:=kF_cut φ b hl ho lo fun t ht=>h t (List.mem_cons_of_mem _ ht)
  have e:∀ f:P3→Int,cutS f (mtQ l) (s :: L)=cutS f (mtQ l) [s] ++ cutS f (mtQ l) L:=fun f=>cutS_app (f:=f) [s] L
  have one:∀ f:P3→Int,kF φ b (cutS f (mtQ l) [s])=if s.2.1 == b then sR φ (firstR (keepR f (mtQ l) s.1,s.2)) else 0:=fun f=>by
   cases c:(keepR f (mtQ l) s.1).isEmpty with
   | true =>
    rw [cutS_one_no c,kF_nil,List.isEmpty_iff.mp c,firstR_map]
    split
    ·rfl
    ·rfl
   | false=>rw [cutS_one_yes c,kF_one]
  have fs:=first_sum φ h1 hl ho lo h2
  rw [e,e,kF_app,kF_app,one,one,kF_cons,kF_one,← ih]
  by_cases c:(s.2.1 == b)=true
  ·rw [if_pos c,if_pos c,if_pos c,← fs]; grind
  ·rw [if_neg c,if_neg c,if_neg c]; grind
theorem upL_ok {x:Int×Int} (l:Low x.1 x.2):((upL x).1≠0∨(upL x).2.1≠0)∧PtP (npt (x.1 * 1) (0 * x.2) (x.2 * 1))∧ln (upL x) (npt (x.1 * 1) (0 * x.2) (x.2 * 1))=0:=by
 have n0:x.2 * 1≠0:=by have:=l.1; omega
 have p1:PtP (npt (x.1 * 1) (0 * x.2) (x.2 * 1)):=nP_pt (p:=(x.1 * 1,0 * x.2,x.2 * 1)) n0
 have p2:PtP (npt (x.1 * 1) (1 * x.2) (x.2 * 1)):=nP_pt (p:=(x.1 * 1,1 * x.2,x.2 * 1)) n0
 have ne:npt (x.1 * 1) (0 * x.2) (x.2 * 1)≠npt (x.1 * 1) (1 * x.2) (x.2 * 1):=fun z=>by
  obtain ⟨_,e1,e2,_⟩:=npt_spec (a:=x.1 * 1) (b:=0 * x.2) n0
  obtain ⟨q,f1,f2,_⟩:=npt_spec (a:=x.1 * 1) (b:=1 * x.2) n0
  rw [z,f2] at e2
  have q0:=q.1
  have l0:=l.1
  have:1 * x.2 * (npt (x.1 * 1) (1 * x.2) (x.2 * 1)).2.2=0:=by rw [e2]; simp
  have:=Int.mul_pos (show 0 < 1 * x.2 by omega) q0
  omega
 refine ⟨crs_ne p1 p2 ne,p1,?_⟩
 unfold upL ln crs
 grind
theorem lvL_ok {x:Int×Int} (l:Low x.1 x.2):((lvL x).1≠0∨(lvL x).2.1≠0)∧PtP (npt (0 * x.2) (x.1 * 1) (1 * x.2))∧ln (lvL x) (npt (0 * x.2) (x.1 * 1) (1 * x.2))=0:=by
 have n0:1 * x.2≠0:=by have:=l.1; omega
 have p1:PtP (npt (0 * x.2) (x.1 * 1) (1 * x.2)):=nP_pt (p:=(0 * x.2,x.1 * 1,1 * x.2)) n0
 have p2:PtP (npt (1 * x.2) (x.1 * 1) (1 * x.2)):=nP_pt (p:=(1 * x.2,x.1 * 1,1 * x.2)) n0
 have ne:npt (0 * x.2) (x.1 * 1) (1 * x.2)≠npt (1 * x.2) (x.1 * 1) (1 * x.2):=fun z=>by
  obtain ⟨_,e1,e2,_⟩:=npt_spec (a:=0 * x.2) (b:=x.1 * 1) n0
  obtain ⟨q,f1,f2,_⟩:=npt_spec (a:=1 * x.2) (b:=x.1 * 1) n0
  rw [z,f1] at e1
  have q0:=q.1
  have l0:=l.1
  have:1 * x.2 * (npt (1 * x.2) (x.1 * 1) (1 * x.2)).2.2=0:=by rw [e1]; simp
  have:=Int.mul_pos (show 0 < 1 * x.2 by omega) q0
  omega
 refine ⟨crs_ne p1 p2 ne,p1,?_⟩
 unfold lvL ln crs
 grind
theorem kF_cL (φ:List (List Int)→Int) (b c:Bool) {x:Int×Int} (l:Low x.1 x.2) {L:List Piece} (h:∀ s∈L,PtP s.2.2∧∀ p∈s.1,PtP p):kF φ b (cL x c L) + kF φ b (cL x (!c) L)=kF φ b L:=by
 obtain ⟨u1,u2,u3⟩:=upL_ok l
 have:=kF_cut φ b u1 u2 u3 h
 cases c with
 | true=>exact this
 | false=>rw [← this]; show kF φ b (cutS _ _ L) + kF φ b (cutS _ _ L)=_; grind
theorem kF_cV (φ:List (List Int)→Int) (b c:Bool) {x:Int×Int} (l:Low x.1 x.2) {L:List Piece} (h:∀ s∈L,PtP s.2.2∧∀ p∈s.1,PtP p):kF φ b (cV x c L) + kF φ b (cV x (!c) L)=kF φ b L:=by
 obtain ⟨u1,u2,u3⟩:=lvL_ok l
 have:=kF_cut φ b u1 u2 u3 h
 cases c with
 | true=>exact this
 | false=>rw [← this]; show kF φ b (cutS _ _ L) + kF φ b (cutS _ _ L)=_; grind
theorem split_kept {s w pt:Int×Int} (hx:SpOk s w pt) (hi:Bool) {sh:List Piece} (hs:∀ x∈sh,GL 600 6 x) (b:Bool):Bal (((spA s w pt hi sh ++ spB s w pt hi sh ++ spC s w pt hi sh).filter fun s=>s.2.1 == b).map firstR) ((sh.filter fun s=>s.2.1 == b).map firstR):=fun φ=>by
 show kF φ b _=kF φ b _
 have q0:∀ x∈sh,PtP x.2.2∧∀ p∈x.1,PtP p:=fun x h=>⟨(hs x h).st.pt,fun p hp=>((hs x h).ps p hp).pt⟩
 have g1:=fun c=>cL_gl hx hi c hs
 have g2:=fun c=>cV_gl hx hi c (g1 (!spL s hi))
 have q1:∀ c,∀ x∈cL (spX s w pt hi) c sh,PtP x.2.2∧∀ p∈x.1,PtP p:=fun c x h=>⟨(g1 c x h).st.pt,fun p hp=>((g1 c x h).ps p hp).pt⟩
 have q2:∀ c,∀ x∈cV (spH s w pt hi) c (cL (spX s w pt hi) (!spL s hi) sh),PtP x.2.2∧∀ p∈x.1,PtP p:=fun c x h=>⟨(g2 c x h).st.pt,fun p hp=>((g2 c x h).ps p hp).pt⟩
 rw [kF_app,kF_app]
 unfold spA spB spC
 rw [kF_sl φ b (hx.stA hi).pt (q1 _),kF_sl φ b (hx.stB hi).pt (q2 _),kF_sl φ b (hx.stC hi).pt (q2 _)]
 have e1:=kF_cV φ b hi (hx.h hi).1 (q1 (!spL s hi))
 have e2:=kF_cL φ b (spL s hi) (hx.x hi).1 q0
 rw [← e2,← e1]
 grind
end Cut
namespace Cut
open PySem L2 L3
open PySem.Builtin.Int (intBits)
theorem rat0 (a:Rat):(0:Rat) / a=0:=by grind
theorem rat3 (d:Rat):d < 0∨d=0∨0 < d:=by grind
def IsPt (p:P3) (x y:Rat):Prop:=PtP p∧rX p=x∧rY p=y
theorem rat_cross {a b c d:Int} (hb:0 < b) (hd:0 < d) (h:(a:Rat) / b=(c:Rat) / d):a * d=c * b:=by
 have b0:=pos_ne hb
 have d0:=pos_ne hd
 have:(a:Rat) * d=c * b:=by grind
 exact_mod_cast this
theorem IsPt.eq {p q:P3} {x y:Rat} (h:IsPt p x y) (g:IsPt q x y):p=q:=by
 obtain ⟨hp,h1,h2⟩:=h
 obtain ⟨gq,g1,g2⟩:=g
 obtain ⟨e1,e2,e3⟩:=pt_uniq hp gq (rat_cross hp.1 gq.1 (h1.trans g1.symm)) (rat_cross hp.1 gq.1 (h2.trans g2.symm))
 exact p3_ext e1 e2 e3
theorem IsPt.to {p:P3} {x y x' y':Rat} (h:IsPt p x y) (e1:x=x') (e2:y=y'):IsPt p x' y':=by subst e1 e2; exact h
def rQ (r:Int×Int):Rat:=(r.1:Rat) / r.2
theorem isPt_npt {a b n:Int} (hn:0 < n):IsPt (npt a b n) ((a:Rat) / n) ((b:Rat) / n):=by
 obtain ⟨p,e1,e2,_⟩:=npt_spec (a:=a) (b:=b) (Int.ne_of_gt hn)
 have n0:=pos_ne hn
 have p0:=pos_ne p.1
 have f1:(((npt a b n).1:Int):Rat) * n=a * ((npt a b n).2.2:Int):=by exact_mod_cast e1
 have f2:(((npt a b n).2.1:Int):Rat) * n=b * ((npt a b n).2.2:Int):=by exact_mod_cast e2
 refine ⟨p,?_,?_⟩
 ·unfold rX; grind
 ·unfold rY; grind
theorem isPt_top {w h:Int×Int} (lw:0 < w.2) (lh:0 < h.2):IsPt (top4 w h) (rQ w) (rQ h):=by
 have w0:=pos_ne lw
 have h0:=pos_ne lh
 refine (isPt_npt (Int.mul_pos lw lh)).to ?_ ?_ <;> (unfold rQ; push_cast; grind)
theorem isPt_x {w:Int×Int} (l:Low w.1 w.2):IsPt (w.1,0,w.2) (rQ w) 0:=⟨pt_x l,rfl,by unfold rY; show ((0:Int):Rat) / _=0; exact rat0 _⟩
theorem isPt_y {w:Int×Int} (l:Low w.1 w.2):IsPt (0,w.1,w.2) 0 (rQ w):=⟨pt_y l,by unfold rX; show ((0:Int):Rat) / _=0; exact rat0 _,rfl⟩
theorem isPt_0:IsPt (0,0,1) 0 0:=⟨⟨by decide,by decide⟩,by unfold rX; exact rat0 _,by unfold rY; exact rat0 _⟩
theorem isPt_sl {g p:P3} {a b x y:Rat} (hg:IsPt g a b) (hp:IsPt p x y):IsPt (nP (sld g p)) (x + a) (y + b):=by
 obtain ⟨g1,g2,g3⟩:=hg
 obtain ⟨p1,p2,p3⟩:=hp
 have gz:=pos_ne g1.1
 have pz:=pos_ne p1.1
 refine (isPt_npt (a:=(sld g p).1) (b:=(sld g p).2.1) (n:=(sld g p).2.2) (Int.mul_pos p1.1 g1.1)).to ?_ ?_
 ·rw [← g2,← p2]; unfold rX sld; dsimp only; push_cast; grind
 ·rw [← g3,← p3]; unfold rY sld; dsimp only; push_cast; grind
theorem det_R {p q r:P3} {x1 y1 x2 y2 x3 y3:Rat} (hp:IsPt p x1 y1) (hq:IsPt q x2 y2) (hr:IsPt r x3 y3):∃ k:Rat,0 < k∧((det3 p q r:Int):Rat)=k * ((x2 - x1) * (y3 - y1) - (y2 - y1) * (x3 - x1)):=by
 obtain ⟨p1,p2,p3⟩:=hp
 obtain ⟨q1,q2,q3⟩:=hq
 obtain ⟨r1,r2,r3⟩:=hr
 have pz:=pos_ne p1.1
 have qz:=pos_ne q1.1
 have rz:=pos_ne r1.1
 refine ⟨((p.2.2 * q.2.2 * r.2.2:Int):Rat),?_,?_⟩
 ·have:=Int.mul_pos (Int.mul_pos p1.1 q1.1) r1.1
  exact_mod_cast this
 ·rw [← p2,← p3,← q2,← q3,← r2,← r3]
  unfold det3 crs rX rY
  dsimp only
  push_cast
  grind
section
variable {X:Int×Int} {c:P3} {x y:Rat}
theorem up_R (l:Low X.1 X.2) (hc:IsPt c x y):∃ k:Rat,0 < k∧((ln (upL X) c:Int):Rat)=k * (rQ X - x):=by
 have x0:=pos_ne l.1
 have a:IsPt (npt (X.1 * 1) (0 * X.2) (X.2 * 1)) (rQ X) 0:=(isPt_npt (by have:=l.1; omega)).to (by unfold rQ; simp) (by simp; exact rat0 _)
 have b:IsPt (npt (X.1 * 1) (1 * X.2) (X.2 * 1)) (rQ X) 1:=(isPt_npt (by have:=l.1; omega)).to (by unfold rQ; simp) (by simp; grind)
 obtain ⟨k,k0,e⟩:=det_R a b hc
 exact ⟨k,k0,by show ((det3 _ _ c:Int):Rat)=_; rw [e]; grind⟩
theorem lv_R (l:Low X.1 X.2) (hc:IsPt c x y):∃ k:Rat,0 < k∧((ln (lvL X) c:Int):Rat)=k * (y - rQ X):=by
 have x0:=pos_ne l.1
 have a:IsPt (npt (0 * X.2) (X.1 * 1) (1 * X.2)) 0 (rQ X):=(isPt_npt (by have:=l.1; omega)).to (by simp; exact rat0 _) (by unfold rQ; simp)
 have b:IsPt (npt (1 * X.2) (X.1 * 1) (1 * X.2)) 1 (rQ X):=(isPt_npt (by have:=l.1; omega)).to (by simp; grind) (by unfold rQ; simp)
 obtain ⟨k,k0,e⟩:=det_R a b hc
 exact ⟨k,k0,by show ((det3 _ _ c:Int):Rat)=_; rw [e]; grind⟩
end
theorem sgR_pos {n:Int} {k d:Rat} (k0:0 < k) (e:(n:Rat)=k * d) (h:0 < d):0 < n:=by
 have:(0:Rat) < n:=by rw [e]; exact Rat.mul_pos k0 h
 exact_mod_cast this
theorem sgR_neg {n:Int} {k d:Rat} (k0:0 < k) (e:(n:Rat)=k * d) (h:d < 0):n < 0:=by
 have:0 < -n:=sgR_pos k0 (d := -d) (by push_cast; rw [e]; grind) (by grind)
 omega
theorem sgR_zero {n:Int} {k d:Rat} (e:(n:Rat)=k * d) (h:d=0):n=0:=by
 rw [h] at e
 have:(n:Rat)=0:=by rw [e]; grind
 exact_mod_cast this
section
variable {X:Int×Int} {c p q:P3} {x y x1 y1 x2 y2:Rat}
theorem up_l (l:Low X.1 X.2) (hc:IsPt c x y) (h:x < rQ X):0 < ln (upL X) c:=by
 obtain ⟨k,k0,e⟩:=up_R l hc
 exact sgR_pos k0 e (by grind)
theorem up_r (l:Low X.1 X.2) (hc:IsPt c x y) (h:rQ X < x):ln (upL X) c < 0:=by
 obtain ⟨k,k0,e⟩:=up_R l hc
 exact sgR_neg k0 e (by grind)
theorem lv_a (l:Low X.1 X.2) (hc:IsPt c x y) (h:rQ X < y):0 < ln (lvL X) c:=by
 obtain ⟨k,k0,e⟩:=lv_R l hc
 exact sgR_pos k0 e (by grind)
theorem lv_b (l:Low X.1 X.2) (hc:IsPt c x y) (h:y < rQ X):ln (lvL X) c < 0:=by
 obtain ⟨k,k0,e⟩:=lv_R l hc
 exact sgR_neg k0 e (by grind)
theorem lv_0 (l:Low X.1 X.2) (hc:IsPt c x y) (h:y=rQ X):ln (lvL X) c=0:=by
 obtain ⟨k,k0,e⟩:=lv_R l hc
 exact sgR_zero e (by grind)
theorem mt_up (l:Low X.1 X.2) (hp:IsPt p x1 y1) (hq:IsPt q x2 y2) (h:ln (upL X) p * ln (upL X) q < 0) (hy:(y - y1) * (x2 - x1)=(rQ X - x1) * (y2 - y1)):IsPt (mtQ (upL X) p q) (rQ X) y:=by
 have pm:PtP (mtQ (upL X) p q):=by rw [← mtQ_pt hp.1 hq.1]; exact nP_pt (meet_ne hp.1 hq.1 h)
 obtain ⟨a,b,ab,ex,ey⟩:=btw_R (btw_mtQ h) hp.1.1 hq.1.1 pm.1
 have im:IsPt (mtQ (upL X) p q) (rX (mtQ (upL X) p q)) (rY (mtQ (upL X) p q)):=⟨pm,rfl,rfl⟩
 obtain ⟨k,k0,e⟩:=up_R l im
 rw [mtQ_on h] at e
 have xe:rX (mtQ (upL X) p q)=rQ X:=by
  have k1:k≠0:=by intro z; rw [z] at k0; exact absurd k0 (by decide)
  have:k * (rQ X - rX (mtQ (upL X) p q))=0:=by rw [← e]; rfl
  grind
 have ne:x2 - x1≠0:=fun z=>by
  obtain ⟨k2,k20,e2⟩:=up_R l hp
  obtain ⟨k3,k30,e3⟩:=up_R l hq
  have xx:x2=x1:=by grind
  rw [xx] at e3
  rcases rat3 (rQ X - x1) with d | d | d
  ·have a1:=sgR_neg k20 e2 d
   have a2:=sgR_neg k30 e3 d
   have:=Int.mul_pos_of_neg_of_neg a1 a2
   omega
  ·have a1:=sgR_zero e2 d
   rw [a1,Int.zero_mul] at h
   omega
  ·have a1:=sgR_pos k20 e2 d
   have a2:=sgR_pos k30 e3 d
   have:=Int.mul_pos a1 a2
   omega
 refine im.to xe ?_
 rw [ey,hp.2.2,hq.2.2]
 rw [ex,hp.2.1,hq.2.1] at xe
 have ea:a=1 - b:=by grind
 subst ea
 grind
theorem mt_lv (l:Low X.1 X.2) (hp:IsPt p x1 y1) (hq:IsPt q x2 y2) (h:ln (lvL X) p * ln (lvL X) q < 0) (hx:(x - x1) * (y2 - y1)=(rQ X - y1) * (x2 - x1)):IsPt (mtQ (lvL X) p q) x (rQ X):=by
 have pm:PtP (mtQ (lvL X) p q):=by rw [← mtQ_pt hp.1 hq.1]; exact nP_pt (meet_ne hp.1 hq.1 h)
 obtain ⟨a,b,ab,ex,ey⟩:=btw_R (btw_mtQ h) hp.1.1 hq.1.1 pm.1
 have im:IsPt (mtQ (lvL X) p q) (rX (mtQ (lvL X) p q)) (rY (mtQ (lvL X) p q)):=⟨pm,rfl,rfl⟩
 obtain ⟨k,k0,e⟩:=lv_R l im
 rw [mtQ_on h] at e
 have ye:rY (mtQ (lvL X) p q)=rQ X:=by
  have k1:k≠0:=by intro z; rw [z] at k0; exact absurd k0 (by decide)
  have:k * (rY (mtQ (lvL X) p q) - rQ X)=0:=by rw [← e]; rfl
  grind
 have ne:y2 - y1≠0:=fun z=>by
  obtain ⟨k2,k20,e2⟩:=lv_R l hp
  obtain ⟨k3,k30,e3⟩:=lv_R l hq
  have xx:y2=y1:=by grind
  rw [xx] at e3
  rcases rat3 (y1 - rQ X) with d | d | d
  ·have a1:=sgR_neg k20 e2 d
   have a2:=sgR_neg k30 e3 d
   have:=Int.mul_pos_of_neg_of_neg a1 a2
   omega
  ·have a1:=sgR_zero e2 d
   rw [a1,Int.zero_mul] at h
   omega
  ·have a1:=sgR_pos k20 e2 d
   have a2:=sgR_pos k30 e3 d
   have:=Int.mul_pos a1 a2
   omega
 refine im.to ?_ ye
 rw [ex,hp.2.1,hq.2.1]
 rw [ey,hp.2.2,hq.2.2] at ye
 have ea:a=1 - b:=by grind
 subst ea
 grind
end
end Cut
namespace Cut
open PySem L2 L3
section
variable {f:P3→Int} {mt:P3→P3→P3} {a b c d:P3}
theorem cut3:cutR f mt [a,b,c]=kp f a ++ mx f mt a b ++ (kp f b ++ mx f mt b c ++ (kp f c ++ mx f mt c a ++ [])):=rfl
theorem cut4:cutR f mt [a,b,c,d]=kp f a ++ mx f mt a b ++ (kp f b ++ mx f mt b c ++ (kp f c ++ mx f mt c d ++ (kp f d ++ mx f mt d a ++ []))):=rfl
theorem kpY (h:0≤f a):kp f a=[a]:=by unfold kp; rw [if_pos h]
theorem kpN (h:f a < 0):kp f a=[]:=by unfold kp; rw [if_neg (by omega)]
theorem mxY (h:(0 < f a∧f b < 0)∨(f a < 0∧0 < f b)):mx f mt a b=[mt a b]:=by
 unfold mx
 rcases h with ⟨h1,h2⟩ | ⟨h1,h2⟩
 ·rw [if_pos (Int.mul_neg_of_pos_of_neg h1 h2)]
 ·rw [if_pos (Int.mul_neg_of_neg_of_pos h1 h2)]
theorem mxN (h:(0≤f a∧0≤f b)∨(f a≤0∧f b≤0)):mx f mt a b=[]:=by
 unfold mx
 rcases h with ⟨h1,h2⟩ | ⟨h1,h2⟩
 ·rw [if_neg (by have:=Int.mul_nonneg h1 h2; omega)]
 ·rw [if_neg (by have:=Int.mul_nonneg_of_nonpos_of_nonpos h1 h2; omega)]
theorem keepY {ps:List P3} (p:P3) (hp:p∈ps) (h:0 < f p):keepR f mt ps=cutR f mt ps:=keep_yes ⟨p,hp,h⟩
theorem patA (ha:0 < f a) (hb:f b < 0) (hc:f c < 0):keepR f mt [a,b,c]=[a,mt a b,mt c a]:=by
 rw [keepY a (by simp) ha,cut3,kpY (by omega),mxY (.inl ⟨ha,hb⟩),kpN hb,mxN (.inr ⟨by omega,by omega⟩),kpN hc,mxY (.inr ⟨hc,ha⟩)]
 rfl
theorem patB (ha:f a < 0) (hb:0 < f b) (hc:0 < f c):keepR f mt [a,b,c]=[mt a b,b,c,mt c a]:=by
 rw [keepY b (by simp) hb,cut3,kpN ha,mxY (.inr ⟨ha,hb⟩),kpY (by omega),mxN (.inl ⟨by omega,by omega⟩),kpY (by omega),mxY (.inl ⟨hc,ha⟩)]
 rfl
theorem patC (ha:f a < 0) (hb:0 < f b) (hc:f c < 0):keepR f mt [a,b,c]=[mt a b,b,mt b c]:=by
 rw [keepY b (by simp) hb,cut3,kpN ha,mxY (.inr ⟨ha,hb⟩),kpY (by omega),mxY (.inl ⟨hb,hc⟩),kpN hc,mxN (.inr ⟨by omega,by omega⟩)]
 rfl
theorem patD (ha:0 < f a) (hb:f b < 0) (hc:0 < f c):keepR f mt [a,b,c]=[a,mt a b,mt b c,c]:=by
 rw [keepY a (by simp) ha,cut3,kpY (by omega),mxY (.inl ⟨ha,hb⟩),kpN hb,mxY (.inr ⟨hb,hc⟩),kpY (by omega),mxN (.inl ⟨by omega,by omega⟩)]
 rfl
theorem pat1 (ha:f a < 0) (hb:f b < 0) (hc:0 < f c) (hd:f d=0):keepR f mt [a,b,c,d]=[mt b c,c,d]:=by
 rw [keepY c (by simp) hc,cut4,kpN ha,mxN (.inr ⟨by omega,by omega⟩),kpN hb,mxY (.inr ⟨hb,hc⟩),kpY (by omega),mxN (.inl ⟨by omega,by omega⟩),kpY (by omega),mxN (.inr ⟨by omega,by omega⟩)]
 rfl
theorem pat2 (ha:0 < f a) (hb:0 < f b) (hc:f c < 0) (hd:f d=0):keepR f mt [a,b,c,d]=[a,b,mt b c,d]:=by
 rw [keepY a (by simp) ha,cut4,kpY (by omega),mxN (.inl ⟨by omega,by omega⟩),kpY (by omega),mxY (.inl ⟨hb,hc⟩),kpN hc,mxN (.inr ⟨by omega,by omega⟩),kpY (by omega),mxN (.inl ⟨by omega,by omega⟩)]
 rfl
theorem pat3 (ha:0 < f a) (hb:f b=0) (hc:f c < 0) (hd:f d < 0):keepR f mt [a,b,c,d]=[a,b,mt d a]:=by
 rw [keepY a (by simp) ha,cut4,kpY (by omega),mxN (.inl ⟨by omega,by omega⟩),kpY (by omega),mxN (.inr ⟨by omega,by omega⟩),kpN hc,mxN (.inr ⟨by omega,by omega⟩),kpN hd,mxY (.inr ⟨hd,ha⟩)]
 rfl
theorem pat4 (ha:f a < 0) (hb:f b=0) (hc:0 < f c) (hd:0 < f d):keepR f mt [a,b,c,d]=[b,c,d,mt d a]:=by
 rw [keepY c (by simp) hc,cut4,kpN ha,mxN (.inr ⟨by omega,by omega⟩),kpY (by omega),mxN (.inl ⟨by omega,by omega⟩),kpY (by omega),mxN (.inl ⟨by omega,by omega⟩),kpY (by omega),mxY (.inl ⟨hd,ha⟩)]
 rfl
theorem pat5 (ha:f a < 0) (hb:f b < 0) (hc:f c=0) (hd:0 < f d):keepR f mt [a,b,c,d]=[c,d,mt d a]:=by
 rw [keepY d (by simp) hd,cut4,kpN ha,mxN (.inr ⟨by omega,by omega⟩),kpN hb,mxN (.inr ⟨by omega,by omega⟩),kpY (by omega),mxN (.inl ⟨by omega,by omega⟩),kpY (by omega),mxY (.inl ⟨hd,ha⟩)]
 rfl
theorem pat6 (ha:0 < f a) (hb:0 < f b) (hc:f c=0) (hd:f d < 0):keepR f mt [a,b,c,d]=[a,b,c,mt d a]:=by
 rw [keepY a (by simp) ha,cut4,kpY (by omega),mxN (.inl ⟨by omega,by omega⟩),kpY (by omega),mxN (.inl ⟨by omega,by omega⟩),kpY (by omega),mxN (.inr ⟨by omega,by omega⟩),kpN hd,mxY (.inr ⟨hd,ha⟩)]
 rfl
theorem pat7 (ha:f a=0) (hb:0 < f b) (hc:f c < 0) (hd:f d < 0):keepR f mt [a,b,c,d]=[a,b,mt b c]:=by
 rw [keepY b (by simp) hb,cut4,kpY (by omega),mxN (.inl ⟨by omega,by omega⟩),kpY (by omega),mxY (.inl ⟨hb,hc⟩),kpN hc,mxN (.inr ⟨by omega,by omega⟩),kpN hd,mxN (.inr ⟨by omega,by omega⟩)]
 rfl
theorem pat8 (ha:f a=0) (hb:f b < 0) (hc:0 < f c) (hd:0 < f d):keepR f mt [a,b,c,d]=[a,mt b c,c,d]:=by
 rw [keepY c (by simp) hc,cut4,kpY (by omega),mxN (.inr ⟨by omega,by omega⟩),kpN hb,mxY (.inr ⟨hb,hc⟩),kpY (by omega),mxN (.inl ⟨by omega,by omega⟩),kpY (by omega),mxN (.inl ⟨by omega,by omega⟩)]
 rfl
end
theorem rQ_nrat {t b:Int} (hb:0 < b):rQ (nrat t b)=(t:Rat) / b:=by
 obtain ⟨l,e,_,_⟩:=nrat_spec (t:=t) (b:=b) (Int.ne_of_gt hb)
 have b0:=pos_ne hb
 have l0:=pos_ne l.1
 have f:(((nrat t b).1:Int):Rat) * b=t * ((nrat t b).2:Int):=by exact_mod_cast e
 unfold rQ
 grind
theorem rQ_neg (a b:Int):rQ (-a,b) = -rQ (a,b):=by unfold rQ; push_cast; grind
theorem rQ_pos {r:Int×Int} (h:0 < r.1) (h2:0 < r.2):0 < rQ r:=by
 have a:(0:Rat) < r.1:=by exact_mod_cast h
 have b:(0:Rat) < r.2:=by exact_mod_cast h2
 unfold rQ
 rw [Rat.div_def]
 exact Rat.mul_pos a (Rat.inv_pos.mpr b)
section
variable {s w pt:Int×Int}
theorem SpOk.rR (h:SpOk s w pt):rQ (spR w pt)=rQ w - rQ pt:=by
 have a:=pos_ne h.lw.1
 have b:=pos_ne h.lp.1
 unfold spR
 rw [rQ_nrat (Int.mul_pos h.lw.1 h.lp.1)]
 unfold rQ
 push_cast
 grind
theorem SpOk.rH (h:SpOk s w pt):∃ k:Rat,0 < k∧∀ x:Int×Int,0 < x.2→rQ (hgt s x)=k * rQ x:=by
 have s2:=h.ls.1
 have a:=pos_ne s2
 have sa:0 < (if s.1 < 0 then -s.1 else s.1):=by have:=h.s0; split <;> omega
 refine ⟨rQ (if s.1 < 0 then -s.1 else s.1,s.2),rQ_pos sa s2,fun x hx=>?_⟩
 have b:=pos_ne hx
 unfold hgt
 rw [rQ_nrat (Int.mul_pos s2 hx)]
 unfold rQ
 push_cast
 grind
end
end Cut
namespace Cut
open PySem L2 L3
section
variable {g:P3} {L:List Piece} {ring:List P3}
theorem due_of {due:List P3} (hg:PtP g) (h:Bal (L.map fun s=>s.1) [ring]) (hr:∀ s∈L,∀ p∈s.1,PtP p) (hq:∀ p∈ring,PtP p) (e:ring.map (fun p=>nP (sld g p))=due):Bal ((L.map (slS g)).map fun s=>s.1) [due]:=by
 rw [← e]; exact sl_bal hg.1 h hr hq
theorem due_rot {a:P3} {r:List P3} (hg:PtP g) (h:Bal (L.map fun s=>s.1) [ring]) (hr:∀ s∈L,∀ p∈s.1,PtP p) (hq:∀ p∈ring,PtP p) (e:ring.map (fun p=>nP (sld g p))=r ++ [a]):Bal ((L.map (slS g)).map fun s=>s.1) [a :: r]:=fun φ=>by
 have:=due_of hg h hr hq e φ
 rw [this,sRs_one,sRs_one,sR_rot]
end
theorem list3 {a b c a' b' c':P3} (h1:a=a') (h2:b=b') (h3:c=c'):[a,b,c]=[a',b',c']:=by rw [h1,h2,h3]
theorem list4 {a b c d a' b' c' d':P3} (h1:a=a') (h2:b=b') (h3:c=c') (h4:d=d'):[a,b,c,d]=[a',b',c',d']:=by rw [h1,h2,h3,h4]
theorem mem3 {a b c:P3} {P:P3→Prop} (h1:P a) (h2:P b) (h3:P c):∀ p∈[a,b,c],P p:=by simp; exact ⟨h1,h2,h3⟩
theorem mem4 {a b c d:P3} {P:P3→Prop} (h1:P a) (h2:P b) (h3:P c) (h4:P d):∀ p∈[a,b,c,d],P p:=by simp; exact ⟨h1,h2,h3,h4⟩
theorem split1 {s w pt:Int×Int} (hx:SpOk s w pt) (sp:0 < s.1) {sh:List Piece} (hs:∀ x∈sh,GL 600 6 x) (h:Bal (sh.map fun s=>s.1) [cornP s false w]):Bal ((spA s w pt false sh).map fun s=>s.1) [cornP s false pt]∧Bal ((spB s w pt false sh).map fun s=>s.1) [cornP s false (spR w pt)]∧Bal ((spC s w pt false sh).map fun s=>s.1) [boxP (spR w pt) (hgt s pt)]:=by
 obtain ⟨k,k0,kh⟩:=hx.rH
 obtain ⟨r1,r2,_,_⟩:=hx.r
 have eL:spL s false=true:=by unfold spL; rw [decide_eq_true sp]; rfl
 have eX:spX s w pt false=pt:=by unfold spX; rw [eL]; rfl
 have eH:spH s w pt false=hgt s pt:=rfl
 obtain ⟨x1,_,_,_⟩:=hx.x false
 obtain ⟨h1,_,_,_⟩:=hx.h false
 have g1:=fun b=>cL_gl hx false b hs
 have g2:=fun b=>cV_gl hx false b (g1 (!spL s false))
 have a1:=(hx.stA false).pt
 have a2:=(hx.stB false).pt
 have a3:=(hx.stC false).pt
 have hRh:=hgt_ok hx.ls hx.s0 hx.c1 hx.c2 r1 r2 hx.r.2.2.1 hx.r.2.2.2
 have hPh:=hgt_ok hx.ls hx.s0 hx.c1 hx.c2 hx.lp hx.p0 (Nat.le_trans hx.c5 (by decide)) (Nat.le_trans hx.c6 (by decide))
 have hWh:=hgt_ok hx.ls hx.s0 hx.c1 hx.c2 hx.lw hx.w0 (Nat.le_trans hx.c3 (by decide)) (Nat.le_trans hx.c4 (by decide))
 have eR:=hx.rR
 have kW:=kh w hx.lw.1
 have kP:=kh pt hx.lp.1
 have kR:=kh (spR w pt) r1.1
 have P0:=rQ_pos hx.p0 hx.lp.1
 have R0:=rQ_pos r2 r1.1
 have W0:=rQ_pos hx.w0 hx.lw.1
 generalize hW:rQ w=W at *
 generalize hP:rQ pt=P at *
 generalize hR:rQ (spR w pt)=R at *
 have kp0:0 < k * P:=Rat.mul_pos k0 P0
 have kr0:0 < k * R:=Rat.mul_pos k0 R0
 have kw0:k * W=k * P + k * R:=by rw [eR]; grind
 have iA:IsPt (0,0,1) 0 0:=isPt_0
 have iB:IsPt (w.1,0,w.2) W 0:=(isPt_x hx.lw).to hW rfl
 have iC:IsPt (top4 w (hgt s w)) W (k * W):=(isPt_top hx.lw.1 hWh.1.1).to hW kW
 have iD:IsPt (0,(hgt s w).1,(hgt s w).2) 0 (k * W):=(isPt_y hWh.1).to rfl kW
 have eC:cornP s false w=[(0,0,1),(w.1,0,w.2),top4 w (hgt s w)]:=by unfold cornP; rw [if_pos sp]; rfl
 rw [eC] at h
 generalize hA':((0,0,1):P3)=A at iA h
 generalize hB':((w.1,0,w.2):P3)=B at iB h
 generalize hC':top4 w (hgt s w)=C at iC h
 generalize hD':((0,(hgt s w).1,(hgt s w).2):P3)=D at iD h
 have rX0:rQ (spX s w pt false)=P:=by rw [eX]; assumption
 have rH0:rQ (spH s w pt false)=k * P:=by rw [eH]; assumption
 obtain ⟨u1,u2,u3⟩:=upL_ok x1
 obtain ⟨v1,v2,v3⟩:=lvL_ok h1
 have uA:=up_l x1 iA (by rw [rX0]; grind)
 have uB:=up_r x1 iB (by rw [rX0]; grind)
 have uC:=up_r x1 iC (by rw [rX0]; grind)
 have im1:IsPt (mtQ (upL (spX s w pt false)) A B) (P) (0):=(mt_up x1 iA iB (Int.mul_neg_of_pos_of_neg uA uB) (by rw [rX0]; grind)).to rX0 rfl
 have im2:IsPt (mtQ (upL (spX s w pt false)) C A) (P) (k * P):=(mt_up x1 iC iA (Int.mul_neg_of_neg_of_pos uC uA) (by rw [rX0]; grind)).to rX0 rfl
 have cb:=cut_bal h u1 u2 u3 (fun t ht p hp=>((hs t ht).ps p hp).pt) (mem3 iA.1 iB.1 iC.1)
 have cA:Bal ((cL (spX s w pt false) (spL s false) sh).map fun s=>s.1) [[A,mtQ (upL (spX s w pt false)) A B,mtQ (upL (spX s w pt false)) C A]]:=by
  rw [eL]
  have z:=cb.1
  rw [patA (f:=ln (upL (spX s w pt false))) uA uB uC] at z
  exact z
 have cO:Bal ((cL (spX s w pt false) (!spL s false) sh).map fun s=>s.1) [[mtQ (upL (spX s w pt false)) A B,B,C,mtQ (upL (spX s w pt false)) C A]]:=by
  rw [eL]
  have z:=cb.2
  rw [patB (f:=fun c => -ln (upL (spX s w pt false)) c) (by show -ln (upL (spX s w pt false)) A < 0; omega) (by show 0 < -ln (upL (spX s w pt false)) B; omega) (by show 0 < -ln (upL (spX s w pt false)) C; omega)] at z
  exact z
 generalize mtQ (upL (spX s w pt false)) A B=m1 at im1 cA cO
 generalize mtQ (upL (spX s w pt false)) C A=m2 at im2 cA cO
 have vm1:=lv_b h1 im1 (by rw [rH0] <;> grind)
 have vB:=lv_b h1 iB (by rw [rH0] <;> grind)
 have vC:=lv_a h1 iC (by rw [rH0] <;> grind)
 have vm2:=lv_0 h1 im2 (by rw [rH0] <;> grind)
 have in1:IsPt (mtQ (lvL (spH s w pt false)) B C) (W) (k * P):=(mt_lv h1 iB iC (Int.mul_neg_of_neg_of_pos vB vC) (by rw [rH0]; grind)).to rfl rH0
 have cb2:=cut_bal cO v1 v2 v3 (fun t ht p hp=>((g1 _ t ht).ps p hp).pt) (mem4 im1.1 iB.1 iC.1 im2.1)
 have cR:Bal ((cV (spH s w pt false) (!false) (cL (spX s w pt false) (!spL s false) sh)).map fun s=>s.1) [[mtQ (lvL (spH s w pt false)) B C,C,m2]]:=by
  have z:=cb2.1
  rw [pat1 (f:=ln (lvL (spH s w pt false))) vm1 vB vC vm2] at z
  exact z
 have cX:Bal ((cV (spH s w pt false) false (cL (spX s w pt false) (!spL s false) sh)).map fun s=>s.1) [[m1,B,mtQ (lvL (spH s w pt false)) B C,m2]]:=by
  have z:=cb2.2
  rw [pat2 (f:=fun c => -ln (lvL (spH s w pt false)) c) (by show 0 < -ln (lvL (spH s w pt false)) m1; omega) (by show 0 < -ln (lvL (spH s w pt false)) B; omega) (by show -ln (lvL (spH s w pt false)) C < 0; omega) (by show -ln (lvL (spH s w pt false)) m2=0; omega)] at z
  exact z
 generalize mtQ (lvL (spH s w pt false)) B C=n1 at in1 cR cX
 have n01:rQ (0,1)=0:=rat0 _
 have iSA:IsPt (stA s w pt false) (0) (0):=by
  unfold stA
  rw [eL]
  exact (isPt_top (w:=(0,1)) (h:=(0,1)) (by decide) (by decide)).to (n01) (n01)
 have iSB:IsPt (stB s w pt false) (-P) (-(k * P)):=by
  unfold stB
  rw [eL]
  exact (isPt_top (w:=(-pt.1,pt.2)) (h:=(-(spH s w pt false).1,(spH s w pt false).2)) hx.lp.1 h1.1).to ((rQ_neg _ _).trans (congrArg _ hP)) ((rQ_neg _ _).trans (congrArg _ rH0))
 have iSC:IsPt (stC s w pt false) (-P) (0):=by
  unfold stC
  rw [eL]
  exact (isPt_top (w:=(-pt.1,pt.2)) (h:=(0,1)) hx.lp.1 (by decide)).to ((rQ_neg _ _).trans (congrArg _ hP)) (n01)
 have iP0:IsPt (pt.1,0,pt.2) P 0:=(isPt_x hx.lp).to hP rfl
 have iPt:IsPt (top4 pt (hgt s pt)) P (k * P):=(isPt_top hx.lp.1 hPh.1.1).to hP kP
 have i0P:IsPt (0,(hgt s pt).1,(hgt s pt).2) 0 (k * P):=(isPt_y hPh.1).to rfl kP
 have iR0:IsPt ((spR w pt).1,0,(spR w pt).2) R 0:=(isPt_x r1).to hR rfl
 have iRt:IsPt (top4 (spR w pt) (hgt s (spR w pt))) R (k * R):=(isPt_top r1.1 hRh.1.1).to hR kR
 have i0R:IsPt (0,(hgt s (spR w pt)).1,(hgt s (spR w pt)).2) 0 (k * R):=(isPt_y hRh.1).to rfl kR
 have iRP:IsPt (top4 (spR w pt) (hgt s pt)) R (k * P):=(isPt_top r1.1 hPh.1.1).to hR kP
 have i00:IsPt (0,0,1) 0 0:=isPt_0
 refine ⟨?_,?_,?_⟩
 ·rw [show cornP s false pt=_ from by unfold cornP; rw [if_pos sp]]
  exact due_of a1 cA (fun t ht p hp=>((g1 _ t ht).ps p hp).pt) (mem3 iA.1 im1.1 im2.1) (list3 (((isPt_sl iSA iA).to (by grind) (by grind)).eq i00) (((isPt_sl iSA im1).to (by grind) (by grind)).eq iP0) (((isPt_sl iSA im2).to (by grind) (by grind)).eq iPt))
 ·rw [show cornP s false (spR w pt)=_ from by unfold cornP; rw [if_pos sp]]
  exact due_rot a2 cR (fun t ht p hp=>((g2 _ t ht).ps p hp).pt) (mem3 in1.1 iC.1 im2.1) (list3 (((isPt_sl iSB in1).to (by grind) (by grind)).eq iR0) (((isPt_sl iSB iC).to (by grind) (by grind)).eq iRt) (((isPt_sl iSB im2).to (by grind) (by grind)).eq i00))
 ·exact due_of a3 cX (fun t ht p hp=>((g2 _ t ht).ps p hp).pt) (mem4 im1.1 iB.1 in1.1 im2.1) (list4 (((isPt_sl iSC im1).to (by grind) (by grind)).eq i00) (((isPt_sl iSC iB).to (by grind) (by grind)).eq iR0) (((isPt_sl iSC in1).to (by grind) (by grind)).eq iRP) (((isPt_sl iSC im2).to (by grind) (by grind)).eq i0P))
theorem split2 {s w pt:Int×Int} (hx:SpOk s w pt) (sp:0 < s.1) {sh:List Piece} (hs:∀ x∈sh,GL 600 6 x) (h:Bal (sh.map fun s=>s.1) [cornP s true w]):Bal ((spA s w pt true sh).map fun s=>s.1) [cornP s true pt]∧Bal ((spB s w pt true sh).map fun s=>s.1) [cornP s true (spR w pt)]∧Bal ((spC s w pt true sh).map fun s=>s.1) [boxP (spR w pt) (hgt s pt)]:=by
 obtain ⟨k,k0,kh⟩:=hx.rH
 obtain ⟨r1,r2,_,_⟩:=hx.r
 have eL:spL s true=false:=by unfold spL; rw [decide_eq_true sp]; rfl
 have eX:spX s w pt true=spR w pt:=by unfold spX; rw [eL]; rfl
 have eH:spH s w pt true=hgt s (spR w pt):=rfl
 obtain ⟨x1,_,_,_⟩:=hx.x true
 obtain ⟨h1,_,_,_⟩:=hx.h true
 have g1:=fun b=>cL_gl hx true b hs
 have g2:=fun b=>cV_gl hx true b (g1 (!spL s true))
 have a1:=(hx.stA true).pt
 have a2:=(hx.stB true).pt
 have a3:=(hx.stC true).pt
 have hRh:=hgt_ok hx.ls hx.s0 hx.c1 hx.c2 r1 r2 hx.r.2.2.1 hx.r.2.2.2
 have hPh:=hgt_ok hx.ls hx.s0 hx.c1 hx.c2 hx.lp hx.p0 (Nat.le_trans hx.c5 (by decide)) (Nat.le_trans hx.c6 (by decide))
 have hWh:=hgt_ok hx.ls hx.s0 hx.c1 hx.c2 hx.lw hx.w0 (Nat.le_trans hx.c3 (by decide)) (Nat.le_trans hx.c4 (by decide))
 have eR:=hx.rR
 have kW:=kh w hx.lw.1
 have kP:=kh pt hx.lp.1
 have kR:=kh (spR w pt) r1.1
 have P0:=rQ_pos hx.p0 hx.lp.1
 have R0:=rQ_pos r2 r1.1
 have W0:=rQ_pos hx.w0 hx.lw.1
 generalize hW:rQ w=W at *
 generalize hP:rQ pt=P at *
 generalize hR:rQ (spR w pt)=R at *
 have kp0:0 < k * P:=Rat.mul_pos k0 P0
 have kr0:0 < k * R:=Rat.mul_pos k0 R0
 have kw0:k * W=k * P + k * R:=by rw [eR]; grind
 have iA:IsPt (0,0,1) 0 0:=isPt_0
 have iB:IsPt (w.1,0,w.2) W 0:=(isPt_x hx.lw).to hW rfl
 have iC:IsPt (top4 w (hgt s w)) W (k * W):=(isPt_top hx.lw.1 hWh.1.1).to hW kW
 have iD:IsPt (0,(hgt s w).1,(hgt s w).2) 0 (k * W):=(isPt_y hWh.1).to rfl kW
 have eC:cornP s true w=[(0,0,1),top4 w (hgt s w),(0,(hgt s w).1,(hgt s w).2)]:=by unfold cornP; rw [if_pos sp]; rfl
 rw [eC] at h
 generalize hA':((0,0,1):P3)=A at iA h
 generalize hB':((w.1,0,w.2):P3)=B at iB h
 generalize hC':top4 w (hgt s w)=C at iC h
 generalize hD':((0,(hgt s w).1,(hgt s w).2):P3)=D at iD h
 have rX0:rQ (spX s w pt true)=R:=by rw [eX]; assumption
 have rH0:rQ (spH s w pt true)=k * R:=by rw [eH]; assumption
 obtain ⟨u1,u2,u3⟩:=upL_ok x1
 obtain ⟨v1,v2,v3⟩:=lvL_ok h1
 have uA:=up_l x1 iA (by rw [rX0]; grind)
 have uC:=up_r x1 iC (by rw [rX0]; grind)
 have uD:=up_l x1 iD (by rw [rX0]; grind)
 have im1:IsPt (mtQ (upL (spX s w pt true)) A C) (R) (k * R):=(mt_up x1 iA iC (Int.mul_neg_of_pos_of_neg uA uC) (by rw [rX0]; grind)).to rX0 rfl
 have im2:IsPt (mtQ (upL (spX s w pt true)) C D) (R) (k * W):=(mt_up x1 iC iD (Int.mul_neg_of_neg_of_pos uC uD) (by rw [rX0]; grind)).to rX0 rfl
 have cb:=cut_bal h u1 u2 u3 (fun t ht p hp=>((hs t ht).ps p hp).pt) (mem3 iA.1 iC.1 iD.1)
 have cA:Bal ((cL (spX s w pt true) (spL s true) sh).map fun s=>s.1) [[mtQ (upL (spX s w pt true)) A C,C,mtQ (upL (spX s w pt true)) C D]]:=by
  rw [eL]
  have z:=cb.2
  rw [patC (f:=fun c => -ln (upL (spX s w pt true)) c) (by show -ln (upL (spX s w pt true)) A < 0; omega) (by show 0 < -ln (upL (spX s w pt true)) C; omega) (by show -ln (upL (spX s w pt true)) D < 0; omega)] at z
  exact z
 have cO:Bal ((cL (spX s w pt true) (!spL s true) sh).map fun s=>s.1) [[A,mtQ (upL (spX s w pt true)) A C,mtQ (upL (spX s w pt true)) C D,D]]:=by
  rw [eL]
  have z:=cb.1
  rw [patD (f:=ln (upL (spX s w pt true))) uA uC uD] at z
  exact z
 generalize mtQ (upL (spX s w pt true)) A C=m1 at im1 cA cO
 generalize mtQ (upL (spX s w pt true)) C D=m2 at im2 cA cO
 have vA:=lv_b h1 iA (by rw [rH0] <;> grind)
 have vm1:=lv_0 h1 im1 (by rw [rH0] <;> grind)
 have vm2:=lv_a h1 im2 (by rw [rH0] <;> grind)
 have vD:=lv_a h1 iD (by rw [rH0] <;> grind)
 have in1:IsPt (mtQ (lvL (spH s w pt true)) D A) (0) (k * R):=(mt_lv h1 iD iA (Int.mul_neg_of_pos_of_neg vD vA) (by rw [rH0]; grind)).to rfl rH0
 have cb2:=cut_bal cO v1 v2 v3 (fun t ht p hp=>((g1 _ t ht).ps p hp).pt) (mem4 iA.1 im1.1 im2.1 iD.1)
 have cR:Bal ((cV (spH s w pt true) (!true) (cL (spX s w pt true) (!spL s true) sh)).map fun s=>s.1) [[A,m1,mtQ (lvL (spH s w pt true)) D A]]:=by
  have z:=cb2.2
  rw [pat3 (f:=fun c => -ln (lvL (spH s w pt true)) c) (by show 0 < -ln (lvL (spH s w pt true)) A; omega) (by show -ln (lvL (spH s w pt true)) m1=0; omega) (by show -ln (lvL (spH s w pt true)) m2 < 0; omega) (by show -ln (lvL (spH s w pt true)) D < 0; omega)] at z
  exact z
 have cX:Bal ((cV (spH s w pt true) true (cL (spX s w pt true) (!spL s true) sh)).map fun s=>s.1) [[m1,m2,D,mtQ (lvL (spH s w pt true)) D A]]:=by
  have z:=cb2.1
  rw [pat4 (f:=ln (lvL (spH s w pt true))) vA vm1 vm2 vD] at z
  exact z
 generalize mtQ (lvL (spH s w pt true)) D A=n1 at in1 cR cX
 have n01:rQ (0,1)=0:=rat0 _
 have iSA:IsPt (stA s w pt true) (-R) (-(k * R)):=by
  unfold stA
  rw [eL]
  exact (isPt_top (w:=(-(spR w pt).1,(spR w pt).2)) (h:=(-(spH s w pt true).1,(spH s w pt true).2)) r1.1 h1.1).to ((rQ_neg _ _).trans (congrArg _ hR)) ((rQ_neg _ _).trans (congrArg _ rH0))
 have iSB:IsPt (stB s w pt true) (0) (0):=by
  unfold stB
  rw [eL]
  exact (isPt_top (w:=(0,1)) (h:=(0,1)) (by decide) (by decide)).to (n01) (n01)
 have iSC:IsPt (stC s w pt true) (0) (-(k * R)):=by
  unfold stC
  rw [eL]
  exact (isPt_top (w:=(0,1)) (h:=(-(spH s w pt true).1,(spH s w pt true).2)) (by decide) h1.1).to (n01) ((rQ_neg _ _).trans (congrArg _ rH0))
 have iP0:IsPt (pt.1,0,pt.2) P 0:=(isPt_x hx.lp).to hP rfl
 have iPt:IsPt (top4 pt (hgt s pt)) P (k * P):=(isPt_top hx.lp.1 hPh.1.1).to hP kP
 have i0P:IsPt (0,(hgt s pt).1,(hgt s pt).2) 0 (k * P):=(isPt_y hPh.1).to rfl kP
 have iR0:IsPt ((spR w pt).1,0,(spR w pt).2) R 0:=(isPt_x r1).to hR rfl
 have iRt:IsPt (top4 (spR w pt) (hgt s (spR w pt))) R (k * R):=(isPt_top r1.1 hRh.1.1).to hR kR
 have i0R:IsPt (0,(hgt s (spR w pt)).1,(hgt s (spR w pt)).2) 0 (k * R):=(isPt_y hRh.1).to rfl kR
 have iRP:IsPt (top4 (spR w pt) (hgt s pt)) R (k * P):=(isPt_top r1.1 hPh.1.1).to hR kP
 have i00:IsPt (0,0,1) 0 0:=isPt_0
 refine ⟨?_,?_,?_⟩
 ·rw [show cornP s true pt=_ from by unfold cornP; rw [if_pos sp]]
  exact due_of a1 cA (fun t ht p hp=>((g1 _ t ht).ps p hp).pt) (mem3 im1.1 iC.1 im2.1) (list3 (((isPt_sl iSA im1).to (by grind) (by grind)).eq i00) (((isPt_sl iSA iC).to (by grind) (by grind)).eq iPt) (((isPt_sl iSA im2).to (by grind) (by grind)).eq i0P))
 ·rw [show cornP s true (spR w pt)=_ from by unfold cornP; rw [if_pos sp]]
  exact due_of a2 cR (fun t ht p hp=>((g2 _ t ht).ps p hp).pt) (mem3 iA.1 im1.1 in1.1) (list3 (((isPt_sl iSB iA).to (by grind) (by grind)).eq i00) (((isPt_sl iSB im1).to (by grind) (by grind)).eq iRt) (((isPt_sl iSB in1).to (by grind) (by grind)).eq i0R))
 ·exact due_rot a3 cX (fun t ht p hp=>((g2 _ t ht).ps p hp).pt) (mem4 im1.1 im2.1 iD.1 in1.1) (list4 (((isPt_sl iSC im1).to (by grind) (by grind)).eq iR0) (((isPt_sl iSC im2).to (by grind) (by grind)).eq iRP) (((isPt_sl iSC iD).to (by grind) (by grind)).eq i0P) (((isPt_sl iSC in1).to (by grind) (by grind)).eq i00))
theorem split3 {s w pt:Int×Int} (hx:SpOk s w pt) (sp:¬ 0 < s.1) {sh:List Piece} (hs:∀ x∈sh,GL 600 6 x) (h:Bal (sh.map fun s=>s.1) [cornP s false w]):Bal ((spA s w pt false sh).map fun s=>s.1) [cornP s false pt]∧Bal ((spB s w pt false sh).map fun s=>s.1) [cornP s false (spR w pt)]∧Bal ((spC s w pt false sh).map fun s=>s.1) [boxP (spR w pt) (hgt s pt)]:=by
 obtain ⟨k,k0,kh⟩:=hx.rH
 obtain ⟨r1,r2,_,_⟩:=hx.r
 have eL:spL s false=false:=by unfold spL; rw [decide_eq_false sp]; rfl
 have eX:spX s w pt false=spR w pt:=by unfold spX; rw [eL]; rfl
 have eH:spH s w pt false=hgt s pt:=rfl
 obtain ⟨x1,_,_,_⟩:=hx.x false
 obtain ⟨h1,_,_,_⟩:=hx.h false
 have g1:=fun b=>cL_gl hx false b hs
 have g2:=fun b=>cV_gl hx false b (g1 (!spL s false))
 have a1:=(hx.stA false).pt
 have a2:=(hx.stB false).pt
 have a3:=(hx.stC false).pt
 have hRh:=hgt_ok hx.ls hx.s0 hx.c1 hx.c2 r1 r2 hx.r.2.2.1 hx.r.2.2.2
 have hPh:=hgt_ok hx.ls hx.s0 hx.c1 hx.c2 hx.lp hx.p0 (Nat.le_trans hx.c5 (by decide)) (Nat.le_trans hx.c6 (by decide))
 have hWh:=hgt_ok hx.ls hx.s0 hx.c1 hx.c2 hx.lw hx.w0 (Nat.le_trans hx.c3 (by decide)) (Nat.le_trans hx.c4 (by decide))
 have eR:=hx.rR
 have kW:=kh w hx.lw.1
 have kP:=kh pt hx.lp.1
 have kR:=kh (spR w pt) r1.1
 have P0:=rQ_pos hx.p0 hx.lp.1
 have R0:=rQ_pos r2 r1.1
 have W0:=rQ_pos hx.w0 hx.lw.1
 generalize hW:rQ w=W at *
 generalize hP:rQ pt=P at *
 generalize hR:rQ (spR w pt)=R at *
 have kp0:0 < k * P:=Rat.mul_pos k0 P0
 have kr0:0 < k * R:=Rat.mul_pos k0 R0
 have kw0:k * W=k * P + k * R:=by rw [eR]; grind
 have iA:IsPt (0,0,1) 0 0:=isPt_0
 have iB:IsPt (w.1,0,w.2) W 0:=(isPt_x hx.lw).to hW rfl
 have iC:IsPt (top4 w (hgt s w)) W (k * W):=(isPt_top hx.lw.1 hWh.1.1).to hW kW
 have iD:IsPt (0,(hgt s w).1,(hgt s w).2) 0 (k * W):=(isPt_y hWh.1).to rfl kW
 have eC:cornP s false w=[(0,0,1),(w.1,0,w.2),(0,(hgt s w).1,(hgt s w).2)]:=by unfold cornP; rw [if_neg sp]; rfl
 rw [eC] at h
 generalize hA':((0,0,1):P3)=A at iA h
 generalize hB':((w.1,0,w.2):P3)=B at iB h
 generalize hC':top4 w (hgt s w)=C at iC h
 generalize hD':((0,(hgt s w).1,(hgt s w).2):P3)=D at iD h
 have rX0:rQ (spX s w pt false)=R:=by rw [eX]; assumption
 have rH0:rQ (spH s w pt false)=k * P:=by rw [eH]; assumption
 obtain ⟨u1,u2,u3⟩:=upL_ok x1
 obtain ⟨v1,v2,v3⟩:=lvL_ok h1
 have uA:=up_l x1 iA (by rw [rX0]; grind)
 have uB:=up_r x1 iB (by rw [rX0]; grind)
 have uD:=up_l x1 iD (by rw [rX0]; grind)
 have im1:IsPt (mtQ (upL (spX s w pt false)) A B) (R) (0):=(mt_up x1 iA iB (Int.mul_neg_of_pos_of_neg uA uB) (by rw [rX0]; grind)).to rX0 rfl
 have im2:IsPt (mtQ (upL (spX s w pt false)) B D) (R) (k * P):=(mt_up x1 iB iD (Int.mul_neg_of_neg_of_pos uB uD) (by rw [rX0]; grind)).to rX0 rfl
 have cb:=cut_bal h u1 u2 u3 (fun t ht p hp=>((hs t ht).ps p hp).pt) (mem3 iA.1 iB.1 iD.1)
 have cA:Bal ((cL (spX s w pt false) (spL s false) sh).map fun s=>s.1) [[mtQ (upL (spX s w pt false)) A B,B,mtQ (upL (spX s w pt false)) B D]]:=by
  rw [eL]
  have z:=cb.2
  rw [patC (f:=fun c => -ln (upL (spX s w pt false)) c) (by show -ln (upL (spX s w pt false)) A < 0; omega) (by show 0 < -ln (upL (spX s w pt false)) B; omega) (by show -ln (upL (spX s w pt false)) D < 0; omega)] at z
  exact z
 have cO:Bal ((cL (spX s w pt false) (!spL s false) sh).map fun s=>s.1) [[A,mtQ (upL (spX s w pt false)) A B,mtQ (upL (spX s w pt false)) B D,D]]:=by
  rw [eL]
  have z:=cb.1
  rw [patD (f:=ln (upL (spX s w pt false))) uA uB uD] at z
  exact z
 generalize mtQ (upL (spX s w pt false)) A B=m1 at im1 cA cO
 generalize mtQ (upL (spX s w pt false)) B D=m2 at im2 cA cO
 have vA:=lv_b h1 iA (by rw [rH0] <;> grind)
 have vm1:=lv_b h1 im1 (by rw [rH0] <;> grind)
 have vm2:=lv_0 h1 im2 (by rw [rH0] <;> grind)
 have vD:=lv_a h1 iD (by rw [rH0] <;> grind)
 have in1:IsPt (mtQ (lvL (spH s w pt false)) D A) (0) (k * P):=(mt_lv h1 iD iA (Int.mul_neg_of_pos_of_neg vD vA) (by rw [rH0]; grind)).to rfl rH0
 have cb2:=cut_bal cO v1 v2 v3 (fun t ht p hp=>((g1 _ t ht).ps p hp).pt) (mem4 iA.1 im1.1 im2.1 iD.1)
 have cR:Bal ((cV (spH s w pt false) (!false) (cL (spX s w pt false) (!spL s false) sh)).map fun s=>s.1) [[m2,D,mtQ (lvL (spH s w pt false)) D A]]:=by
  have z:=cb2.1
  rw [pat5 (f:=ln (lvL (spH s w pt false))) vA vm1 vm2 vD] at z
  exact z
 have cX:Bal ((cV (spH s w pt false) false (cL (spX s w pt false) (!spL s false) sh)).map fun s=>s.1) [[A,m1,m2,mtQ (lvL (spH s w pt false)) D A]]:=by
  have z:=cb2.2
  rw [pat6 (f:=fun c => -ln (lvL (spH s w pt false)) c) (by show 0 < -ln (lvL (spH s w pt false)) A; omega) (by show 0 < -ln (lvL (spH s w pt false)) m1; omega) (by show -ln (lvL (spH s w pt false)) m2=0; omega) (by show -ln (lvL (spH s w pt false)) D < 0; omega)] at z
  exact z
 generalize mtQ (lvL (spH s w pt false)) D A=n1 at in1 cR cX
 have n01:rQ (0,1)=0:=rat0 _
 have iSA:IsPt (stA s w pt false) (-R) (0):=by
  unfold stA
  rw [eL]
  exact (isPt_top (w:=(-(spR w pt).1,(spR w pt).2)) (h:=(0,1)) r1.1 (by decide)).to ((rQ_neg _ _).trans (congrArg _ hR)) (n01)
 have iSB:IsPt (stB s w pt false) (0) (-(k * P)):=by
  unfold stB
  rw [eL]
  exact (isPt_top (w:=(0,1)) (h:=(-(spH s w pt false).1,(spH s w pt false).2)) (by decide) h1.1).to (n01) ((rQ_neg _ _).trans (congrArg _ rH0))
 have iSC:IsPt (stC s w pt false) (0) (0):=by
  unfold stC
  rw [eL]
  exact (isPt_top (w:=(0,1)) (h:=(0,1)) (by decide) (by decide)).to (n01) (n01)
 have iP0:IsPt (pt.1,0,pt.2) P 0:=(isPt_x hx.lp).to hP rfl
 have iPt:IsPt (top4 pt (hgt s pt)) P (k * P):=(isPt_top hx.lp.1 hPh.1.1).to hP kP
 have i0P:IsPt (0,(hgt s pt).1,(hgt s pt).2) 0 (k * P):=(isPt_y hPh.1).to rfl kP
 have iR0:IsPt ((spR w pt).1,0,(spR w pt).2) R 0:=(isPt_x r1).to hR rfl
 have iRt:IsPt (top4 (spR w pt) (hgt s (spR w pt))) R (k * R):=(isPt_top r1.1 hRh.1.1).to hR kR
 have i0R:IsPt (0,(hgt s (spR w pt)).1,(hgt s (spR w pt)).2) 0 (k * R):=(isPt_y hRh.1).to rfl kR
 have iRP:IsPt (top4 (spR w pt) (hgt s pt)) R (k * P):=(isPt_top r1.1 hPh.1.1).to hR kP
 have i00:IsPt (0,0,1) 0 0:=isPt_0
 refine ⟨?_,?_,?_⟩
 ·rw [show cornP s false pt=_ from by unfold cornP; rw [if_neg sp]]
  exact due_of a1 cA (fun t ht p hp=>((g1 _ t ht).ps p hp).pt) (mem3 im1.1 iB.1 im2.1) (list3 (((isPt_sl iSA im1).to (by grind) (by grind)).eq i00) (((isPt_sl iSA iB).to (by grind) (by grind)).eq iP0) (((isPt_sl iSA im2).to (by grind) (by grind)).eq i0P))
 ·rw [show cornP s false (spR w pt)=_ from by unfold cornP; rw [if_neg sp]]
  exact due_rot a2 cR (fun t ht p hp=>((g2 _ t ht).ps p hp).pt) (mem3 im2.1 iD.1 in1.1) (list3 (((isPt_sl iSB im2).to (by grind) (by grind)).eq iR0) (((isPt_sl iSB iD).to (by grind) (by grind)).eq i0R) (((isPt_sl iSB in1).to (by grind) (by grind)).eq i00))
 ·exact due_of a3 cX (fun t ht p hp=>((g2 _ t ht).ps p hp).pt) (mem4 iA.1 im1.1 im2.1 in1.1) (list4 (((isPt_sl iSC iA).to (by grind) (by grind)).eq i00) (((isPt_sl iSC im1).to (by grind) (by grind)).eq iR0) (((isPt_sl iSC im2).to (by grind) (by grind)).eq iRP) (((isPt_sl iSC in1).to (by grind) (by grind)).eq i0P))
theorem split4 {s w pt:Int×Int} (hx:SpOk s w pt) (sp:¬ 0 < s.1) {sh:List Piece} (hs:∀ x∈sh,GL 600 6 x) (h:Bal (sh.map fun s=>s.1) [cornP s true w]):Bal ((spA s w pt true sh).map fun s=>s.1) [cornP s true pt]∧Bal ((spB s w pt true sh).map fun s=>s.1) [cornP s true (spR w pt)]∧Bal ((spC s w pt true sh).map fun s=>s.1) [boxP (spR w pt) (hgt s pt)]:=by
 obtain ⟨k,k0,kh⟩:=hx.rH
 obtain ⟨r1,r2,_,_⟩:=hx.r
 have eL:spL s true=true:=by unfold spL; rw [decide_eq_false sp]; rfl
 have eX:spX s w pt true=pt:=by unfold spX; rw [eL]; rfl
 have eH:spH s w pt true=hgt s (spR w pt):=rfl
 obtain ⟨x1,_,_,_⟩:=hx.x true
 obtain ⟨h1,_,_,_⟩:=hx.h true
 have g1:=fun b=>cL_gl hx true b hs
 have g2:=fun b=>cV_gl hx true b (g1 (!spL s true))
 have a1:=(hx.stA true).pt
 have a2:=(hx.stB true).pt
 have a3:=(hx.stC true).pt
 have hRh:=hgt_ok hx.ls hx.s0 hx.c1 hx.c2 r1 r2 hx.r.2.2.1 hx.r.2.2.2
 have hPh:=hgt_ok hx.ls hx.s0 hx.c1 hx.c2 hx.lp hx.p0 (Nat.le_trans hx.c5 (by decide)) (Nat.le_trans hx.c6 (by decide))
 have hWh:=hgt_ok hx.ls hx.s0 hx.c1 hx.c2 hx.lw hx.w0 (Nat.le_trans hx.c3 (by decide)) (Nat.le_trans hx.c4 (by decide))
 have eR:=hx.rR
 have kW:=kh w hx.lw.1
 have kP:=kh pt hx.lp.1
 have kR:=kh (spR w pt) r1.1
 have P0:=rQ_pos hx.p0 hx.lp.1
 have R0:=rQ_pos r2 r1.1
 have W0:=rQ_pos hx.w0 hx.lw.1
 generalize hW:rQ w=W at *
 generalize hP:rQ pt=P at *
 generalize hR:rQ (spR w pt)=R at *
 have kp0:0 < k * P:=Rat.mul_pos k0 P0
 have kr0:0 < k * R:=Rat.mul_pos k0 R0
 have kw0:k * W=k * P + k * R:=by rw [eR]; grind
 have iA:IsPt (0,0,1) 0 0:=isPt_0
 have iB:IsPt (w.1,0,w.2) W 0:=(isPt_x hx.lw).to hW rfl
 have iC:IsPt (top4 w (hgt s w)) W (k * W):=(isPt_top hx.lw.1 hWh.1.1).to hW kW
 have iD:IsPt (0,(hgt s w).1,(hgt s w).2) 0 (k * W):=(isPt_y hWh.1).to rfl kW
 have eC:cornP s true w=[(0,(hgt s w).1,(hgt s w).2),(w.1,0,w.2),top4 w (hgt s w)]:=by unfold cornP; rw [if_neg sp]; rfl
 rw [eC] at h
 generalize hA':((0,0,1):P3)=A at iA h
 generalize hB':((w.1,0,w.2):P3)=B at iB h
 generalize hC':top4 w (hgt s w)=C at iC h
 generalize hD':((0,(hgt s w).1,(hgt s w).2):P3)=D at iD h
 have rX0:rQ (spX s w pt true)=P:=by rw [eX]; assumption
 have rH0:rQ (spH s w pt true)=k * R:=by rw [eH]; assumption
 obtain ⟨u1,u2,u3⟩:=upL_ok x1
 obtain ⟨v1,v2,v3⟩:=lvL_ok h1
 have uD:=up_l x1 iD (by rw [rX0]; grind)
 have uB:=up_r x1 iB (by rw [rX0]; grind)
 have uC:=up_r x1 iC (by rw [rX0]; grind)
 have im1:IsPt (mtQ (upL (spX s w pt true)) D B) (P) (k * R):=(mt_up x1 iD iB (Int.mul_neg_of_pos_of_neg uD uB) (by rw [rX0]; grind)).to rX0 rfl
 have im2:IsPt (mtQ (upL (spX s w pt true)) C D) (P) (k * W):=(mt_up x1 iC iD (Int.mul_neg_of_neg_of_pos uC uD) (by rw [rX0]; grind)).to rX0 rfl
 have cb:=cut_bal h u1 u2 u3 (fun t ht p hp=>((hs t ht).ps p hp).pt) (mem3 iD.1 iB.1 iC.1)
 have cA:Bal ((cL (spX s w pt true) (spL s true) sh).map fun s=>s.1) [[D,mtQ (upL (spX s w pt true)) D B,mtQ (upL (spX s w pt true)) C D]]:=by
  rw [eL]
  have z:=cb.1
  rw [patA (f:=ln (upL (spX s w pt true))) uD uB uC] at z
  exact z
 have cO:Bal ((cL (spX s w pt true) (!spL s true) sh).map fun s=>s.1) [[mtQ (upL (spX s w pt true)) D B,B,C,mtQ (upL (spX s w pt true)) C D]]:=by
  rw [eL]
  have z:=cb.2
  rw [patB (f:=fun c => -ln (upL (spX s w pt true)) c) (by show -ln (upL (spX s w pt true)) D < 0; omega) (by show 0 < -ln (upL (spX s w pt true)) B; omega) (by show 0 < -ln (upL (spX s w pt true)) C; omega)] at z
  exact z
 generalize mtQ (upL (spX s w pt true)) D B=m1 at im1 cA cO
 generalize mtQ (upL (spX s w pt true)) C D=m2 at im2 cA cO
 have vm1:=lv_0 h1 im1 (by rw [rH0] <;> grind)
 have vB:=lv_b h1 iB (by rw [rH0] <;> grind)
 have vC:=lv_a h1 iC (by rw [rH0] <;> grind)
 have vm2:=lv_a h1 im2 (by rw [rH0] <;> grind)
 have in1:IsPt (mtQ (lvL (spH s w pt true)) B C) (W) (k * R):=(mt_lv h1 iB iC (Int.mul_neg_of_neg_of_pos vB vC) (by rw [rH0]; grind)).to rfl rH0
 have cb2:=cut_bal cO v1 v2 v3 (fun t ht p hp=>((g1 _ t ht).ps p hp).pt) (mem4 im1.1 iB.1 iC.1 im2.1)
 have cR:Bal ((cV (spH s w pt true) (!true) (cL (spX s w pt true) (!spL s true) sh)).map fun s=>s.1) [[m1,B,mtQ (lvL (spH s w pt true)) B C]]:=by
  have z:=cb2.2
  rw [pat7 (f:=fun c => -ln (lvL (spH s w pt true)) c) (by show -ln (lvL (spH s w pt true)) m1=0; omega) (by show 0 < -ln (lvL (spH s w pt true)) B; omega) (by show -ln (lvL (spH s w pt true)) C < 0; omega) (by show -ln (lvL (spH s w pt true)) m2 < 0; omega)] at z
  exact z
 have cX:Bal ((cV (spH s w pt true) true (cL (spX s w pt true) (!spL s true) sh)).map fun s=>s.1) [[m1,mtQ (lvL (spH s w pt true)) B C,C,m2]]:=by
  have z:=cb2.1
  rw [pat8 (f:=ln (lvL (spH s w pt true))) vm1 vB vC vm2] at z
  exact z
 generalize mtQ (lvL (spH s w pt true)) B C=n1 at in1 cR cX
 have n01:rQ (0,1)=0:=rat0 _
 have iSA:IsPt (stA s w pt true) (0) (-(k * R)):=by
  unfold stA
  rw [eL]
  exact (isPt_top (w:=(0,1)) (h:=(-(spH s w pt true).1,(spH s w pt true).2)) (by decide) h1.1).to (n01) ((rQ_neg _ _).trans (congrArg _ rH0))
 have iSB:IsPt (stB s w pt true) (-P) (0):=by
  unfold stB
  rw [eL]
  exact (isPt_top (w:=(-pt.1,pt.2)) (h:=(0,1)) hx.lp.1 (by decide)).to ((rQ_neg _ _).trans (congrArg _ hP)) (n01)
 have iSC:IsPt (stC s w pt true) (-P) (-(k * R)):=by
  unfold stC
  rw [eL]
  exact (isPt_top (w:=(-pt.1,pt.2)) (h:=(-(spH s w pt true).1,(spH s w pt true).2)) hx.lp.1 h1.1).to ((rQ_neg _ _).trans (congrArg _ hP)) ((rQ_neg _ _).trans (congrArg _ rH0))
 have iP0:IsPt (pt.1,0,pt.2) P 0:=(isPt_x hx.lp).to hP rfl
 have iPt:IsPt (top4 pt (hgt s pt)) P (k * P):=(isPt_top hx.lp.1 hPh.1.1).to hP kP
 have i0P:IsPt (0,(hgt s pt).1,(hgt s pt).2) 0 (k * P):=(isPt_y hPh.1).to rfl kP
 have iR0:IsPt ((spR w pt).1,0,(spR w pt).2) R 0:=(isPt_x r1).to hR rfl
 have iRt:IsPt (top4 (spR w pt) (hgt s (spR w pt))) R (k * R):=(isPt_top r1.1 hRh.1.1).to hR kR
 have i0R:IsPt (0,(hgt s (spR w pt)).1,(hgt s (spR w pt)).2) 0 (k * R):=(isPt_y hRh.1).to rfl kR
 have iRP:IsPt (top4 (spR w pt) (hgt s pt)) R (k * P):=(isPt_top r1.1 hPh.1.1).to hR kP
 have i00:IsPt (0,0,1) 0 0:=isPt_0
 refine ⟨?_,?_,?_⟩
 ·rw [show cornP s true pt=_ from by unfold cornP; rw [if_neg sp]]
  exact due_of a1 cA (fun t ht p hp=>((g1 _ t ht).ps p hp).pt) (mem3 iD.1 im1.1 im2.1) (list3 (((isPt_sl iSA iD).to (by grind) (by grind)).eq i0P) (((isPt_sl iSA im1).to (by grind) (by grind)).eq iP0) (((isPt_sl iSA im2).to (by grind) (by grind)).eq iPt))
 ·rw [show cornP s true (spR w pt)=_ from by unfold cornP; rw [if_neg sp]]
  exact due_of a2 cR (fun t ht p hp=>((g2 _ t ht).ps p hp).pt) (mem3 im1.1 iB.1 in1.1) (list3 (((isPt_sl iSB im1).to (by grind) (by grind)).eq i0R) (((isPt_sl iSB iB).to (by grind) (by grind)).eq iR0) (((isPt_sl iSB in1).to (by grind) (by grind)).eq iRt))
 ·exact due_of a3 cX (fun t ht p hp=>((g2 _ t ht).ps p hp).pt) (mem4 im1.1 in1.1 iC.1 im2.1) (list4 (((isPt_sl iSC im1).to (by grind) (by grind)).eq i00) (((isPt_sl iSC in1).to (by grind) (by grind)).eq iR0) (((isPt_sl iSC iC).to (by grind) (by grind)).eq iRP) (((isPt_sl iSC im2).to (by grind) (by grind)).eq i0P))
theorem split_due {s w pt:Int×Int} (hx:SpOk s w pt) (hi:Bool) {sh:List Piece} (hs:∀ x∈sh,GL 600 6 x) (h:Bal (sh.map fun s=>s.1) [cornP s hi w]):Bal ((spA s w pt hi sh).map fun s=>s.1) [cornP s hi pt]∧Bal ((spB s w pt hi sh).map fun s=>s.1) [cornP s hi (spR w pt)]∧Bal ((spC s w pt hi sh).map fun s=>s.1) [boxP (spR w pt) (hgt s pt)]:=by
 by_cases sp:0 < s.1
 ·cases hi with
  | false=>exact split1 hx sp hs h
  | true=>exact split2 hx sp hs h
 ·cases hi with
  | false=>exact split3 hx sp hs h
  | true=>exact split4 hx sp hs h
end Cut
namespace L2
open PySem PySem.Spec PyProof.Rows PySem.W
variable {X:Cx}
theorem call_sortI:CallR X (.builtin "sorted") (fun xs H Q=>∃ (p:Addr) (ns:List Int),xs=[.ref p]∧H p=some (.lst (ns.map V.int))∧ns.length < 64∧∀ ns':List Int,ns'.Perm ns→ns'.Pairwise (· ≤ ·)→∀ l,H l=none→Q (.ref l) (upd H l (.lst (ns'.map V.int)))):=by
 intro pins s σ H xs us Q I r h
 obtain ⟨p,ns,rfl,hp,hn,q⟩:=h
 obtain ⟨u,rfl,rx⟩:=vals1 r
 cases rx
 obtain ⟨its,rv,pl,hz⟩:=I.list (SqL.of hp)
 have hlen:=rv.length
 rw [List.length_map] at hlen
 refine sorted_ints pl.isList (intsAre_of rv) (by omega) fun out ns' a1 a2 a3=>?_
 obtain ⟨e,he⟩:=sortedAll_at s.heap its out
 have hl:=a2.length_eq
 exact ⟨.ref (s.heap.objs.size + 1),_,I.laid (t':=s.toks) (fun _ _=>sortedAll_old) (Nat.le_succ _) (show ObjOk X.prog X.w _ _ _ (.lst (ns'.map V.int)) from ⟨by rw [List.length_map,sizeLine_eq]; omega,out.toList,e,vals_ints a1,he⟩),rfl,q ns' a2 a3 _ (I.hok.fresh (Nat.le_succ _))⟩
end L2
namespace L3
open PySem L2
variable {X:Cx} {e:Expr} {u:UE} {p pos:Pos}
def uSort (u:UE):UL:=fun ρ k=>u ρ fun x=>∃ ns:List Int,x=.lst (ns.map D.int)∧ns.length < 64∧∀ ns':List Int,ns'.Perm ns→ns'.Pairwise (· ≤ ·)→k (ns'.map D.int)
theorem o_sort (ha:PE3 X e u) (hg:Gl X "sorted") (hm:X.mg "sorted" = none) (hs:starEach [e] X.env=(false,eval e X.env) :: starEach [] X.env:=by rfl):PO3 X (.Call (.Name "sorted" p) [e] [] pos) (uSort u):=by
 obtain ⟨_,h1,r1⟩:=ha
 refine ⟨_,pe_callB call_sortI hg hm (by decide +kernel) (pa_cons h1 pa_nil hs) (by decide) (by decide) hs rfl,fun ρ k h R W B H σ Q e q=>?_⟩
 refine r1 ρ _ h R W B H σ _ e fun d v B1 H1 z1 e1 g1 s1=>?_
 obtain ⟨ns,rfl,hn,z⟩:=z1
 obtain ⟨a,vs,rfl,ha,rs⟩:=s1.lstV
 have ev:=reps_ints rs
 subst ev
 refine ⟨a,ns,rfl,e1.bh _ _ ha,hn,fun ns' p1 p2 p hp=>?_⟩
 obtain ⟨f1,f2,f3,f4,f5⟩:=e1.newO hp (Reps.ints ns')
 exact q _ p _ B1 _ (z ns' p1 p2) f1 g1 f2 f3 f4 (Reps.ints ns') f5
end L3
namespace L2
open PySem PySem.Spec PyProof.Rows PySem.W
variable {X:Cx}
def rExtendT:V→List V→Hp→VK→Prop:=fun x vs H Q=>∃ l b xs zs,x=.ref l∧vs=[.ref b]∧H l=some (.lst xs)∧H b=some (.tup zs)∧xs.length + zs.length≤sizeLine∧Q .non (upd H l (.lst (xs ++ zs)))
theorem mt_extendT:MtM X "list.extend" rExtendT:=by
 intro pins s σ H x vs v us Q I rx rv h
 obtain ⟨l,b,xs,zs,rfl,rfl,hH,hB,hz,q⟩:=h
 cases rx
 obtain ⟨u,rfl,ru⟩:=rv.one
 cases ru
 obtain ⟨z,its,n,r,hl,e⟩:=I.lstM hH
 obtain ⟨z2,its2,r2,e2⟩:=I.hok b _ hB
 have hl2:=r2.length
 obtain ⟨o2,ho2,hc2,n2,hd2⟩:=e2
 have hsz:its.toArray.size + its2.toArray.size≤sizeLine:=by rw [List.size_toArray,List.size_toArray]; omega
 have hlong:¬ (!its.toArray.isEmpty && Builtin.List.listTooLong (its.toArray.size + its2.toArray.size))=true:=by
  rw [notLongL hsz,Bool.and_false]
  exact Bool.false_ne_true
 refine wpAny_call_entry F.slot_list_extend ⟨_,e,rfl⟩ F.entry_list_extend ?_ (F.args_list_extend_2 _ _)
 show wpAny _ _ (Builtin.List.listExtendWith (.ref l) (.ref b) .none) _ _ s
 unfold Builtin.List.listExtendWith
 refine wpAny_bind (wpAny_typeOf (T := "tuple") ⟨o2,ho2,hc2⟩ ?_)
 rw [if_pos (by rw [show (Value.type "tuple" == Value.type "tuple")=true from rfl]; simp)]
 refine wpAny_bind (listItems_at ho2 hd2 ?_)
 refine wpAny_bind (listItems_at e rfl ?_)
 rw [if_neg hlong]
 refine wpAny_bind (listUpdate_at e rfl ?_ (by rw [List.size_toArray]; omega) (by rw [Array.size_append]; omega))
 refine wpAny_pure ⟨_,rfl,?_⟩
 refine ⟨.non,_,I.lset (t':=s.toks) (its':=its ++ its2) hH e (by simp) (r.append r2) ?_,rfl,q⟩
 rw [List.length_append]
 omega
end L2
namespace L3
open PySem L2
section
variable {K:PySem.W.Frag} {B:Hp}
theorem Reps.eraseIdx:∀ {vs:List V} {ds:List D} (i:Nat),Reps K B vs ds→Reps K B (vs.eraseIdx i) (ds.eraseIdx i)
 | _,_,_,.nil=>.nil
 | _,_,0,.cons _ t=>t
 | _,_,i + 1,.cons r t=>.cons r (Reps.eraseIdx i t)
end
variable {X:Cx} {e:Expr} {u:UE} {F:FS} {pos:Pos}
def uExtC (i j:Nat) (F:FS) (u:UE):US:=fun U ρ=>∃ ds:List D,ρ[i]?=some (.own ds)∧ρ[j]?=some .bag∧u ρ fun d=>∃ (n:Nat) (z:D),d=.int n∧n < 1000∧ds[n]?=some z∧F [.bag,.val z] fun r=>∃ es,r=.val (.tup es)∧ds.length + es.length≤sizeLine∧U.nx (ρ.set i (.own (ds.eraseIdx n ++ es)))
theorem s_extC (i j:Nat) {f x y:Str} {ps:List Str} {j' lv:Nat} {px px2 py pf apos cpos apos2 cpos2 cpos3:Pos} (c:Cal X.prog X.w X.K X.mg X.base f ps j' (Con X.K 2 F)) (hr:Room lv X.A) (hg:Gl X f) (he:PE3 X e u) (hjk:j'≤lv:=by decide)
  (hN:X.N[i]?=some x:=by rfl) (hv:Vis X.env.scope x:=by first | exact Or.inl rfl | exact Or.inr (Or.inl rfl) | exact Or.inr (Or.inr rfl)) (hd:(x == ("__debug__" : Str))=false:=by decide) (hcd:(x == ("__classdict__" : Str))=false:=by decide)
  (hN2:X.N[j]?=some y:=by rfl) (hv2:Vis X.env.scope y:=by first | exact Or.inl rfl | exact Or.inr (Or.inl rfl) | exact Or.inr (Or.inr rfl)) (hd2:(y == ("__debug__" : Str))=false:=by decide) (hcd2:(y == ("__classdict__" : Str))=false:=by decide)
  (hdb:(f == ("__debug__" : Str))=false:=by decide)
  (hbase:attributeBase (.Name x px) "extend" X.env (eval (.Name x px) X.env)=eval (.Name x px) X.env:=by rfl)
  (hbase2:attributeBase (.Name x px2) "pop" X.env (eval (.Name x px2) X.env)=eval (.Name x px2) X.env:=by rfl)
  (hfew:((backTo cpos (starEach [.Call (.Name f pf) [.Name y py,.Call (.Attribute (.Name x px2) "pop" apos2) [e] [] cpos2] [] cpos3] X.env)).all (fun x => !x.1) && (backToKw cpos (keywordEach [] X.env)).all (fun x=>x.1.isSome)
   && decide (1 + ([]:List Keyword).length + (if ([]:List Keyword).isEmpty then 0 else 1) < 30))=true:=by rfl)
  (hfew2:((backTo cpos2 (starEach [e] X.env)).all (fun x => !x.1) && (backToKw cpos2 (keywordEach [] X.env)).all (fun x=>x.1.isSome)
   && decide (1 + ([]:List Keyword).length + (if ([]:List Keyword).isEmpty then 0 else 1) < 30))=true:=by rfl)
  (hline:(apos.endLine == cpos.line)=true:=by rfl) (hline2:(apos2.endLine == cpos2.line)=true:=by rfl)
  (hs:starEach [.Call (.Name f pf) [.Name y py,.Call (.Attribute (.Name x px2) "pop" apos2) [e] [] cpos2] [] cpos3] X.env=(false,eval (.Call (.Name f pf) [.Name y py,.Call (.Attribute (.Name x px2) "pop" apos2) [e] [] cpos2] [] cpos3) X.env) :: starEach [] X.env:=by rfl)
  (hs1:starEach [.Name y py,.Call (.Attribute (.Name x px2) "pop" apos2) [e] [] cpos2] X.env=(false,eval (.Name y py) X.env) :: starEach [.Call (.Attribute (.Name x px2) "pop" apos2) [e] [] cpos2] X.env:=by rfl)
  (hs2:starEach [.Call (.Attribute (.Name x px2) "pop" apos2) [e] [] cpos2] X.env=(false,eval (.Call (.Attribute (.Name x px2) "pop" apos2) [e] [] cpos2) X.env) :: starEach [] X.env:=by rfl)
  (hs3:starEach [e] X.env=(false,eval e X.env) :: starEach [] X.env:=by rfl)
  (hplain:(backTo cpos (starEach ([]:List Expr) X.env)).any (·.1)=false:=by rfl) (hplain2:(backTo cpos2 (starEach ([]:List Expr) X.env)).any (·.1)=false:=by rfl)
  (hpl:(backTo cpos3 (starEach [.Call (.Attribute (.Name x px2) "pop" apos2) [e] [] cpos2] X.env)).any (·.1)=false:=by rfl)
  (hsw:swapsWith (.Call (.Attribute (.Name x px) "extend" apos) [.Call (.Name f pf) [.Name y py,.Call (.Attribute (.Name x px2) "pop" apos2) [e] [] cpos2] [] cpos3] [] cpos) none pos.line X.env=pure false:=by rfl) :
  PS3 X (.Expr (.Call (.Attribute (.Name x px) "extend" apos) [.Call (.Name f pf) [.Name y py,.Call (.Attribute (.Name x px2) "pop" apos2) [e] [] cpos2] [] cpos3] [] cpos) pos) (uExtC i j F u):=by
 obtain ⟨_,h1,r1⟩:=he
 refine ⟨_,ps_expr (pe_bm PySem.F.plainAttrs_list PySem.F.slot_list_extend PySem.F.type_list_extend mt_extendT (pe_var hN hv hd hcd) (pa_cons (pe_cal c hr hg (pa_cons (pe_var hN2 hv2 hd2 hcd2) (pa_cons (pe_bm PySem.F.plainAttrs_list PySem.F.slot_list_pop PySem.F.type_list_pop mt_popAt (pe_var hN hv hd hcd) (pa_cons h1 pa_nil hs3) hbase2 hfew2 hline2 hs3 hplain2) pa_nil hs2) hs1) hjk hdb hs1 hpl) pa_nil hs) hbase hfew hline hs hplain) hsw,fun U ρ h R W B H σ D e s=>?_⟩
 obtain ⟨ds,ho,hb,h⟩:=h
 obtain ⟨a,vs,e1,e2,e3,e4,e5⟩:=e.ownAt ho
 obtain ⟨b,b1,b2⟩:=e.bagAt hb
 refine ⟨_,e1,.inl ⟨rfl,vs,SqL.of e4⟩,?_⟩
 refine ⟨_,b1,?_⟩
 refine ⟨_,e1,.inl ⟨rfl,vs,SqL.of e4⟩,?_⟩
 refine r1 ρ _ h R W B H σ _ e fun d v B1 H1 z1 f1 g1 s1=>?_
 obtain ⟨n,z,rfl,hn,hz,hF⟩:=z1
 obtain ⟨a',vs',k1,k2,k3,k4,k5⟩:=f1.ownAt ho
 rw [e1] at k1; cases k1
 obtain ⟨w,hw,rw'⟩:=k5.get hz
 have hlt:n < vs'.length:=by
  rcases Nat.lt_or_ge n vs'.length with q | q
  ·exact q
  ·rw [List.getElem?_eq_none q] at hw; cases hw
 cases s1
 refine ⟨a,vs',n,n,w,rfl,rfl,k4,by omega,by omega,?_,hw,?_⟩
 ·rw [seqIndex_of (by omega) (by omega)]; rfl
 have f2:=f1.write e1 ho (k5.eraseIdx n)
 have ij:i≠j:=fun q=>by rw [q,hb] at ho; cases ho
 have hi:i < ρ.length:=by
  rcases Nat.lt_or_ge i ρ.length with q | q
  ·exact q
  ·rw [List.getElem?_eq_none q] at ho; cases ho
 have hb':(ρ.set i (.own (ds.eraseIdx n)))[j]?=some .bag:=by rw [List.getElem?_set_ne ij]; exact hb
 refine call_ok (E:=E0) (as:=[.bag j,.val z]) f2 (.bag b1 hb' (.val rw' .nil)) rfl hF fun r v B2 H2 hk f3 g3 res=>?_
 obtain ⟨es,rfl,hl,zz⟩:=hk
 obtain ⟨p,ws,rfl,hp,wt⟩:=Rep.tupV res
 have ho2:(ρ.set i (.own (ds.eraseIdx n)))[i]?=some (.own (ds.eraseIdx n)):=List.getElem?_set_self hi
 obtain ⟨a',vs2,k1',k2',k3',k4',k5'⟩:=f3.ownAt ho2
 rw [e1] at k1'; cases k1'
 have f4:=f3.write e1 ho2 (k5'.append wt)
 rw [List.set_set] at f4
 refine ⟨a,p,vs2,ws,rfl,rfl,k4',f3.bh _ _ hp,?_,s.nx _ _ B2 _ zz f4 (g1.trans g3)⟩
 rw [k5'.length,wt.length]
 have:=len_erase ds n
 omega
end L3
namespace Cut
open PySem L2 L3
open PySem.Builtin.Int (intBits)
theorem btP_btw {p q:P3} {t:Int} (hp:0 < p.2.2) (hq:0 < q.2.2) (t1:1≤t) (t2:t≤2):Btw p q (btP p q t):=by
 have n0:0 < p.2.2 * q.2.2 * 3:=Int.mul_pos (Int.mul_pos hp hq) (by decide)
 obtain ⟨g,g0,hg⟩:=nP_sc (p:=(p.1 * q.2.2 * (3 - t) + q.1 * p.2.2 * t,p.2.1 * q.2.2 * (3 - t) + q.2.1 * p.2.2 * t,p.2.2 * q.2.2 * 3)) (Int.ne_of_gt n0)
 have pt:=(nP_pt (p:=(p.1 * q.2.2 * (3 - t) + q.1 * p.2.2 * t,p.2.1 * q.2.2 * (3 - t) + q.2.1 * p.2.2 * t,p.2.2 * q.2.2 * 3)) (Int.ne_of_gt n0)).1
 have e3:p.2.2 * q.2.2 * 3=g * (btP p q t).2.2:=congrArg (·.2.2) hg
 have gp:0 < g:=by
  rcases Int.lt_or_le 0 g with h | h
  ·exact h
  ·have:g * (btP p q t).2.2≤0:=Int.mul_nonpos_of_nonpos_of_nonneg h (Int.le_of_lt pt)
   omega
 refine ⟨g,q.2.2 * (3 - t),p.2.2 * t,gp,Int.mul_pos hq (by omega),Int.mul_pos hp (by omega),?_⟩
 show sc g (btP p q t)=_
 rw [show sc g (btP p q t)=_ from hg.symm]
 refine p3_ext ?_ ?_ ?_ <;> simp only [lc] <;> grind
theorem btP_gp {m:Nat} {p q:P3} {t:Int} (hp:GP m p) (hq:GP m q) (t1:1≤t) (t2:t≤2):GP (2 * m + 3) (btP p q t):=by
 have n0:0 < p.2.2 * q.2.2 * 3:=Int.mul_pos (Int.mul_pos hp.pt.1 hq.pt.1) (by decide)
 have b1:intBits (3 - t)≤2:=intBits_le_iff.mpr (by have e:(2:Nat) ^ 2=4:=rfl; rw [e]; omega)
 have b2:intBits t≤2:=intBits_le_iff.mpr (by have e:(2:Nat) ^ 2=4:=rfl; rw [e]; omega)
 refine ⟨nP_pt (p:=(p.1 * q.2.2 * (3 - t) + q.1 * p.2.2 * t,p.2.1 * q.2.2 * (3 - t) + q.2.1 * p.2.2 * t,p.2.2 * q.2.2 * 3)) (Int.ne_of_gt n0),BP.nP (p:=(p.1 * q.2.2 * (3 - t) + q.1 * p.2.2 * t,p.2.1 * q.2.2 * (3 - t) + q.2.1 * p.2.2 * t,p.2.2 * q.2.2 * 3)) ⟨?_,?_,?_⟩ (Int.ne_of_gt n0)⟩
 ·exact Nat.le_trans (intBits_add_le (intBits_mul_le (intBits_mul_le hp.bp.a hq.bp.c) b1) (intBits_mul_le (intBits_mul_le hq.bp.a hp.bp.c) b2)) (by omega)
 ·exact Nat.le_trans (intBits_add_le (intBits_mul_le (intBits_mul_le hp.bp.b hq.bp.c) b1) (intBits_mul_le (intBits_mul_le hq.bp.b hp.bp.c) b2)) (by omega)
 ·exact Nat.le_trans (intBits_mul_le (intBits_mul_le hp.bp.c hq.bp.c) (show intBits 3≤2 by decide)) (by omega)
theorem T0.half {B D:List P3} {a b c d m n:P3} (h:T0 (b :: B ++ (d :: D))) (hl:3≤(b :: B).length + (d :: D).length) (ea:lz b B=a) (ec:lz d D=c) (hm:Btw c b m) (hn:Btw a d n):T0 (m :: (b :: B) ++ [n]):=by
 obtain ⟨X,eX⟩:∃ X,b :: B=X ++ [a]:=by
  obtain ⟨X,e⟩:=lz_split (z:=b) (r:=b :: B) (by simp)
  exact ⟨X,by rw [e]; show _=X ++ [a]; rw [← ea]; rfl⟩
 cases D with
 | nil =>
  have ec:d=c:=ec
  subst ec
  cases B with
  | nil=>simp at hl
  | cons b2 B =>
   have ea:lz b2 B=a:=ea
   obtain ⟨Y,eY⟩:∃ Y,b2 :: B=Y ++ [a]:=by
    obtain ⟨Y,e⟩:=lz_split (z:=b2) (r:=b2 :: B) (by simp)
    exact ⟨Y,by rw [e]; show _=Y ++ [a]; rw [← ea]; rfl⟩
   rw [eY] at h ⊢
   have h1:T0 ((b :: (Y ++ [a])) ++ [d]):=h
   have h2:T0 (Y ++ a :: d :: b :: []):=by
    have:=T0.turn (xs:=[b]) (ys:=(Y ++ [a]) ++ [d]) h1
    simpa using this
   have h3:=T0.off h2 hn hm
   have h4:T0 ((Y ++ [a,n]) ++ [m,b]):=by simpa using h3
   have h5:=T0.turn h4
   simpa using h5
 | cons d2 D =>
  have ec:lz d2 D=c:=ec
  obtain ⟨Y,eY⟩:∃ Y,d2 :: D=Y ++ [c]:=by
   obtain ⟨Y,e⟩:=lz_split (z:=d2) (r:=d2 :: D) (by simp)
   exact ⟨Y,by rw [e]; show _=Y ++ [c]; rw [← ec]; rfl⟩
  have h1:T0 ((b :: B) ++ [d,c]):=by
   refine T0.sub ?_ h
   refine List.Sublist.append (List.Sublist.refl _) (List.Sublist.cons_cons _ ?_)
   rw [eY]
   exact List.sublist_append_right _ _
  rw [eX] at h1
  have h2:T0 (X ++ a :: d :: [c]):=by simpa using h1
  have h3:=T0.back h2 hn
  have h4:T0 ((b :: B) ++ ([n] ++ [c])):=by rw [eX]; simpa using h3
  have h5:T0 ([c] ++ ((b :: B) ++ [n])):=T0.turn (ys:=[c]) (xs:=(b :: B) ++ [n]) (by simpa using h4)
  have h6:T0 ([] ++ c :: b :: (B ++ [n])):=by simpa using h5
  have h7:=T0.on h6 hm
  simpa using h7
theorem sG_sw (φ:List (List Int)→Int) {p q:P3} (hp:PtP p) (hq:PtP q):sG φ p q + sG φ q p=0:=by
 unfold sG kE
 rw [lnK_swap hp hq]
 grind
theorem sG_btw (φ:List (List Int)→Int) {p q m:P3} (hp:PtP p) (hq:PtP q) (h:p≠q) (b:Btw p q m):sG φ p m + sG φ m q=sG φ p q:=by
 obtain ⟨e1,e2⟩:=lnK_btw hp hq h b
 unfold sG kE
 rw [e1,e2]
 grind
theorem half_sum (φ:List (List Int)→Int) {B D:List P3} {a b c d m n:P3} (ea:lz b B=a) (ec:lz d D=c) (hm:Btw c b m) (hn:Btw a d n) (pa:PtP a) (pb:PtP b) (pc:PtP c) (pd:PtP d) (pm:PtP m) (pn:PtP n) (h1:c≠b) (h2:a≠d) :
  sR φ (m :: (b :: B) ++ [n]) + sR φ (n :: (d :: D) ++ [m])=sR φ (b :: B ++ (d :: D)):=by
 have e1:eds (m :: (b :: B) ++ [n])=(n,m) :: (m,b) :: (prZ b B ++ [(a,n)]):=by
  unfold eds
  rw [show lz (0,0,1) (m :: (b :: B) ++ [n])=n from by rw [lz_app]; rfl]
  show (n,m) :: (m,b) :: prZ b (B ++ [n])=_
  rw [prZ_app,ea]; rfl
 have e2:eds (n :: (d :: D) ++ [m])=(m,n) :: (n,d) :: (prZ d D ++ [(c,m)]):=by
  unfold eds
  rw [show lz (0,0,1) (n :: (d :: D) ++ [m])=m from by rw [lz_app]; rfl]
  show (m,n) :: (n,d) :: prZ d (D ++ [m])=_
  rw [prZ_app,ec]; rfl
 have e3:eds (b :: B ++ (d :: D))=(c,b) :: (prZ b B ++ ((a,d) :: prZ d D)):=by
  unfold eds
  rw [show lz (0,0,1) (b :: B ++ (d :: D))=c from by rw [lz_app]; exact ec]
  show (c,b) :: prZ b (B ++ (d :: D))=_
  rw [prZ_app,ea]; rfl
 unfold sR
 rw [e1,e2,e3]
 simp only [sumT_cons,sumT_app,sumT_nil]
 have k1:=sG_sw φ pn pm
 have k2:=sG_btw φ pc pb h1 hm
 have k3:=sG_btw φ pa pd h2 hn
 grind
theorem sR_turn (φ:List (List Int)→Int):∀ A B:List P3,sR φ (A ++ B)=sR φ (B ++ A)
 | [],B=>by rw [List.append_nil]; rfl
 | a :: A,B=>by
  have h:=sR_turn φ A (B ++ [a])
  rw [show a :: A ++ B=a :: (A ++ B) from rfl,← sR_rot,List.append_assoc,h,List.append_assoc]
  rfl
def cuA (ps:List P3) (i j:Nat) (p q:P3):List P3:=[p] ++ (ps.drop (i + 1)).take (j - i) ++ [q]
def cuB (ps:List P3) (i j:Nat) (p q:P3):List P3:=[q] ++ ps.drop (j + 1) ++ ps.take (i + 1) ++ [p]
theorem nth_drop {ps:List P3} {i:Nat} (h:i < ps.length):ps.drop i=nth ps i :: ps.drop (i + 1):=by
 rw [List.drop_eq_getElem_cons h,nth_eq h]
structure CutOk (m n:Nat) (ps qs rs:List P3):Prop where
 a:Cvx qs
 b:Cvx rs
 la:qs.length≤n
 lb:rs.length≤n
 pa:∀ x∈qs,GP m x
 pb:∀ x∈rs,GP m x
 bal:∀ φ,sR φ qs + sR φ rs=sR φ ps
theorem cut_ok {m:Nat} {ps:List P3} {i j:Nat} {t u:Int} (cv:Cvx ps) (hp:∀ x∈ps,GP m x) (hij:i < j) (hj:j < ps.length) (t1:1≤t) (t2:t≤2) (u1:1≤u) (u2:u≤2) :
  CutOk (2 * m + 3) (ps.length + 1) ps (cuA ps i j (btP (nth ps i) (nth ps (i + 1)) t) (btP (nth ps j) (nth ps ((j + 1) % ps.length)) u)) (cuB ps i j (btP (nth ps i) (nth ps (i + 1)) t) (btP (nth ps j) (nth ps ((j + 1) % ps.length)) u)):=by
 have l3:=cv.1
 have k2:(j + 1) % ps.length < ps.length:=Nat.mod_lt _ (by omega)
 have gi:=hp _ (nth_mem (show i < ps.length by omega))
 have gi1:=hp _ (nth_mem (show i + 1 < ps.length by omega))
 have gj:=hp _ (nth_mem hj)
 have gj1:=hp _ (nth_mem k2)
 have bm:=btP_btw gi.pt.1 gi1.pt.1 t1 t2
 have bn:=btP_btw gj.pt.1 gj1.pt.1 u1 u2
 have gm:=btP_gp gi gi1 t1 t2
 have gn:=btP_gp gj gj1 u1 u2
 generalize btP (nth ps i) (nth ps (i + 1)) t=M at bm gm ⊢
 generalize btP (nth ps j) (nth ps ((j + 1) % ps.length)) u=N at bn gn ⊢
 obtain ⟨B,eB⟩:∃ B,(ps.drop (i + 1)).take (j - i)=nth ps (i + 1) :: B:=by
  rw [nth_drop (show i + 1 < ps.length by omega),show j - i=(j - i - 1) + 1 by omega,List.take_succ_cons]
  exact ⟨_,rfl⟩
 have lenB:(nth ps (i + 1) :: B).length=j - i:=by rw [← eB,List.length_take,List.length_drop]; omega
 have lastB:lz (nth ps (i + 1)) B=nth ps j:=by
  have:=lz_nth (nth ps (i + 1)) (nth ps (i + 1) :: B) (by simp)
  rw [show lz (nth ps (i + 1)) (nth ps (i + 1) :: B)=lz (nth ps (i + 1)) B from rfl] at this
  rw [this,lenB,← eB]
  have hx:j - i - 1 < ((ps.drop (i + 1)).take (j - i)).length:=by rw [List.length_take,List.length_drop]; omega
  rw [nth_eq hx,nth_eq hj,List.getElem_take,List.getElem_drop]
  congr 1
  omega
 obtain ⟨D,eD⟩:∃ D,ps.drop (j + 1) ++ ps.take (i + 1)=nth ps ((j + 1) % ps.length) :: D:=by
  by_cases z:j + 1 < ps.length
  ·rw [Nat.mod_eq_of_lt z,nth_drop z]
   exact ⟨_,rfl⟩
  ·have e:j + 1=ps.length:=by omega
   rw [e,Nat.mod_self,List.drop_length,List.nil_append]
   have:=nth_drop (show 0 < ps.length by omega)
   rw [List.drop_zero] at this
   rw [this,List.take_succ_cons]
   exact ⟨_,rfl⟩
 have lenD:(nth ps ((j + 1) % ps.length) :: D).length=ps.length - (j - i):=by rw [← eD,List.length_append,List.length_take,List.length_drop]; omega
 have lastD:lz (nth ps ((j + 1) % ps.length)) D=nth ps i:=by
  have e0:lz (nth ps ((j + 1) % ps.length)) D=lz (0,0,1) (nth ps ((j + 1) % ps.length) :: D):=rfl
  have ht:ps.take (i + 1)≠[]:=fun z=>by have:=congrArg List.length z; rw [List.length_take,List.length_nil] at this; omega
  rw [e0,← eD,lz_app,lz_nth _ _ ht]
  have hx:(ps.take (i + 1)).length - 1 < (ps.take (i + 1)).length:=by rw [List.length_take]; omega
  rw [nth_eq hx,nth_eq (show i < ps.length by omega),List.getElem_take]
  congr 1
  rw [List.length_take]
  omega
 have whole:ps=ps.take (i + 1) ++ ((ps.drop (i + 1)).take (j - i) ++ ps.drop (j + 1)):=by
  conv=>lhs; rw [← List.take_append_drop (i + 1) ps]
  congr 1
  conv=>lhs; rw [← List.take_append_drop (j - i) (ps.drop (i + 1))]
  rw [List.drop_drop]
  congr 2
  omega
 have t0:T0 ps:=(t0_iff ps).mpr cv.tri
 have tB:T0 (nth ps (i + 1) :: B ++ (nth ps ((j + 1) % ps.length) :: D)):=by
  rw [← eB,← eD,← List.append_assoc]
  refine T0.turn (xs:=ps.take (i + 1)) ?_
  rw [whole] at t0
  exact t0
 have hl:3≤(nth ps (i + 1) :: B).length + (nth ps ((j + 1) % ps.length) :: D).length:=by rw [lenB,lenD]; omega
 have a1:=T0.half tB hl lastB lastD bm bn
 have a2:=T0.half (T0.turn tB) (by omega) lastD lastB bn bm
 have eA:cuA ps i j M N=M :: (nth ps (i + 1) :: B) ++ [N]:=by unfold cuA; rw [eB]; rfl
 have eC:cuB ps i j M N=N :: (nth ps ((j + 1) % ps.length) :: D) ++ [M]:=by unfold cuB; rw [List.append_assoc [N],eD]; rfl
 have big:∀ x∈ps,GP (2 * m + 3) x:=fun x h=>(hp x h).mono (by omega)
 have subA:∀ x∈nth ps (i + 1) :: B,x∈ps:=fun x h=>by rw [← eB] at h; exact List.mem_of_mem_drop (List.mem_of_mem_take h)
 have subD:∀ x∈nth ps ((j + 1) % ps.length) :: D,x∈ps:=fun x h=>by
  rw [← eD] at h
  rcases List.mem_append.mp h with h | h
  ·exact List.mem_of_mem_drop h
  ·exact List.mem_of_mem_take h
 have n1:nth ps i≠nth ps (i + 1):=cv.side (by
  rw [eds_range]
  refine List.mem_map.mpr ⟨i + 1,List.mem_range.mpr (by omega),?_⟩
  rw [show i + 1 + ps.length - 1=i + ps.length by omega,Nat.add_mod_right,Nat.mod_eq_of_lt (by omega)])
 have n2:nth ps j≠nth ps ((j + 1) % ps.length):=cv.side (by
  rw [eds_range]
  refine List.mem_map.mpr ⟨(j + 1) % ps.length,List.mem_range.mpr k2,?_⟩
  congr 1
  by_cases z:j + 1 < ps.length
  ·rw [Nat.mod_eq_of_lt z,show j + 1 + ps.length - 1=j + ps.length by omega,Nat.add_mod_right,Nat.mod_eq_of_lt hj]
  ·rw [show j + 1=ps.length by omega,Nat.mod_self,Nat.zero_add,Nat.mod_eq_of_lt (by omega)]
   congr 1
   omega)
 refine ⟨?_,?_,?_,?_,?_,?_,fun φ=>?_⟩
 ·rw [eA]
  refine Tri.cvx ?_ ((t0_iff _).mp a1)
  first | (simp; done) | (simp; omega)
 ·rw [eC]
  refine Tri.cvx ?_ ((t0_iff _).mp a2)
  first | (simp; done) | (simp; omega)
 ·rw [eA,List.cons_append,List.length_cons,List.length_append,lenB]
  first | (simp; done) | (simp; omega)
 ·rw [eC,List.cons_append,List.length_cons,List.length_append,lenD]
  first | (simp; done) | (simp; omega)
 ·rw [eA]
  intro x hx
  rcases List.mem_append.mp hx with hx | hx
  ·rcases List.mem_cons.mp hx with rfl | hx
   ·exact gm
   ·exact big x (subA x hx)
  ·rw [List.mem_singleton.mp hx]; exact gn
 ·rw [eC]
  intro x hx
  rcases List.mem_append.mp hx with hx | hx
  ·rcases List.mem_cons.mp hx with rfl | hx
   ·exact gn
   ·exact big x (subD x hx)
  ·rw [List.mem_singleton.mp hx]; exact gm
 ·rw [eA,eC,half_sum φ lastB lastD bm bn gj.pt gi1.pt gi.pt gj1.pt gm.pt gn.pt n1 n2,← eB,← eD,← List.append_assoc,← sR_turn φ (ps.take (i + 1))]
  rw [← whole]
end Cut
namespace Cut
theorem sort2 {ns:List Int} {x y:Int} (h:ns.Perm [x,y]) (s:ns.Pairwise (· ≤ ·)):(ns=[x,y]∧x≤y)∨(ns=[y,x]∧y≤x):=by
 match ns,h.length_eq with
 | [a,b],_ =>
  have hab:a≤b:=by simpa using s
  have ha:a∈[x,y]:=h.mem_iff.mp (by simp)
  have hb:b∈[x,y]:=h.mem_iff.mp (by simp)
  have hx:x∈[a,b]:=h.mem_iff.mpr (by simp)
  have hy:y∈[a,b]:=h.mem_iff.mpr (by simp)
  simp at ha hb hx hy
  rcases ha with rfl | rfl
  ·have:b=y:=by omega
   subst this
   exact .inl ⟨rfl,hab⟩
  ·have:b=x:=by omega
   subst this
   exact .inr ⟨rfl,hab⟩
end Cut
namespace Cut
theorem two_of {ns:List Int} {a b:Int} {n:Nat} (a0:0≤a) (a1:a < n) (b0:0≤b) (b1:b < (n:Int) - 1) (pm:ns.Perm [a,b + if decide (a≤b)=true then 1 else 0]) (sd:ns.Pairwise (· ≤ ·)):∃ I J:Nat,ns=[(I:Int),(J:Int)]∧I < J∧J < n:=by
 obtain ⟨c,hc,c1,c2,c3⟩:∃ c:Int,(b + if decide (a≤b)=true then 1 else 0)=c∧a≠c∧0≤c∧c < n:=by
  by_cases h:a≤b
  ·rw [decide_eq_true h,if_pos rfl]; exact ⟨b + 1,rfl,by omega,by omega,by omega⟩
  ·rw [decide_eq_false h,if_neg Bool.false_ne_true]; exact ⟨b + 0,rfl,by omega,by omega,by omega⟩
 rw [hc] at pm
 rcases sort2 pm sd with ⟨rfl,l⟩ | ⟨rfl,l⟩
 ·exact ⟨a.toNat,c.toNat,by rw [Int.toNat_of_nonneg a0,Int.toNat_of_nonneg c2],by omega,by omega⟩
 ·exact ⟨c.toNat,a.toNat,by rw [Int.toNat_of_nonneg a0,Int.toNat_of_nonneg c2],by omega,by omega⟩
end Cut
namespace Cut
open PySem L2 L3
theorem cutL_mid {α:Type} {xs:List α} {i j:Nat} (h:i≤j) (h2:j≤xs.length):cutL xs (some ((i:Nat):Int)) (some ((j:Nat):Int))=(xs.drop i).take (j - i):=by
 have e1:HT.sIx xs.length 0 (some ((i:Nat):Int))=i:=by
  unfold HT.sIx
  first | omega | (simp only []; split <;> omega) | (split <;> omega) | (dsimp only; split <;> (try split) <;> omega)
 have e2:HT.sIx xs.length xs.length (some ((j:Nat):Int))=j:=by
  unfold HT.sIx
  first | omega | (simp only []; split <;> omega) | (split <;> omega) | (dsimp only; split <;> (try split) <;> omega)
 unfold cutL
 rw [e1,e2]
theorem cuA_D {ps:List P3} {i j:Nat} {p q:P3} (h:i < j) (h2:j < ps.length):dH (cuA ps i j p q)=.lst ([dP p] ++ cutL (ps.map dP) (some ((i:Int) + 1)) (some ((j:Int) + 1)) ++ [dP q]):=by
 have e:=cutL_mid (xs:=ps) (i:=i + 1) (j:=j + 1) (by omega) (by omega)
 rw [show ((i:Int) + 1)=((i + 1:Nat):Int) by omega,show ((j:Int) + 1)=((j + 1:Nat):Int) by omega,cutL_map,e,show j + 1 - (i + 1)=j - i by omega]
 show D.lst ((cuA ps i j p q).map dP)=_
 unfold cuA
 rw [List.map_append,List.map_append]
 rfl
theorem cuB_D {ps:List P3} {i j:Nat} {p q:P3} (h:i < j) (h2:j < ps.length):dH (cuB ps i j p q)=.lst ([dP q] ++ cutL (ps.map dP) (some ((j:Int) + 1)) none ++ cutL (ps.map dP) none (some ((i:Int) + 1)) ++ [dP p]):=by
 have e1:=cutL_drop (xs:=ps) (i:=(j:Int) + 1) (by omega) (by omega)
 have e2:=cutL_take (xs:=ps) (i:=(i:Int) + 1) (by omega) (by omega)
 rw [cutL_map,cutL_map,e1,e2,show ((j:Int) + 1).toNat=j + 1 by omega,show ((i:Int) + 1).toNat=i + 1 by omega]
 show D.lst ((cuB ps i j p q).map dP)=_
 unfold cuB
 rw [List.map_append,List.map_append,List.map_append]
 rfl
end Cut
namespace Cut
open PySem L2 L3
def gm:Nat→Nat
 | 0=>70
 | s + 1=>2 * gm s + 3
structure PartsOk (ps:List P3) (s:Nat) (rs:List (List P3)):Prop where
 ln:rs.length=s + 1
 cv:∀ r∈rs,Cvx r
 le:∀ r∈rs,r.length≤3 + s
 gp:∀ r∈rs,∀ p∈r,GP (gm s) p
 bal:∀ φ,sRs φ rs=sR φ ps
theorem parts_start {ps:List P3} (cv:Cvx ps) (hp:∀ p∈ps,GP 70 p) (hl:ps.length≤3):PartsOk ps 0 [ps] :=
 ⟨rfl,fun r hr=>by rw [List.mem_singleton.mp hr]; exact cv,fun r hr=>by rw [List.mem_singleton.mp hr]; exact hl,fun r hr=>by rw [List.mem_singleton.mp hr]; exact hp,fun φ=>sRs_one φ ps⟩
theorem sRs_erase (φ:List (List Int)→Int):∀ {rs:List (List P3)} {n:Nat} {r:List P3},rs[n]?=some r→sRs φ (rs.eraseIdx n) + sR φ r=sRs φ rs
 | [],_,_,h=>by simp at h
 | q :: rs,0,r,h=>by
  have e:q=r:=by simpa using h
  subst e
  rw [List.eraseIdx_cons_zero,sRs_cons]
  grind
 | q :: rs,n + 1,r,h=>by
  have:=sRs_erase φ (rs:=rs) (n:=n) (r:=r) (by simpa using h)
  rw [List.eraseIdx_cons_succ,sRs_cons,sRs_cons]
  grind
theorem gm_mono (s:Nat):gm s≤gm (s + 1):=by show gm s≤2 * gm s + 3; omega
theorem PartsOk.step {ps qs us:List P3} {s n:Nat} {rs:List (List P3)} {r:List P3} (h:PartsOk ps s rs) (hn:rs[n]?=some r) (ok:CutOk (2 * gm s + 3) (r.length + 1) r qs us):PartsOk ps (s + 1) (rs.eraseIdx n ++ [qs,us]):=by
 have hm:r∈rs:=List.mem_of_getElem? hn
 have hlt:n < rs.length:=by
  rcases Nat.lt_or_ge n rs.length with q | q
  ·exact q
  ·rw [List.getElem?_eq_none q] at hn; cases hn
 have lr:=h.le r hm
 have mem:∀ {P:List P3→Prop},(∀ x∈rs,P x)→P qs→P us→∀ x∈rs.eraseIdx n ++ [qs,us],P x:=fun a b c x hx=>by
  rcases List.mem_append.mp hx with hx | hx
  ·exact a x (List.mem_of_mem_eraseIdx hx)
  ·simp at hx
   rcases hx with rfl | rfl
   ·exact b
   ·exact c
 refine ⟨?_,mem h.cv ok.a ok.b,mem (fun x hx=>Nat.le_succ_of_le (h.le x hx)) (Nat.le_trans ok.la (by omega)) (Nat.le_trans ok.lb (by omega)),mem (fun x hx p hp=>(h.gp x hx p hp).mono (gm_mono s)) ok.pa ok.pb,fun φ=>?_⟩
 ·rw [List.length_append,List.length_eraseIdx_of_lt hlt,h.ln]; show _ + 2=_; have:=h.ln; omega
 ·have e:=sRs_erase φ hn
  have b:=ok.bal φ
  have t:=h.bal φ
  rw [sRs_app,sRs_cons,sRs_one]
  grind
theorem gm_600 {s:Nat} (h:s≤3):gm s≤600:=by
 match s,h with
 | 0,_=>decide
 | 1,_=>decide
 | 2,_=>decide
 | 3,_=>decide
theorem gm_289 {s:Nat} (h:s < 3):gm s≤700:=by
 match s,h with
 | 0,_=>decide
 | 1,_=>decide
 | 2,_=>decide
theorem PartsOk.sheet {ps:List P3} {s:Nat} {sh:List Piece} (h:PartsOk ps s (sh.map fun t=>t.1)) (hs:s≤3) (st:∀ t∈sh,GP 700 t.2.2):(∀ t∈sh,GL 600 6 t)∧sh.length≤4∧Bal (sh.map fun t=>t.1) [ps]:=by
 refine ⟨fun t ht=>?_,?_,fun φ=>by rw [h.bal φ,sRs_one]⟩
 ·have hm:t.1∈sh.map fun t=>t.1:=List.mem_map.mpr ⟨t,ht,rfl⟩
  exact ⟨fun p hp=>(h.gp _ hm p hp).mono (gm_600 hs),h.cv _ hm,Nat.le_trans (h.le _ hm) (by omega),st t ht⟩
 ·have:=h.ln
  rw [List.length_map] at this
  omega
end Cut
namespace Cut
open PySem L2 L3
open PySem.Builtin.Int (intBits)
theorem map_erase {α β:Type} (f:α→β):∀ (l:List α) (n:Nat),(l.map f).eraseIdx n=(l.eraseIdx n).map f
 | [],_=>rfl
 | _ :: _,0=>rfl
 | x :: l,n + 1=>by
  show f x :: (l.map f).eraseIdx n=f x :: (l.eraseIdx n).map f
  rw [map_erase f l n]
theorem gp_step {x y n:Int} (x0 : -40≤x) (x1:x≤40) (y0 : -40≤y) (y1:y≤40) (n0:0 < n) (n1:n≤3):GP 700 (npt x y n):=by
 have b:∀ z:Int,-40≤z→z≤40→intBits z≤700:=fun z z0 z1=>Nat.le_trans (intBits_le_iff.mpr (show z.natAbs < 2 ^ 6 by show z.natAbs < 64; omega)) (by decide)
 exact ⟨nP_pt (p:=(x,y,n)) (Int.ne_of_gt n0),BP.nP (p:=(x,y,n)) ⟨b x x0 x1,b y y0 y1,b n (by omega) (by omega)⟩ (Int.ne_of_gt n0)⟩
end Cut
namespace Cut
open PySem L2 L3
open PySem.Builtin.Int (intBits)
section
variable {s w pt:Int×Int}
theorem top4_115 {x y:Int×Int} (lx:Low x.1 x.2) (ly:Low y.1 y.2) (b1:intBits x.1≤47) (b2:intBits x.2≤47) (b3:intBits y.1≤68) (b4:intBits y.2≤68):GP 115 (top4 x y):=⟨nP_pt (p:=(x.1 * y.2,y.1 * x.2,x.2 * y.2)) (one_ne lx.1 ly.1),at_bits b1 b2 b3 b4 lx ly⟩
theorem steps115 (h:SpOk s w pt) (hi:Bool):GP 115 (stA s w pt hi)∧GP 115 (stB s w pt hi)∧GP 115 (stC s w pt hi):=by
 obtain ⟨r1,_,r3,r4⟩:=h.r
 obtain ⟨h1,_,h3,h4⟩:=h.h hi
 have ng:∀ {x y:Int},Low x y→Low (-x) y:=fun l=>⟨l.1,by rw [Int.neg_gcd]; exact l.2⟩
 have lN:Low 0 1:=⟨by decide,by decide⟩
 have k:∀ x y:Int×Int,(x=(0,1)∨x=(-(spR w pt).1,(spR w pt).2)∨x=(-pt.1,pt.2))→(y=(0,1)∨y=(-(spH s w pt hi).1,(spH s w pt hi).2))→GP 115 (top4 x y):=by
  intro x y hX hY
  have a:Low x.1 x.2∧intBits x.1≤47∧intBits x.2≤47:=by
   rcases hX with rfl | rfl | rfl
   ·exact ⟨lN,by show intBits 0≤47; decide,by show intBits 1≤47; decide⟩
   ·exact ⟨ng r1,intBits_neg_le r3,r4⟩
   ·exact ⟨ng h.lp,Nat.le_trans (intBits_neg_le h.c5) (by decide),Nat.le_trans h.c6 (by decide)⟩
  have b:Low y.1 y.2∧intBits y.1≤68∧intBits y.2≤68:=by
   rcases hY with rfl | rfl
   ·exact ⟨lN,by show intBits 0≤68; decide,by show intBits 1≤68; decide⟩
   ·exact ⟨ng h1,intBits_neg_le h3,h4⟩
  exact top4_115 a.1 b.1 a.2.1 a.2.2 b.2.1 b.2.2
 refine ⟨?_,?_,?_⟩
 ·unfold stA; exact k _ _ (by split <;> simp) (by split <;> simp)
 ·unfold stB; exact k _ _ (by split <;> simp) (by split <;> simp)
 ·unfold stC; exact k _ _ (by split <;> simp) (by split <;> simp)
theorem corn70 (ls:Low s.1 s.2) (lw:Low w.1 w.2) (s0:s.1≠0) (w0:0 < w.1) (c1:intBits s.1≤21) (c2:intBits s.2≤21) (c3:intBits w.1≤21) (c4:intBits w.2≤21) (hi:Bool):Cvx (cornP s hi w)∧(∀ p∈cornP s hi w,GP 70 p)∧(cornP s hi w).length≤3:=by
 have b:=hgt_bx ls lw s0 w0
 obtain ⟨_,_,q1,q2⟩:=nrat_spec (t:=(if s.1 < 0 then -s.1 else s.1) * w.1) (b:=s.2 * w.2) (one_ne ls.1 lw.1)
 have ca:intBits (if s.1 < 0 then -s.1 else s.1)≤21:=by
  split
  ·exact intBits_neg_le c1
  ·exact c1
 have b3:intBits (hgt s w).1≤42:=bits_of_abs q1 (intBits_mul_le ca c3)
 have b4:intBits (hgt s w).2≤42:=bits_of_abs q2 (intBits_mul_le c2 c4)
 have m:∀ {x:Int},intBits x≤21→intBits x≤70:=fun h=>Nat.le_trans h (by decide)
 have m2:∀ {x:Int},intBits x≤42→intBits x≤70:=fun h=>Nat.le_trans h (by decide)
 have z:intBits 0≤70:=by decide
 have n0:w.2 * (hgt s w).2≠0:=one_ne b.lw.1 b.lh.1
 have g0:GP 70 (0,0,1):=⟨⟨(show (0:Int) < 1 by decide),(show Int.gcd (Int.gcd 0 0:Nat) 1=1 by decide)⟩,z,z,(show intBits 1≤70 by decide)⟩
 have g1:GP 70 (w.1,0,w.2):=⟨pt_x b.lw,m c3,z,m c4⟩
 have g2:GP 70 (top4 w (hgt s w)):=⟨b.top.1,(at_bits c3 c4 b3 b4 b.lw b.lh).mono (by decide)⟩
 have g3:GP 70 (0,(hgt s w).1,(hgt s w).2):=⟨pt_y b.lh,z,m2 b3,m2 b4⟩
 refine ⟨corn_cvx b hi,fun p hp=>?_,Nat.le_of_eq (corn_len hi)⟩
 unfold cornP at hp
 split at hp <;> split at hp <;> (simp only [List.mem_cons,List.not_mem_nil,or_false] at hp; rcases hp with rfl | rfl | rfl <;> assumption)
theorem corn_rg {x:Int×Int} (ls:Low s.1 s.2) (s0:s.1≠0) (c1:intBits s.1≤21) (c2:intBits s.2≤21) (lx:Low x.1 x.2) (x0:0 < x.1) (b1:intBits x.1≤47) (b2:intBits x.2≤47) (hi:Bool):RgT (cornP s hi x):=by
 obtain ⟨_,_,h3,h4⟩:=hgt_ok ls s0 c1 c2 lx x0 b1 b2
 have b:=hgt_bx ls lx s0 x0
 exact cvx_rg (corn_cvx b hi) (fun p hp=>(b.cornG hi (Nat.le_trans b1 (by decide)) (Nat.le_trans b2 (by decide)) (Nat.le_trans h3 (by decide)) (Nat.le_trans h4 (by decide)) p hp).mono (by decide)) (by rw [corn_len]; decide)
theorem sl_pct {g:P3} {t:Piece} (hg:GP 115 g) (h:GL 2770 24 t):PcT (slS g t):=by
 refine ⟨?_,h.cv.sl hg.pt fun p hp=>(h.ps p hp).pt,fun p hp=>?_,(hg.sl h.st).mono (by decide)⟩
 ·show (t.1.map _).length≤24
  rw [List.length_map]; exact h.ln
 ·obtain ⟨q,hq,rfl⟩:=List.mem_map.mp hp
  exact (hg.sl (h.ps q hq)).mono (by decide)
theorem GL.pct {t:Piece} (h:GL 600 6 t):PcT t:=⟨Nat.le_trans h.ln (by decide),h.cv,fun p hp=>(h.ps p hp).mono (by decide),h.st.mono (by decide)⟩
theorem told_ok (hx:SpOk s w pt) (hi:Bool) {sh:List Piece} (hs:∀ x∈sh,GL 600 6 x):((∀ t∈spA s w pt hi sh,PcT t)∧(spA s w pt hi sh).length≤sh.length)∧((∀ t∈spB s w pt hi sh,PcT t)∧(spB s w pt hi sh).length≤sh.length)∧((∀ t∈spC s w pt hi sh,PcT t)∧(spC s w pt hi sh).length≤sh.length):=by
 have g1:=fun c=>cL_gl hx hi c hs
 have g2:=fun c d=>cV_gl hx hi c (g1 d)
 refine ⟨⟨fun t ht=>?_,?_⟩,⟨fun t ht=>?_,?_⟩,⟨fun t ht=>?_,?_⟩⟩
 ·obtain ⟨q,hq,rfl⟩:=List.mem_map.mp ht
  exact sl_pct (steps115 hx hi).1 ((g1 _ q hq).mono (by decide) (by decide))
 ·unfold spA; rw [List.length_map]; exact cL_len _ _ _
 ·obtain ⟨q,hq,rfl⟩:=List.mem_map.mp ht
  exact sl_pct (steps115 hx hi).2.1 (g2 _ _ q hq)
 ·unfold spB; rw [List.length_map]; exact Nat.le_trans (cV_len _ _ _) (cL_len _ _ _)
 ·obtain ⟨q,hq,rfl⟩:=List.mem_map.mp ht
  exact sl_pct (steps115 hx hi).2.2 (g2 _ _ q hq)
 ·unfold spC; rw [List.length_map]; exact Nat.le_trans (cV_len _ _ _) (cL_len _ _ _)
end
end Cut
namespace L3
open PySem L2
section
variable {K:PySem.W.Frag} {X:Cx} {i:Nat} {rest:List Stmt}
theorem atI_two {α:Type} {x y z:α} {r:List α}:atI (x :: y :: z :: r) 2=some z:=by
 simp [atI,ixN]
 rw [if_pos (by omega)]
 rfl
def isSplit (d:D):Prop:=∃ a x y z c,d=.tup [.lst a,x,.tup [y,z,.lst c]]
def zSplit (i:Nat) (ur:US):UEnds→List Sl→D→List Sl→Prop:=fun U ρ d _=>isSplit d∧ur U (ρ.set i .no)
theorem z_split {x:Str} {px pc ps apos cpos pe px' pc' ps' pc2 ps2 apos' cpos' pe':Pos} {k0 k1 k2:Nat} {ur:US} (hi:X.N[i]?=some x) (hx:Vis X.env.scope x) (hr:PSs3 X rest ur)
  (hdx:(x == ("__debug__" : Str))=false:=by decide) (hcx:(x == ("__classdict__" : Str))=false:=by decide)
  (hb1:attributeBase (.Subscript (.Name x px) (.Constant (.int 0) k0 pc) ps) "clear" X.env (eval (.Subscript (.Name x px) (.Constant (.int 0) k0 pc) ps) X.env)=eval (.Subscript (.Name x px) (.Constant (.int 0) k0 pc) ps) X.env:=by rfl) (hl1:(apos.endLine == cpos.line)=true:=by rfl)
  (hsw1:swapsWith (.Call (.Attribute (.Subscript (.Name x px) (.Constant (.int 0) k0 pc) ps) "clear" apos) [] [] cpos) none pe.line X.env=pure false:=by rfl) (hpl:PlainIx (.Constant (.int 0) k0 pc):=by exact fun _ _=>rfl)
  (hb2:attributeBase (.Subscript (.Subscript (.Name x px') (.Constant (.int 2) k1 pc') ps') (.Constant (.int 2) k2 pc2) ps2) "clear" X.env (eval (.Subscript (.Subscript (.Name x px') (.Constant (.int 2) k1 pc') ps') (.Constant (.int 2) k2 pc2) ps2) X.env)=eval (.Subscript (.Subscript (.Name x px') (.Constant (.int 2) k1 pc') ps') (.Constant (.int 2) k2 pc2) ps2) X.env:=by rfl) (hl2:(apos'.endLine == cpos'.line)=true:=by rfl)
  (hsw2:swapsWith (.Call (.Attribute (.Subscript (.Subscript (.Name x px') (.Constant (.int 2) k1 pc') ps') (.Constant (.int 2) k2 pc2) ps2) "clear" apos') [] [] cpos') none pe'.line X.env=pure false:=by rfl) (hpl1:PlainIx (.Constant (.int 2) k1 pc'):=by exact fun _ _=>rfl) (hpl2:PlainIx (.Constant (.int 2) k2 pc2):=by exact fun _ _=>rfl) :
  PZ3 X [i] i (.Expr (.Call (.Attribute (.Subscript (.Name x px) (.Constant (.int 0) k0 pc) ps) "clear" apos) [] [] cpos) pe :: .Expr (.Call (.Attribute (.Subscript (.Subscript (.Name x px') (.Constant (.int 2) k1 pc') ps') (.Constant (.int 2) k2 pc2) ps2) "clear" apos') [] [] cpos') pe' :: rest) (zSplit i ur):=by
 obtain ⟨_,h3,r3⟩:=hr
 refine ⟨_,pss_cons (ps_expr (pe_bm0 PySem.F.plainAttrs_list PySem.F.slot_list_clear PySem.F.type_list_clear mt_clear (pe_ix ix_any (pe_var hi hx hdx hcx) pe_int hpl) hb1 hl1) hsw1) (pss_cons (ps_expr (pe_bm0 PySem.F.plainAttrs_list PySem.F.slot_list_clear PySem.F.type_list_clear mt_clear (pe_ix ix_any (pe_ix ix_any (pe_var hi hx hdx hcx) pe_int hpl1) pe_int hpl2) hb2 hl2) hsw2) h3),fun U ρ d ρz h R W B H σ E e sm Bz Hz σz v ez hv hrep hag hl=>?_⟩
 obtain ⟨⟨r,x1,x2,x3,c,rfl⟩,h⟩:=h
 obtain ⟨m0,hbn⟩:=Emp.start e ez
 obtain ⟨q,qs,rfl,hq,rq⟩:=hrep.tup_of
 cases rq with
 | cons rb rq =>
  cases rq with
  | cons rx rq =>
   cases rq with
   | cons rt rq =>
    cases rq
    obtain ⟨b,bs,rfl,hb,rb'⟩:=rb.lst_of
    obtain ⟨t,ts,rfl,ht,rt'⟩:=rt.tup_of
    cases rt' with
    | cons ry rt' =>
     cases rt' with
     | cons rz rt' =>
      cases rt' with
      | cons rc rt' =>
       cases rt'
       obtain ⟨f,fs,rfl,hf,rf'⟩:=rc.lst_of
       obtain ⟨hbB,hbN⟩:=newL_out hb
       obtain ⟨hfB,hfN⟩:=newL_out hf
       obtain ⟨ws,hw⟩:=m0.ls b _ hb
       refine ⟨.ref q,hv,?_⟩
       refine ⟨q,_,0,.ref b,rfl,rfl,.inl (m0.tp q _ hq),atI_zero,?_⟩
       refine ⟨.inl ⟨rfl,ws,SqL.of hw⟩,b,ws,rfl,rfl,hw,?_⟩
       have hm:=m0.clear hbn hb hbN
       obtain ⟨ws2,hw2⟩:=hm.ls f _ hf
       refine ⟨.ref q,hv,?_⟩
       refine ⟨q,_,2,.ref t,rfl,rfl,.inl (hm.tp q _ hq),atI_two,?_⟩
       refine ⟨t,_,2,.ref f,rfl,rfl,.inl (hm.tp t _ ht),atI_two,?_⟩
       refine ⟨.inl ⟨rfl,ws2,SqL.of hw2⟩,f,ws2,rfl,rfl,hw2,?_⟩
       have hm2:=hm.clear hbn hf hfN
       refine r3 U _ h R W B _ σz E ((e.unframe hm2.fr hm2.wh).forget ?_ fun n k q=>?_) sm
       ·rw [List.length_set,hl]; exact e.len
       ·rcases getElem?_set_some q with ⟨_,z⟩ | ⟨ni,q⟩
        ·exact .inl z
        ·exact .inr ⟨q,hag n (by simp [ni])⟩
end
end L3
namespace Cut
open PySem L2 L3
open PySem.Builtin.Int (intBits)
theorem part_ok {s w:Int×Int} (ls:Low s.1 s.2) (lw:Low w.1 w.2) (s0:s.1≠0) (w0:0 < w.1) (c1:intBits s.1≤21) (c2:intBits s.2≤21) (c3:intBits w.1≤21) (c4:intBits w.2≤21) {n m:Int} (n0:1≤n) (nm:n < m) (m6:m≤6):SpOk s w (nrat (w.1 * n) (w.2 * m)):=by
 have t0:0 < w.1 * n:=Int.mul_pos w0 (by omega)
 have b0:0 < w.2 * m:=Int.mul_pos lw.1 (by omega)
 have bn:intBits n≤3:=intBits_le_iff.mpr (by show n.natAbs < 8; omega)
 have bm:intBits m≤3:=intBits_le_iff.mpr (by show m.natAbs < 8; omega)
 obtain ⟨l,e,q1,q2⟩:=nrat_spec (t:=w.1 * n) (b:=w.2 * m) (Int.ne_of_gt b0)
 have k1:=bits_of_abs q1 (intBits_mul_le c3 bn)
 have k2:=bits_of_abs q2 (intBits_mul_le c4 bm)
 generalize nrat (w.1 * n) (w.2 * m)=pt at l e q1 q2 k1 k2
 have p0:0 < pt.1:=by
  have:0 < pt.1 * (w.2 * m):=by rw [e]; exact Int.mul_pos t0 l.1
  exact Int.pos_of_mul_pos_left this b0
 have lt:0 < w.1 * pt.2 - pt.1 * w.2:=by
  have k:=Int.mul_pos (Int.mul_pos w0 l.1) (show 0 < m - n by omega)
  have q:(w.1 * pt.2 - pt.1 * w.2) * m=w.1 * pt.2 * (m - n):=by grind
  rw [← q] at k
  exact Int.pos_of_mul_pos_left k (by omega)
 exact ⟨ls,lw,l,s0,w0,p0,by omega,c1,c2,c3,c4,Nat.le_trans k1 (by decide),Nat.le_trans k2 (by decide)⟩
end Cut
namespace L2
open PySem PySem.W PyProof.Rows
section
variable {R:Nat→Int} {n:Nat}
end
end L2
namespace L2
open PySem PySem.Spec PyProof.Rows PySem.W
section
variable {prog:Program} {w:World} {A:Around} {E:Value→Shared→Prop} {s:Shared} {vs:List Value} {R:Nat→Int} {κ:SortKind}
end
end L2
namespace L2
open PySem PySem.Spec PyProof.Rows PySem.W
section
variable {prog:Program} {w:World} {A:Around} {E:Value→Shared→Prop} {s:Shared} {vs:List Value} {R:Nat→Int} {κ:SortKind}
end
end L2
namespace L3
open PySem PySem.Spec PyProof.Rows L2
section
variable {prog:Program} {w:World} {A:Around} {E:Value→Shared→Prop} {s:Shared} {d:Addr} {ep:Nat} {es:Array DictEntry}
end
end L3
namespace L2
open PySem PySem.Spec PyProof.Rows PySem.W
section
variable {prog:Program} {w:World} {A:Around} {E:Value→Shared→Prop} {s:Shared}
end
end L2
namespace L2
open PySem PySem.Spec PyProof.Rows PySem.W
open PySem.SeqAt
open PySem.AutoSeq1 (wpAny_loadPart')
open PySem.MeetsSeq PySem.MeetsSeq2 PySem.MeetsSeq3
section
variable {prog:Program} {w:World} {A:Around} {E:Value→Shared→Prop} {s:Shared}
end
end L2
namespace L3
open PySem PySem.Spec PyProof.Rows PySem.W L2
section
variable {P:Program} {w:World} {A:Around} {s:Shared} {H:Hp} {b:Bool}
end
section
variable {X:Cx}
end
section
variable {X:Cx} {e:Expr} {u:UE} {p pos:Pos}
end
end L3
namespace L3
open PySem L2
section
variable {prog:Program} {w:World} {A:Around} {E:Value→Shared→Prop} {s:Shared} {d it:Addr} {i ep:Nat} {es:Array DictEntry} {ok ov:Value}
end
end L3
namespace L2
open PySem PySem.Spec PyProof.Rows PySem.W L3
section
variable {P:Program} {w:World} {K:PySem.W.Frag} {b:Bool} {a:Addr} {ep:Nat} {ks:List (List (List Int))} {as:List Addr} {vs:List V} {elts:List Expr} {k:Nat} {pos:Pos}
end
end L2
namespace L3
open PySem L2
section
variable {K:PySem.W.Frag} {u:UE} {w:UL}
variable {X:Cx} {elt iter tg:Expr} {ifs:List Expr} {scope:Scope} {cl:List (Str×Addr)} {ts fr:List Str} {js:List Nat} {ug:UG} {ut:UT} {pos:Pos}
end
end L3
namespace L2
open PySem PySem.Spec PyProof.Rows
end L2
namespace L3
open PySem L2
section
variable {K:PySem.W.Frag} {X:Cx} {pos p:Pos} {tg:Expr}
end
section
variable {X:Cx} {e:Expr} {u:UE} {pos:Pos}
end
end L3
namespace L3
open PySem L2
section
variable {X:Cx}
end
end L3
namespace Cut
open PySem L2 L3
open PySem.Builtin.Int (intBits)
end Cut
namespace Cut
open PySem L2 L3
open PySem.Builtin.Int (intBits)
end Cut
namespace Cut
open PySem L2 L3
open PySem.Builtin.Int (intBits)
structure Blts (mg:Str→Option Value):Prop where
 len_:mg "len" = none
 abs_:mg "abs" = none
 int_:mg "int" = none
 bool_:mg "bool" = none
 tuple_:mg "tuple" = none
 isinstance_:mg "isinstance" = none
 range_:mg "range" = none
 all_:mg "all" = none
 sum_:mg "sum" = none
 list_:mg "list" = none
 ValueError_:mg "ValueError" = none
 zip_:mg "zip" = none
 str_:mg "str" = none
 enumerate_:mg "enumerate" = none
 set_:mg "set" = none
 max_:mg "max" = none
 min_:mg "min" = none
 sorted_:mg "sorted" = none
local macro_rules | `(tactic| walk_at "bu") => `(tactic| first | assumption | exact intBits_sub_le (by walk_at "bu") (by walk_at "bu") | exact intBits_add_le (by walk_at "bu") (by walk_at "bu") | exact intBits_mul_le (by walk_at "bu") (by walk_at "bu") | exact intBits_neg_le (by walk_at "bu") | exact intBits_fdiv_le (by walk_at "bu") | exact bits_om (by omega) (by omega) | fail)
local macro_rules | `(tactic| walk_at "bits") => `(tactic| ((with_reducible show intBits _ ≤ _); first | assumption | exact Nat.le_trans (bits_om (by omega) (by omega)) (by decide) | decide +kernel | exact Nat.le_trans (by walk_at "bu") (by first | omega | decide) | fail))
local macro_rules | `(tactic| walk_at "sd") => `(tactic| first | ((with_reducible show intBits _ ≤ _); walk_at "bits") | ((with_reducible show CMulB _ _); exact ⟨by walk_at "bits", by walk_at "bits"⟩) | ((with_reducible show CDivB _ _); exact ⟨by omega, by walk_at "bits"⟩) | ((with_reducible show (_ : Int) < _); first | omega | decide +kernel) | ((with_reducible show (_ : Int) ≤ _); first | omega | decide +kernel) | ((with_reducible show CPow _ _); exact ⟨by decide, by decide, by decide⟩) | ((with_reducible show List.length _ ≤ sizeLine); first | (show 2 ≤ sizeLine; decide) | (show 3 ≤ sizeLine; decide) | (show 1 ≤ sizeLine; decide) | (show 0 ≤ sizeLine; decide) | (show 4 ≤ sizeLine; decide)) | fail)
local macro_rules | `(tactic| walk_at "w1") => `(tactic| first | refine ⟨_, rfl, ?_⟩ | refine ⟨_, _, rfl, rfl, ?_⟩ | refine ⟨_, _, rfl, rfl, by walk_at "sd", ?_⟩ | refine ⟨_, _, _, .inl rfl, rfl, rfl, ?_⟩ | refine ⟨_, _, _, .inr rfl, rfl, rfl, ?_⟩ | refine ⟨_, _, rfl, fun _ => rfl, ?_⟩ | refine ⟨by walk_at "sd", ?_⟩ | refine ⟨rfl, ?_⟩)
local macro_rules | `(tactic| walk_at "w") => `(tactic| repeat walk_at "w1")
local macro_rules | `(tactic| walk_at "wd") => `(tactic| (walk_at "w"; try dsimp only [fzR]))
local macro_rules | `(tactic| walk_at "it") => `(tactic| first | exact .inl (by assumption) | exact .inr (by assumption))
local macro_rules | `(tactic| walk_at "r0") => `(tactic| repeat (first | refine ⟨_, rfl, ?_⟩ | refine ⟨_, _, rfl, rfl, ?_⟩ | refine ⟨_, _, _, _, rfl, rfl, by walk_at "it", rfl, ?_⟩ | refine ⟨by walk_at "sd", ?_⟩))
local macro_rules | `(tactic| walk_at "rd") => `(tactic| (walk_at "r0"; try dsimp only))
local macro_rules | `(tactic| walk_at "fall") => `(tactic| first | exact List.forall_mem_cons.mpr ⟨rfl, by walk_at "fall"⟩ | exact List.forall_mem_nil _)
local macro_rules | `(tactic| walk_at "fal2") => `(tactic| first | exact List.forall_mem_nil _ | exact List.forall_mem_cons.mpr ⟨fun h => absurd h (by decide), by walk_at "fal2"⟩ | exact List.forall_mem_cons.mpr ⟨fun _ => ⟨_, rfl⟩, by walk_at "fal2"⟩)
local macro_rules | `(tactic| walk_at "fsub") => `(tactic| exact fsub_of (by walk_at "fall"))
local macro_rules | `(tactic| walk_at "fhas") => `(tactic| exact fhas_of (by walk_at "fal2"))
local macro_rules | `(tactic| walk_at "ffr") => `(tactic| (intro i y e; rcases i with _ | _ | _ | _ | _ | i <;> first | (cases e; done) | (cases e; exact ⟨_, rfl, rfl, rfl, Or.inl rfl, _, rfl⟩)))
theorem sc_law_cell:FnScope ["_law_script", "_law_k"] ["_law_script", "_law_k"] (defScope s_law_cell):=⟨rfl,rfl,rfl,by decide +kernel,rfl,by decide +kernel,by decide +kernel⟩
theorem ok_law_cell (B:Blts mg) (F:Fnd K mg "_law_cell" s_law_cell ["_law_script", "_law_k"]) :
  Cal P w K mg base "_law_cell" ["_law_script", "_law_k"] 1 (Con K 2 F_cell):=by
 refine Cal.imp (sp:=spCell K) ?_ (fun vs H Q E h=>cell_con h)
 refine F.ok (k:=0) sc_law_cell (fun vs H Q E h=>?_) (fun f cdv A outer s H vs Q E hr h=>?_)
 ·obtain ⟨a,k,ns,rfl,hS,h0,q⟩:=h
  rfl
 obtain ⟨a,k,ns,rfl,hS,h0,q⟩:=h
 refine ⟨_,(pss_cons (ps_if (pt_cmpR op_lt (pv 1) (pe_callB call_len_seq (by rfl) B.len_ (by decide +kernel) (pa_cons (pv 0) pa_nil)) (nomark _)) (pss_one (ps_ret (pe_ix ix_list (pv 0) (pv 1) (fun _ _=>rfl)))) pss_nil) (pss_one (ps_ret pe_int))),?_⟩
 refine ⟨_,rfl,_,rfl,a,_,rfl,.inl hS,_,_,rfl,rfl,_,rfl,?_⟩
 refine iteD (fun c=>?_) (fun c=>?_)
 ·rw [List.length_map] at c
  have hk:k.toNat < ns.length:=by omega
  have ek:k=((k.toNat:Nat):Int):=by omega
  have z:atI (ns.map V.int) ((k.toNat:Nat):Int)=some (.int ns[k.toNat]):=atI_nat (by rw [List.getElem?_map,List.getElem?_eq_getElem hk] <;> rfl)
  rw [← ek] at z
  exact ⟨_,rfl,_,rfl,a,_,_,_,rfl,rfl,hS,z,q _⟩
 ·exact q _
theorem sc_law_bag:FnScope ["_law_cell_here"] ["_law_cell_here"] (defScope s_law_bag):=⟨rfl,rfl,rfl,by decide +kernel,rfl,by decide +kernel,by decide +kernel⟩
theorem ok_bagB (B:Blts mg) (F:Fnd K mg "_law_bag" s_law_bag ["_law_cell_here"]) :
  Cal P w K mg base "_law_bag" ["_law_cell_here"] 1 (Con K 1 F_bag):=by
 refine Cal.imp (sp:=spBag) ?_ (fun vs H Q E h=>bag_con h)
 refine F.ok (k:=0) sc_law_bag (fun vs H Q E h=>?_) (fun f cdv A outer s H vs Q E hr h=>?_)
 ·obtain ⟨c,rfl,q⟩:=h
  rfl
 obtain ⟨c,rfl,q⟩:=h
 refine ⟨_,(pss_cons (ps_if (pt_cmpR op_ge (pv 0) (pe_op op_pow pe_int pe_int) (nomark _)) (pss_one (ps_ret (pe_lst (pa_cons (pe_op op_mod (pv 0) (pe_op op_mulB (pe_op op_pow pe_int pe_int) (pe_op op_pow pe_int pe_int))) (pa_cons (pe_op op_mod (pv 0) pe_int) pa_nil))))) pss_nil) (pss_one (ps_ret (pe_lst (pa_cons pe_int (pa_cons (pe_op op_mod (pe_op op_add (pe_op op_mulB (pe_op op_mod (pv 0) pe_int) pe_int) pe_int) pe_int) pa_nil)))))),?_⟩
 walk_at "rd"
 refine iteD (fun g=>?_) (fun g=>?_)
 ·walk_at "rd"
  refine (fun p hp=>q p _ _ hp (Int.emod_nonneg _ (by decide +kernel)) (Int.emod_nonneg _ (by decide)) (Int.emod_lt_of_pos _ (by decide)))
 ·have m0:=Int.emod_nonneg c (show (2147483647:Int)≠0 by decide)
  have m1:=Int.emod_lt_of_pos c (show (0:Int) < 2147483647 by decide)
  walk_at "rd"
  refine (fun p hp=>q p _ _ hp (by decide) (Int.emod_nonneg _ (by decide)) (Int.emod_lt_of_pos _ (by decide)))
theorem sc_law_draw:FnScope ["_law_bag_here", "_law_many", "_law_found"] ["_law_bag_here", "_law_many"] (defScope s_law_draw):=⟨rfl,rfl,rfl,by decide +kernel,rfl,by decide +kernel,by decide +kernel⟩
theorem ok_drawB (B:Blts mg) (F:Fnd K mg "_law_draw" s_law_draw ["_law_bag_here", "_law_many"]) :
  Cal P w K mg base "_law_draw" ["_law_bag_here", "_law_many"] 1 (Con K 2 (F_draw 400)):=by
 refine Cal.imp (sp:=spDraw 400) ?_ (fun vs H Q E h=>draw_con h)
 refine F.ok (k:=0) sc_law_draw (fun vs H Q E h=>?_) (fun f cdv A outer s H vs Q E hr h=>?_)
 ·obtain ⟨b,m,rfl,⟨x,y,hb,x0,y0,y1⟩,m0,m1,q⟩:=h
  rfl
 obtain ⟨b,m,rfl,⟨x,y,hb,x0,y0,y1⟩,m0,m1,q⟩:=h
 refine ⟨_,(pss_cons (ps_if (pt_cmpR op_ge (pe_ix ix_any (pv 0) pe_int (fun _ _=>rfl)) (pv 1) (nomark _)) (pss_cons (ps_set (i:=2) sc_law_draw.nd rfl (Or.inl rfl) (pe_op op_mod (pe_ix ix_any (pv 0) pe_int (fun _ _=>rfl)) (pv 1))) (pss_cons (ps_asg (pe_op op_fdivB (pe_ix ix_any (pv 0) pe_int (fun _ _=>rfl)) (pv 1)) (pg_sub (pv 0) pe_int set_list)) (pss_one (ps_ret (pv 2))))) pss_nil) (pss_cons (ps_asg pe_int (pg_sub (pv 0) pe_int set_list)) (pss_cons (ps_asg (pe_op op_mod (pe_op op_add (pe_op op_mulB (pe_ix ix_any (pv 0) pe_int (fun _ _=>rfl)) pe_int) pe_int) pe_int) (pg_sub (pv 0) pe_int set_list)) (pss_one (ps_ret (pe_op op_mod (pe_op op_fdivB (pe_op op_mod (pe_op op_mulB (pe_ix ix_any (pv 0) pe_int (fun _ _=>rfl)) (pe_op op_add (pe_op op_fdivB (pe_ix ix_any (pv 0) pe_int (fun _ _=>rfl)) pe_int) pe_int)) pe_int) pe_int) (pv 1))))))),?_⟩
 walk_at "rd"
 refine iteD (fun g=>?_) (fun g=>?_)
 ·walk_at "rd"
  refine ⟨b,_,_,_,rfl,rfl,hb,rfl,?_⟩
  refine ⟨_,rfl,?_⟩
  refine q _ _ (Ext.upd b H _) ⟨_,_,upd_same,?_,y0,y1⟩ (Int.emod_nonneg _ (by omega)) (Int.emod_lt_of_pos _ m0)
  exact Int.fdiv_nonneg x0 (Int.le_of_lt m0)
 ·walk_at "rd"
  refine ⟨b,_,_,_,rfl,rfl,hb,rfl,?_⟩
  have hb1:(upd H b (.lst ([V.int x,V.int y].set (Int.toNat 0) (V.int 0)))) b=some (.lst [.int 0,.int y]):=upd_same
  have e1:=Ext.upd b H (.lst ([V.int x,V.int y].set (Int.toNat 0) (V.int 0)))
  generalize upd H b (.lst ([V.int x,V.int y].set (Int.toNat 0) (V.int 0)))=H1 at hb1 e1 ⊢
  have m2:=Int.emod_nonneg (y * 48271 + 4099) (show (2147483647:Int)≠0 by decide)
  have m3:=Int.emod_lt_of_pos (y * 48271 + 4099) (show (0:Int) < 2147483647 by decide)
  walk_at "rd"
  refine ⟨b,_,_,_,rfl,rfl,hb1,rfl,?_⟩
  generalize (y * 48271 + 4099) % 2147483647=z at m2 m3 ⊢
  have hb2:(upd H1 b (.lst ([V.int 0,V.int y].set (Int.toNat 1) (V.int z)))) b=some (.lst [.int 0,.int z]):=upd_same
  have k0:=Int.ediv_nonneg m2 (show (0:Int)≤65536 by decide)
  have k1:z / 65536≤z:=Int.ediv_le_self _ m2
  have ek:Int.fdiv z 65536=z / 65536:=Int.fdiv_eq_ediv_of_nonneg z (by decide)
  have kb:intBits (Int.fdiv z 65536 + 7)≤64:=by rw [ek]; exact bits_om (by omega) (by omega)
  walk_at "rd"
  refine q _ _ (e1.trans (Ext.upd b H1 _)) ⟨_,_,hb2,by decide,m2,m3⟩ (Int.emod_nonneg _ (by omega)) (Int.emod_lt_of_pos _ m0)
theorem sc_law_measure:FnScope ["_law_one", "_law_other", "_law_rest"] ["_law_one", "_law_other"] (defScope s_law_measure):=⟨rfl,rfl,rfl,by decide +kernel,rfl,by decide +kernel,by decide +kernel⟩
def F_law_measure:FS:=fun as k=>∃ (a b:Int),as=[.val (.int a),.val (.int b)]∧k (.val (.int (Int.gcd a b:Nat)))
theorem ok_law_measure (B:Blts mg)   (F:Fnd K mg "_law_measure" s_law_measure ["_law_one", "_law_other"])  :
  Cal P w K mg base "_law_measure" ["_law_one", "_law_other"] 2 (Con K 2 F_law_measure):=by
 refine def3 (lv:=1) F sc_law_measure rfl (fun f cdv A outer s H E hr=>⟨_,(s_cons (s_set (i:=0) sc_law_measure.nd rfl (Or.inl rfl) (e_abs (v3 0) (by rfl) B.abs_)) (s_cons (s_set (i:=1) sc_law_measure.nd rfl (Or.inl rfl) (e_abs (v3 1) (by rfl) B.abs_)) (s_cons (s_while PassesOwn.never (t_cmp (f:=fun i j=>decide (j < i)) op_gt (v3 1) e_int (nomark _)) (s_cons (s_set (i:=2) sc_law_measure.nd rfl (Or.inl rfl) (e_mod (v3 0) (v3 1))) (s_cons (s_set (i:=0) sc_law_measure.nd rfl (Or.inl rfl) (v3 1)) (s_one (s_set (i:=1) sc_law_measure.nd rfl (Or.inl rfl) (v3 2)))))) (s_one (s_ret (v3 0)))))),?_⟩)
 rintro as k hl ⟨a,b,rfl,hk⟩
 refine at3 (r:=[.val (.int a),.val (.int b),.no]) rfl ?_
 walk_at "wd"
 refine ⟨fun m ρ=>∃ (x y:Int) (v:Sl),ρ=[.val (.int x),.val (.int y),v]∧0≤x∧0≤y∧Int.gcd x y=Int.gcd a b∧m=y.toNat,⟨_,_,_,_,rfl,?_,?_,gcd_abs a b,rfl⟩,?_⟩
 ·split <;> omega
 ·split <;> omega
 rintro m ρ ⟨x,y,v,rfl,x0,y0,hg,rfl⟩
 walk_at "wd"
 refine iteD (fun g=>?_) (fun g=>?_)
 ·walk_at "wd"
  have m0:=Int.emod_nonneg x (show y≠0 by omega)
  have m1:=Int.emod_lt_of_pos x g
  exact ⟨_,by omega,_,_,_,rfl,y0,m0,by rw [gcd_step x0 g]; exact hg,rfl⟩
 ·have e:y=0:=by omega
  subst e
  refine ⟨_,rfl,?_⟩
  rw [← gcd_zero_left x0,hg]
  exact hk
theorem sc_law_low:FnScope ["_law_top", "_law_bottom", "_law_often"] ["_law_top", "_law_bottom"] (defScope s_law_low):=⟨rfl,rfl,rfl,by decide +kernel,rfl,by decide +kernel,by decide +kernel⟩
def F_lowT:FS:=fun as k=>∃ (t b:Int),as=[.val (.int t),.val (.int b)]∧(0 < b)∧(intBits b≤9000)∧k (.val (dR (nrat t b)))
theorem ok_lowT (B:Blts mg)   (F:Fnd K mg "_law_low" s_law_low ["_law_top", "_law_bottom"]) (c_law_measure:Cal P w K mg base "_law_measure" ["_law_one", "_law_other"] 2 (Con K 2 F_law_measure)) :
  Cal P w K mg base "_law_low" ["_law_top", "_law_bottom"] 3 (Con K 2 F_lowT):=by
 refine def3 (lv:=2) F sc_law_low rfl (fun f cdv A outer s H E hr=>⟨_,(s_cons (s_set (i:=2) sc_law_low.nd rfl (Or.inl rfl) (e_call c_law_measure hr (by rfl) (a_val (v3 0) (a_val (v3 1) a_nil)))) (s_cons (s_if (t_cmp (f:=fun i j=>decide (i < j)) op_lt (v3 1) e_int (nomark _)) (s_one (s_set (i:=2) sc_law_low.nd rfl (Or.inl rfl) (e_neg (v3 2)))) s_nil) (s_one (s_ret (e_tup (l_cons (e_fdiv (v3 0) (v3 2)) (l_cons (e_fdiv (v3 1) (v3 2)) l_nil))))))),?_⟩)
 rintro as k hl ⟨t,b,rfl,hb,bb,hk⟩
 refine at3 (r:=[.val (.int t),.val (.int b),.no]) rfl ?_
 have gp:=gcd_pos (t:=t) (b:=b) (by omega)
 have gb:=gcd_bits (a:=t) (b:=b) (by omega) bb
 have e:gsg t b=((Int.gcd t b:Nat):Int):=by unfold gsg; rw [if_neg (by omega)]
 have hk:k (.val (.tup [.int (t.fdiv ((Int.gcd t b:Nat):Int)),.int (b.fdiv ((Int.gcd t b:Nat):Int))])):=by
  have h:=hk
  unfold dR nrat at h
  rw [e] at h
  exact h
 walk_at "w"
 refine ⟨_,_,rfl,?_⟩
 dsimp only [fzR]
 walk_at "wd"
 refine iteD (fun g=>absurd g (by omega)) (fun _=>?_)
 walk_at "w"
 exact hk
theorem sc_law_spot:FnScope ["_law_x", "_law_y", "_law_bottom", "_law_often"] ["_law_x", "_law_y", "_law_bottom"] (defScope s_law_spot):=⟨rfl,rfl,rfl,by decide +kernel,rfl,by decide +kernel,by decide +kernel⟩
def F_spotB:FS:=fun as k=>∃ (x y n:Int),as=[.val (.int x),.val (.int y),.val (.int n)]∧(0 < n)∧(intBits n≤9000)∧k (.val (dP (npt x y n)))
theorem ok_spotB (B:Blts mg)   (F:Fnd K mg "_law_spot" s_law_spot ["_law_x", "_law_y", "_law_bottom"]) (c_law_measure:Cal P w K mg base "_law_measure" ["_law_one", "_law_other"] 2 (Con K 2 F_law_measure)) :
  Cal P w K mg base "_law_spot" ["_law_x", "_law_y", "_law_bottom"] 3 (Con K 3 F_spotB):=by
 refine def3 (lv:=2) F sc_law_spot rfl (fun f cdv A outer s H E hr=>⟨_,(s_cons (s_set (i:=3) sc_law_spot.nd rfl (Or.inl rfl) (e_call c_law_measure hr (by rfl) (a_val (e_call c_law_measure hr (by rfl) (a_val (v3 0) (a_val (v3 1) a_nil))) (a_val (v3 2) a_nil)))) (s_one (s_ret (e_tup (l_cons (e_fdiv (v3 0) (v3 3)) (l_cons (e_fdiv (v3 1) (v3 3)) (l_cons (e_fdiv (v3 2) (v3 3)) l_nil))))))),?_⟩)
 rintro as k hl ⟨x,y,n,rfl,hn,bn,hk⟩
 refine at3 (r:=[.val (.int x),.val (.int y),.val (.int n),.no]) rfl ?_
 walk_at "w"
 refine ⟨_,_,rfl,?_⟩
 walk_at "w"
 refine ⟨_,_,rfl,?_⟩
 have n0:n≠0:=by omega
 have gp:=g3_pos (a:=x) (b:=y) n0
 have gb:=g3_bits (a:=x) (b:=y) n0 bn
 have e:gsp x y n=g3 x y n:=by unfold gsp; rw [if_neg (by omega)]
 have eg:((Int.gcd ((Int.gcd x y:Nat):Int) n:Nat):Int)=g3 x y n:=g3_xy x y n
 have hk:k (.val (.tup [.int (x.fdiv (g3 x y n)),.int (y.fdiv (g3 x y n)),.int (n.fdiv (g3 x y n))])):=by
  have h:=hk
  unfold dP npt at h
  rw [e] at h
  exact h
 dsimp only [fzR]
 rw [eg]
 generalize g3 x y n=g at gp gb hk ⊢
 walk_at "w"
 exact hk
theorem sc_law_whole:FnScope ["_law_found"] ["_law_found"] (defScope s_law_whole):=⟨rfl,rfl,rfl,by decide +kernel,rfl,by decide +kernel,by decide +kernel⟩
def F_law_whole:FS:=fun as k=>∃ (i:Int),as=[.val (.int i)]∧k (.val (.bl true))
theorem ok_law_whole (B:Blts mg)   (F:Fnd K mg "_law_whole" s_law_whole ["_law_found"])  :
  Cal P w K mg base "_law_whole" ["_law_found"] 2 (Con K 1 F_law_whole):=by
 refine def3 (lv:=1) F sc_law_whole rfl (fun f cdv A outer s H E hr=>⟨_,(s_one (s_ret (e_and (e_isi (T := "int") (v3 0) (by rfl) B.isinstance_ (pe_bltn (v:=.ty "int") (u:=.type "int") (by rfl) B.int_ (by decide +kernel) rfl) rfl rfl rfl) (e_one (e_not (e_isi (T := "bool") (v3 0) (by rfl) B.isinstance_ (pe_bltn (v:=.ty "bool") (u:=.type "bool") (by rfl) B.bool_ (by decide +kernel) rfl) rfl rfl rfl)))))),?_⟩)
 rintro as k hl ⟨i,rfl,hk⟩
 refine at3 (r:=[.val (.int i)]) rfl ?_
 refine ⟨_,rfl,_,_,rfl,fun _=>rfl,_,rfl,iteT ?_⟩
 exact ⟨_,rfl,_,_,rfl,fun _=>rfl,_,rfl,hk⟩
theorem sc_law_line:FnScope ["_law_p", "_law_q", "_law_a", "_law_b", "_law_c", "_law_often"] ["_law_p", "_law_q"] (defScope s_law_line):=⟨rfl,rfl,rfl,by decide +kernel,rfl,by decide +kernel,by decide +kernel⟩
def F_lineT:FS:=fun as k=>∃ (p q:P3),as=[.val (dP p),.val (dP q)]∧((crs p q).1≠0∨(crs p q).2.1≠0)∧(BP 4000 p)∧(BP 4000 q)∧k (.val (dP (lnK p q)))
theorem ok_lineT (B:Blts mg)   (F:Fnd K mg "_law_line" s_law_line ["_law_p", "_law_q"]) (c_law_measure:Cal P w K mg base "_law_measure" ["_law_one", "_law_other"] 2 (Con K 2 F_law_measure)) :
  Cal P w K mg base "_law_line" ["_law_p", "_law_q"] 3 (Con K 2 F_lineT):=by
 refine def3 (lv:=2) F sc_law_line rfl (fun f cdv A outer s H E hr=>⟨_,(s_cons (s_set (i:=2) sc_law_line.nd rfl (Or.inl rfl) (e_sub (e_mul (e_ix (v3 0) e_int (fun _ _=>rfl)) (e_ix (v3 1) e_int (fun _ _=>rfl))) (e_mul (e_ix (v3 0) e_int (fun _ _=>rfl)) (e_ix (v3 1) e_int (fun _ _=>rfl))))) (s_cons (s_set (i:=3) sc_law_line.nd rfl (Or.inl rfl) (e_sub (e_mul (e_ix (v3 0) e_int (fun _ _=>rfl)) (e_ix (v3 1) e_int (fun _ _=>rfl))) (e_mul (e_ix (v3 0) e_int (fun _ _=>rfl)) (e_ix (v3 1) e_int (fun _ _=>rfl))))) (s_cons (s_set (i:=4) sc_law_line.nd rfl (Or.inl rfl) (e_sub (e_mul (e_ix (v3 0) e_int (fun _ _=>rfl)) (e_ix (v3 1) e_int (fun _ _=>rfl))) (e_mul (e_ix (v3 0) e_int (fun _ _=>rfl)) (e_ix (v3 1) e_int (fun _ _=>rfl))))) (s_cons (s_set (i:=5) sc_law_line.nd rfl (Or.inl rfl) (e_call c_law_measure hr (by rfl) (a_val (e_call c_law_measure hr (by rfl) (a_val (v3 2) (a_val (v3 3) a_nil))) (a_val (v3 4) a_nil)))) (s_cons (s_if (w_t (w_or (t_cmp (f:=fun i j=>decide (i < j)) op_lt (v3 2) e_int (nomark _)) (w_or1 (w_t (w_and (t_cmp (f:=fun i j=>decide (i=j)) op_eqI (v3 2) e_int (nomark _)) (w_and1 (t_cmp (f:=fun i j=>decide (i < j)) op_lt (v3 3) e_int (nomark _)))))))) (s_one (s_set (i:=5) sc_law_line.nd rfl (Or.inl rfl) (e_neg (v3 5)))) s_nil) (s_one (s_ret (e_tup (l_cons (e_fdiv (v3 2) (v3 5)) (l_cons (e_fdiv (v3 3) (v3 5)) (l_cons (e_fdiv (v3 4) (v3 5)) l_nil))))))))))),?_⟩)
 rintro as k hl ⟨p,q,rfl,w,bp,bq,hk⟩
 refine at3 (r:=[.val (dP p),.val (dP q),.no,.no,.no,.no]) rfl ?_
 have h1:=bp.a
 have h2:=bp.b
 have h3:=bp.c
 have h4:=bq.a
 have h5:=bq.b
 have h6:=bq.c
 have b1:intBits (crs p q).1≤8500:=by show intBits (p.2.1 * q.2.2 - p.2.2 * q.2.1)≤_; walk_at "bits"
 have b2:intBits (crs p q).2.1≤8500:=by show intBits (p.2.2 * q.1 - p.1 * q.2.2)≤_; walk_at "bits"
 have b3:intBits (crs p q).2.2≤8500:=by show intBits (p.1 * q.2.1 - p.2.1 * q.1)≤_; walk_at "bits"
 walk_at "w"
 refine ⟨(crs p q).1,(crs p q).2.1,rfl,?_⟩
 walk_at "wd"
 refine ⟨((Int.gcd (crs p q).1 (crs p q).2.1:Nat):Int),(crs p q).2.2,rfl,?_⟩
 dsimp only [fzR]
 refine at3 (r:=[.val (dP p),.val (dP q),.val (.int (crs p q).1),.val (.int (crs p q).2.1),.val (.int (crs p q).2.2),.val (.int (gcL (crs p q)))]) rfl ?_
 unfold lnK at hk
 generalize crs p q=l at w b1 b2 b3 hk
 refine mid4 (fun ρ=>ρ=[.val (dP p),.val (dP q),.val (.int l.1),.val (.int l.2.1),.val (.int l.2.2),.val (.int (oftL l))]) ?_ (fun N kk=>?_)
 rotate_left
 ·have yes:downL l→N [.val (dP p),.val (dP q),.val (.int l.1),.val (.int l.2.1),.val (.int l.2.2),.val (.int (-gcL l))]:=fun d=>kk _ (by unfold oftL; rw [if_pos d])
  have no:¬ downL l→N [.val (dP p),.val (dP q),.val (.int l.1),.val (.int l.2.1),.val (.int l.2.2),.val (.int (gcL l))]:=fun d=>kk _ (by unfold oftL; rw [if_neg d])
  refine ⟨_,rfl,_,_,rfl,rfl,_,rfl,iteD (fun g=>?_) (fun g=>?_)⟩
  ·exact ⟨_,rfl,_,rfl,yes (.inl g)⟩
  ·refine ⟨_,rfl,_,_,rfl,rfl,_,rfl,iteD (fun g2=>?_) (fun g2=>no fun d=>d.elim g fun z=>g2 z.1)⟩
   refine ⟨_,rfl,_,_,rfl,rfl,_,rfl,iteD (fun g3=>?_) (fun g3=>no fun d=>d.elim g fun z=>g3 z.2)⟩
   exact ⟨_,rfl,_,rfl,yes (.inr ⟨g2,g3⟩)⟩
 rintro ρ rfl
 have o0:=oft_ne w
 have ob:=oft_bits b1 b2 w
 obtain ⟨d1,d2,d3⟩:=oft_dvd l
 have f1:=Int.fdiv_eq_ediv_of_dvd d1
 have f2:=Int.fdiv_eq_ediv_of_dvd d2
 have f3:=Int.fdiv_eq_ediv_of_dvd d3
 have hk:k (.val (.tup [.int (l.1.fdiv (oftL l)),.int (l.2.1.fdiv (oftL l)),.int (l.2.2.fdiv (oftL l))])):=by rw [f1,f2,f3]; exact hk
 walk_at "w"
 exact hk
theorem sc_law_count:FnScope ["_law_tally", "_law_rings", "_law_number", "_law_ring", "_law_k", "_law_p", "_law_q", "_law_line_here"] ["_law_tally", "_law_rings", "_law_number"] (defScope s_law_count):=⟨rfl,rfl,rfl,by decide +kernel,rfl,by decide +kernel,by decide +kernel⟩
def F_countT:FD:=fun b ks ds xs k=>∃ (vs:List Int) (rs:RP) (m:Int),  b=true∧xs=[(.lst (rs.map dH)),(.int m)]∧(ds=vs.map D.int)∧(vs.length=ks.length)∧(∀ ps∈rs,RgT ps)∧(m=1∨m = -1)∧(ks.length + 2 * (rs.map List.length).sum≤10000)∧∀ ks2 vs2,vs2.length=ks2.length→ks2.length≤ks.length + 2 * (rs.map List.length).sum→(∀ key,(lkA ks2 vs2 key).getD 0=(lkA ks vs key).getD 0 + m * cnR key rs)→k ks2 (vs2.map D.int)
theorem ok_countT (B:Blts mg)   (F:Fnd K mg "_law_count" s_law_count ["_law_tally", "_law_rings", "_law_number"]) (c_law_line:Cal P w K mg base "_law_line" ["_law_p", "_law_q"] 3 (Con K 2 F_lineT)) :
  Cal P w K mg base "_law_count" ["_law_tally", "_law_rings", "_law_number"] 4 (ConD K 3 F_countT):=by
 refine def3D (lv:=3) F sc_law_count rfl (fun f cdv A outer s H E hr=>⟨_,(s_one (s_for PassesOwn.never rfl (i_list (v3 1)) (g_name (i:=3) sc_law_count.nd rfl (Or.inl rfl)) (s_one (s_for PassesOwn.never rfl (i_rng (e_len (v3 3) (by rfl) B.len_) (by rfl) B.range_) (g_name (i:=4) sc_law_count.nd rfl (Or.inl rfl)) (s_cons (s_par (i:=5) (j:=6) rfl sc_law_count.nd rfl rfl (by decide) rfl rfl (l_cons (e_ix (v3 3) (e_sub (v3 4) e_int) (fun _ _=>rfl)) (l_cons (e_ix (v3 3) (v3 4) (fun _ _=>rfl)) l_nil)) rfl) (s_cons (s_set (i:=7) sc_law_count.nd rfl (Or.inl rfl) (e_call c_law_line hr (by rfl) (a_val (v3 5) (a_val (v3 6) a_nil)))) (s_cons (s_dput (b:=true) 0 (hu4 hr) (e_tup (l_cons (v3 7) (l_cons (v3 5) l_nil))) (e_add (e_dget2 (b:=true) 0 (hu4 hr) (e_tup (l_cons (v3 7) (l_cons (v3 5) l_nil))) e_int) (v3 2))) (s_one (s_dput (b:=true) 0 (hu4 hr) (e_tup (l_cons (v3 7) (l_cons (v3 6) l_nil))) (e_sub (e_dget2 (b:=true) 0 (hu4 hr) (e_tup (l_cons (v3 7) (l_cons (v3 6) l_nil))) e_int) (v3 2))))))))))),?_⟩)
 rintro b t ks ds xs k hl ⟨vs,rs,m,rfl,rfl,ed,hv,hr,hm,hl,hk⟩
 refine at3 (r:=[.own (.d true t ks ds),.val (.lst (rs.map dH)),.val (.int m),.no,.no,.no,.no,.no]) rfl ?_
 subst ed
 have big:20000≤sizeLine:=by decide
 refine ⟨_,rfl,_,rfl,?_⟩
 refine forR_map (f:=dH) (rs:=rs) (done:=[]) (fun pre ρ=>∃ (ks1:List (List (List Int))) (vs1:List Int) (v3 v4 v5 v6 v7:Sl),ρ=[.own (.d true t ks1 (vs1.map D.int)),.val (.lst (rs.map dH)),.val (.int m),v3,v4,v5,v6,v7]∧vs1.length=ks1.length∧ks1.length≤ks.length + 2 * (pre.map List.length).sum∧∀ key,(lkA ks1 vs1 key).getD 0=(lkA ks vs key).getD 0 + m * cnR key pre) ⟨ks,vs,_,_,_,_,_,rfl,hv,by simp,fun key=>by simp [cnR]⟩ ?_ (fun ρ h=>?_)
 rotate_left
 ·obtain ⟨ks1,vs1,v3,v4,v5,v6,v7,rfl,h1,h2,h3⟩:=h
  rw [List.nil_append] at h2 h3
  exact ⟨ks1,_,rfl,hk ks1 vs1 h1 h2 h3⟩
 rintro pre ps rest ρ he ⟨ks1,vs1,v3,v4,v5,v6,v7,rfl,h1,h2,h3⟩ N kk
 rw [List.nil_append] at he
 have mem:ps∈rs:=by rw [he]; simp
 obtain ⟨a1,a2,a3⟩:=hr ps mem
 have tot:(rs.map List.length).sum=(pre.map List.length).sum + (ps.length + (rest.map List.length).sum):=by rw [he,List.map_append,List.sum_append,List.map_cons,List.sum_cons]
 have len:(ps.map dP).length=ps.length:=List.length_map ..
 refine ⟨_,rfl,_,rfl,_,rfl,by omega,by rw [len]; omega,?_⟩
 rw [len,show ((ps.length:Nat):Int).toNat=ps.length by omega]
 refine forR_rng (fun i ρ=>∃ (ks2:List (List (List Int))) (vs2:List Int) (v4 v5 v6 v7:Sl),ρ=[.own (.d true t ks2 (vs2.map D.int)),.val (.lst (rs.map dH)),.val (.int m),.val (dH ps),v4,v5,v6,v7]∧vs2.length=ks2.length∧ks2.length≤ks1.length + 2 * i∧∀ key,(lkA ks2 vs2 key).getD 0=(lkA ks1 vs1 key).getD 0 + m * cnE key ((eds ps).take i)) ⟨ks1,vs1,_,_,_,_,rfl,h1,by omega,fun key=>by simp [cnE]⟩ ?_ (fun ρ h=>?_)
 rotate_left
 ·obtain ⟨ks2,vs2,v4,v5,v6,v7,rfl,j1,j2,j3⟩:=h
  have al:=eds_all ps
  rw [al] at j3
  refine kk _ ⟨ks2,vs2,_,_,_,_,_,rfl,j1,?_,fun key=>?_⟩
  ·rw [List.map_append,List.sum_append]
   simp only [List.map_cons,List.map_nil,List.sum_cons,List.sum_nil]
   omega
  ·rw [j3 key,h3 key]
   unfold cnR
   rw [List.map_append,List.sum_append]
   simp only [List.map_cons,List.map_nil,List.sum_cons,List.sum_nil]
   grind
 clear kk
 rintro i ρ hi ⟨ks2,vs2,v4,v5,v6,v7,rfl,j1,j2,j3⟩ N kk
 obtain ⟨p,q,mp,mq,gp,gq,me,et⟩:=back_P hi
 refine ⟨_,rfl,_,rfl,_,_,rfl,rfl,_,_,_,.inr rfl,rfl,gp,_,rfl,_,rfl,_,_,_,.inr rfl,rfl,gq,dP p,dP q,rfl,?_⟩
 refine ⟨_,rfl,_,rfl,rfl,p,q,rfl,a2 _ me,a3 p mp,a3 q mq,?_⟩
 dsimp only [fzR]
 obtain ⟨l1,l2⟩:=pt_len (k:=kE p q p) (x:=(lkA ks2 vs2 (kE p q p)).getD 0 + m) j1
 refine mid4 (fun ρ=>ρ=[.own (.d true t (ptK ks2 (kE p q p)) ((ptA ks2 vs2 (kE p q p) ((lkA ks2 vs2 (kE p q p)).getD 0 + m)).map D.int)),.val (.lst (rs.map dH)),.val (.int m),.val (dH ps),.val (.int i),.val (dP p),.val (dP q),.val (dP (lnK p q))]) ?_ (fun N2 kk2=>?_)
 rotate_left
 ·refine ⟨t,ks2,_,rfl,_,rfl,_,rfl,by show 2≤sizeLine; decide,kE p q p,rfl,(fun z=>nomatch z),_,rfl,(lkA ks2 vs2 (kE p q p)).getD 0,m,lk_int _ _ _,rfl,?_⟩
  refine ⟨t,ks2,_,rfl,_,rfl,_,rfl,by show 2≤sizeLine; decide,kE p q p,rfl,(fun z=>nomatch z),by omega,?_⟩
  exact kk2 _ (by rw [pt_map]; rfl)
 rintro ρ rfl
 generalize hks:ptK ks2 (kE p q p)=ks3 at l1 l2
 generalize hvs:ptA ks2 vs2 (kE p q p) ((lkA ks2 vs2 (kE p q p)).getD 0 + m)=vs3 at l1
 have g3:∀ key,(lkA ks3 vs3 key).getD 0=(lkA ks2 vs2 key).getD 0 + (if key=kE p q p then m else 0):=fun key=>by
  rw [← hks,← hvs,lk_put _ _ key j1]
  by_cases e:key=kE p q p
  ·rw [if_pos e,if_pos e,e]; rfl
  ·rw [if_neg e,if_neg e]; omega
 obtain ⟨l3,l4⟩:=pt_len (k:=kE p q q) (x:=(lkA ks3 vs3 (kE p q q)).getD 0 - m) l1
 refine ⟨t,ks3,_,rfl,_,rfl,_,rfl,by show 2≤sizeLine; decide,kE p q q,rfl,(fun z=>nomatch z),_,rfl,(lkA ks3 vs3 (kE p q q)).getD 0,m,lk_int _ _ _,rfl,?_⟩
 refine ⟨t,ks3,_,rfl,_,rfl,_,rfl,by show 2≤sizeLine; decide,kE p q q,rfl,(fun z=>nomatch z),by omega,?_⟩
 refine kk _ ⟨ptK ks3 (kE p q q),ptA ks3 vs3 (kE p q q) ((lkA ks3 vs3 (kE p q q)).getD 0 - m),.val (.int i),.val (dP p),.val (dP q),.val (dP (lnK p q)),by rw [pt_map]; rfl,l3,by omega,fun key=>?_⟩
 rw [lk_put _ _ key l1,et]
 have e4:cnE key ((eds ps).take i ++ [(p,q)])=cnE key ((eds ps).take i) + cn1 key (p,q):=by
  unfold cnE
  rw [List.map_append,List.sum_append]
  simp
 have g4:((if key=kE p q q then some ((lkA ks3 vs3 (kE p q q)).getD 0 - m) else lkA ks3 vs3 key).getD 0:Int)=(lkA ks3 vs3 key).getD 0 - (if key=kE p q q then m else 0):=by
  by_cases e:key=kE p q q
  ·rw [if_pos e,if_pos e,e]; rfl
  ·rw [if_neg e,if_neg e]; omega
 rw [g4,g3 key,j3 key,e4]
 unfold cn1
 dsimp only
 split <;> split <;> grind
theorem sc_law_part:FnScope ["_law_rings", "_law_others", "_law_tally"] ["_law_rings", "_law_others"] (defScope s_law_part):=⟨rfl,rfl,rfl,by decide +kernel,rfl,by decide +kernel,by decide +kernel⟩
def F_partT:FS:=fun as k=>∃ (rs qs:RP),as=[.val (.lst (rs.map dH)),.val (.lst (qs.map dH))]∧(∀ ps∈rs,RgT ps)∧(∀ ps∈qs,RgT ps)∧((rs.map List.length).sum + (qs.map List.length).sum≤4000)∧(Bal rs qs)∧k (.val (.bl true))
theorem ok_partT (B:Blts mg)   (F:Fnd K mg "_law_part" s_law_part ["_law_rings", "_law_others"]) (c_law_count:Cal P w K mg base "_law_count" ["_law_tally", "_law_rings", "_law_number"] 4 (ConD K 3 F_countT)) :
  Cal P w K mg base "_law_part" ["_law_rings", "_law_others"] 5 (Con K 2 F_partT):=by
 refine def3 (lv:=4) F sc_law_part rfl (fun f cdv A outer s H E hr=>⟨_,(s_cons (s_dnew (b:=true) (i:=2) sc_law_part.nd rfl (Or.inr rfl)) (s_cons (s_callD 2 c_law_count hr (by rfl) (l_cons (v3 0) (l_cons e_int l_nil))) (s_cons (s_callD 2 c_law_count hr (by rfl) (l_cons (v3 1) (l_cons (e_neg e_int) l_nil))) (s_fzD 2 (s_one (s_ret (e_all (o_e (o_compG (ts:=["_law_key"]) (fr:=["_law_tally"]) (js:=[2]) (i_dct (v3 2)) (fun _ _ _ _=>(g_name (i:=0) (show List.Nodup (["_law_key", "_law_tally"]:List Str) by decide +kernel) rfl (Or.inl rfl))) (fun _ _ _ _=>ifs_nil) (fun _ _ _ _=>(e_cmp (f:=fun i j=>decide (i=j)) op_eqI (e_ixD true (hu4 hr) (v3 1) (v3 0) (fun _ _=>rfl)) e_int (nomark _))) ⟨rfl,by decide +kernel,rfl,by decide +kernel,fsub_of (List.forall_mem_cons.mpr ⟨rfl,(List.forall_mem_nil _)⟩),fhas_b rfl,by walk_at "ffr", rfl⟩)) rfl (by rfl) B.all_))))))),?_⟩)
 rintro as k hl ⟨rs,qs,rfl,hr,hq,hl,bal,hk⟩
 refine at3 (r:=[.val (.lst (rs.map dH)),.val (.lst (qs.map dH)),.no]) rfl ?_
 have big:20000≤sizeLine:=by decide
 refine ⟨true,none,[],[],rfl,_,rfl,rfl,[],rs,1,rfl,rfl,rfl,rfl,hr,.inl rfl,by simp; omega,fun ks1 vs1 l1 l2 l3=>?_⟩
 refine ⟨true,none,ks1,_,rfl,_,rfl,1,rfl,rfl,vs1,qs,-1,rfl,rfl,rfl,l1,hq,.inr rfl,?_,fun ks2 vs2 m1 m2 m3=>?_⟩
 ·simp at l2; omega
 have z:∀ key,(lkA ks2 vs2 key).getD 0=0:=fun key=>by
  rw [m3 key,l3 key,cnR_bal bal key]
  simp [lkA]
  omega
 simp at l2
 refine ⟨true,none,ks2,_,rfl,?_⟩
 refine ⟨_,rfl,true,ks2,_,rfl,by rw [List.length_map]; omega,?_⟩
 refine compG_map (f:=keyD true) (h:=fun _=>D.bl true) (fun key hm k hk=>?_) ?_
 ·have some:lkA ks2 (vs2.map D.int) key=some (.int 0):=by
   have e:=z key
   rw [lk_map]
   cases q:lkA ks2 vs2 key with
   | none=>exact absurd hm ((lk_none m1).mp q)
   | some v=>rw [q] at e; rw [show v=0 from e]; rfl
  refine ⟨_,rfl,_,rfl,ks2,_,key,_,rfl,rfl,(fun z=>nomatch z),some,?_⟩
  exact ⟨_,_,rfl,rfl,hk⟩
 refine ⟨_,rfl,fun d hd=>?_,hk⟩
 obtain ⟨_,_,e⟩:=List.mem_map.mp hd
 exact e.symm
theorem sc_law_left:FnScope ["_law_p", "_law_q", "_law_r", "_law_found"] ["_law_p", "_law_q", "_law_r"] (defScope s_law_left):=⟨rfl,rfl,rfl,by decide +kernel,rfl,by decide +kernel,by decide +kernel⟩
def F_leftT:FS:=fun as k=>∃ (p q r:P3),as=[.val (dP p),.val (dP q),.val (dP r)]∧(BP 2950 p)∧(BP 2950 q)∧(BP 2950 r)∧k (.val (.bl (decide (0 < det3 p q r))))
theorem ok_leftT (B:Blts mg)   (F:Fnd K mg "_law_left" s_law_left ["_law_p", "_law_q", "_law_r"])  :
  Cal P w K mg base "_law_left" ["_law_p", "_law_q", "_law_r"] 2 (Con K 3 F_leftT):=by
 refine def3 (lv:=1) F sc_law_left rfl (fun f cdv A outer s H E hr=>⟨_,(s_cons (s_set (i:=3) sc_law_left.nd rfl (Or.inl rfl) (e_mul (e_ix (v3 0) e_int (fun _ _=>rfl)) (e_sub (e_mul (e_ix (v3 1) e_int (fun _ _=>rfl)) (e_ix (v3 2) e_int (fun _ _=>rfl))) (e_mul (e_ix (v3 1) e_int (fun _ _=>rfl)) (e_ix (v3 2) e_int (fun _ _=>rfl)))))) (s_cons (s_aug (i:=3) sc_law_left.nd rfl (Or.inl rfl) (e_mul (e_ix (v3 0) e_int (fun _ _=>rfl)) (e_sub (e_mul (e_ix (v3 1) e_int (fun _ _=>rfl)) (e_ix (v3 2) e_int (fun _ _=>rfl))) (e_mul (e_ix (v3 1) e_int (fun _ _=>rfl)) (e_ix (v3 2) e_int (fun _ _=>rfl)))))) (s_one (s_ret (e_cmp (f:=fun i j=>decide (j < i)) op_gt (e_add (v3 3) (e_mul (e_ix (v3 0) e_int (fun _ _=>rfl)) (e_sub (e_mul (e_ix (v3 1) e_int (fun _ _=>rfl)) (e_ix (v3 2) e_int (fun _ _=>rfl))) (e_mul (e_ix (v3 1) e_int (fun _ _=>rfl)) (e_ix (v3 2) e_int (fun _ _=>rfl)))))) e_int (nomark _)))))),?_⟩)
 rintro as k hl ⟨p,q,r,rfl,bp,bq,br,hk⟩
 refine at3 (r:=[.val (dP p),.val (dP q),.val (dP r),.no]) rfl ?_
 have h1:=bp.a
 have h2:=bp.b
 have h3:=bp.c
 have h4:=bq.a
 have h5:=bq.b
 have h6:=bq.c
 have h7:=br.a
 have h8:=br.b
 have h9:=br.c
 have e:det3 p q r=p.1 * (q.2.1 * r.2.2 - q.2.2 * r.2.1) + p.2.1 * (q.2.2 * r.1 - q.1 * r.2.2) + p.2.2 * (q.1 * r.2.1 - q.2.1 * r.1):=by unfold det3 crs; grind
 rw [e] at hk
 walk_at "w"
 exact hk
theorem sc_law_is_spot:FnScope ["_law_p"] ["_law_p"] (defScope s_law_is_spot):=⟨rfl,rfl,rfl,by decide +kernel,rfl,by decide +kernel,by decide +kernel⟩
def F_isspotT:FS:=fun as k=>∃ (p:P3),as=[.val (dP p)]∧(PtP p)∧k (.val (.bl true))
theorem ok_isspotT (B:Blts mg)   (F:Fnd K mg "_law_is_spot" s_law_is_spot ["_law_p"]) (c_law_whole:Cal P w K mg base "_law_whole" ["_law_found"] 2 (Con K 1 F_law_whole)) (c_law_measure:Cal P w K mg base "_law_measure" ["_law_one", "_law_other"] 2 (Con K 2 F_law_measure)) :
  Cal P w K mg base "_law_is_spot" ["_law_p"] 3 (Con K 1 F_isspotT):=by
 refine def3 (lv:=2) F sc_law_is_spot rfl (fun f cdv A outer s H E hr=>⟨_,(s_cons (s_if (w_t (w_or (t_not (t_val (e_isi (T := "tuple") (v3 0) (by rfl) B.isinstance_ (pe_bltn (v:=.ty "tuple") (u:=.type "tuple") (by rfl) B.tuple_ (by decide +kernel) rfl) rfl rfl rfl))) (w_or (t_cmp (f:=fun i j => !decide (i=j)) op_neI (e_len (v3 0) (by rfl) B.len_) e_int (nomark _)) (w_or1 (t_not (t_val (e_all (o_e (o_compG (ts:=["_law_number"]) (fr:=[]) (js:=[]) (i_tup (v3 0)) (fun _ _ _ _=>(g_name (i:=0) (show List.Nodup (["_law_number"]:List Str) by decide +kernel) rfl (Or.inl rfl))) (fun _ _ _ _=>ifs_nil) (fun _ _ _ _=>(e_call c_law_whole hr (by rfl) (a_val (v3 0) a_nil))) ⟨rfl,by decide +kernel,rfl,by decide +kernel,fsub_of (List.forall_mem_nil _),fhas_b rfl,by walk_at "ffr", rfl⟩)) rfl (by rfl) B.all_))))))) (s_one (s_ret e_bl)) s_nil) (s_one (s_ret (e_and (e_cmp (f:=fun i j=>decide (j < i)) op_gt (e_ix (v3 0) e_int (fun _ _=>rfl)) e_int (nomark _)) (e_one (e_cmp (f:=fun i j=>decide (i=j)) op_eqI (e_call c_law_measure hr (by rfl) (a_val (e_call c_law_measure hr (by rfl) (a_val (e_ix (v3 0) e_int (fun _ _=>rfl)) (a_val (e_ix (v3 0) e_int (fun _ _=>rfl)) a_nil))) (a_val (e_ix (v3 0) e_int (fun _ _=>rfl)) a_nil))) e_int (nomark _))))))),?_⟩)
 rintro as k hl ⟨p,rfl,hp,hk⟩
 refine at3 (r:=[.val (dP p)]) rfl ?_
 have eg:((Int.gcd ((Int.gcd p.1 p.2.1:Nat):Int) p.2.2:Nat):Int)=1:=by rw [hp.2]; rfl
 have n0:=hp.1
 refine pass4 (fun N kk=>?_) ?_
 ·refine ⟨_,rfl,_,_,rfl,fun _=>rfl,_,rfl,iteF ?_⟩
  refine ⟨_,rfl,_,rfl,_,_,rfl,rfl,_,rfl,iteF ?_⟩
  refine ⟨_,rfl,_,rfl,by show 3≤sizeLine; decide,?_⟩
  refine compG_map (f:=D.int) (h:=fun _=>D.bl true) (rs:=[p.1,p.2.1,p.2.2]) (fun i hi k hk=>⟨_,rfl,rfl,i,rfl,hk⟩) ?_
  exact ⟨_,rfl,fun d hd=>by simp at hd; exact hd,_,rfl,iteF kk⟩
 walk_at "w"
 rw [if_pos (decide_eq_true n0)]
 walk_at "w"
 refine ⟨_,_,rfl,?_⟩
 dsimp only [fzR]
 walk_at "w"
 refine ⟨_,_,rfl,?_⟩
 dsimp only [fzR]
 rw [eg]
 exact ⟨_,_,rfl,rfl,hk⟩
theorem sc_law_is_bulging:FnScope ["_law_ring", "_law_turns", "_law_fans"] ["_law_ring"] (defScope s_law_is_bulging):=⟨rfl,rfl,rfl,by decide +kernel,rfl,by decide +kernel,by decide +kernel⟩
def F_bulgT:FS:=fun as k=>∃ (ps:List P3),as=[.val (.lst (ps.map dP))]∧(ps.length≤75)∧(Cvx ps)∧(∀ p∈ps,GP 2950 p)∧k (.val (.bl true))
theorem ok_bulgT (B:Blts mg)   (F:Fnd K mg "_law_is_bulging" s_law_is_bulging ["_law_ring"]) (c_law_is_spot:Cal P w K mg base "_law_is_spot" ["_law_p"] 3 (Con K 1 F_isspotT)) (c_law_left:Cal P w K mg base "_law_left" ["_law_p", "_law_q", "_law_r"] 2 (Con K 3 F_leftT)) :
  Cal P w K mg base "_law_is_bulging" ["_law_ring"] 4 (Con K 1 F_bulgT):=by
 refine def3 (lv:=3) F sc_law_is_bulging rfl (fun f cdv A outer s H E hr=>⟨_,(s_cons (s_if (w_t (w_or (t_not (t_val (e_isi (T := "list") (v3 0) (by rfl) B.isinstance_ (pe_bltn (v:=.ty "list") (u:=.type "list") (by rfl) B.list_ (by decide +kernel) rfl) rfl rfl rfl))) (w_or (t_cmp (f:=fun i j=>decide (i < j)) op_lt (e_len (v3 0) (by rfl) B.len_) e_int (nomark _)) (w_or1 (t_not (t_val (e_all (o_e (o_compG (ts:=["_law_p"]) (fr:=[]) (js:=[]) (i_list (v3 0)) (fun _ _ _ _=>(g_name (i:=0) (show List.Nodup (["_law_p"]:List Str) by decide +kernel) rfl (Or.inl rfl))) (fun _ _ _ _=>ifs_nil) (fun _ _ _ _=>(e_call c_law_is_spot hr (by rfl) (a_val (v3 0) a_nil))) ⟨rfl,by decide +kernel,rfl,by decide +kernel,fsub_of (List.forall_mem_nil _),fhas_b rfl,by walk_at "ffr", rfl⟩)) rfl (by rfl) B.all_))))))) (s_one (s_ret e_bl)) s_nil) (s_cons (s_thenFz 1 (s_compA (i:=1) sc_law_is_bulging.nd rfl rfl (ts:=["_law_k"]) (fr:=["_law_ring"]) (js:=[0]) (i_rng (e_len (v3 0) (by rfl) B.len_) (by rfl) B.range_) (fun _ _ _ _=>(g_name (i:=0) (show List.Nodup (["_law_k", "_law_ring"]:List Str) by decide +kernel) rfl (Or.inl rfl))) (fun _ _ _ _=>ifs_nil) (fun _ _ _ _=>(e_call c_law_left hr (by rfl) (a_val (e_ix (v3 1) (e_sub (v3 0) e_int) (fun _ _=>rfl)) (a_val (e_ix (v3 1) (e_sub (v3 0) e_int) (fun _ _=>rfl)) (a_val (e_ix (v3 1) (v3 0) (fun _ _=>rfl)) a_nil))))) ⟨rfl,by decide +kernel,rfl,by decide +kernel,fsub_of (List.forall_mem_cons.mpr ⟨rfl,(List.forall_mem_nil _)⟩),fhas_b rfl,by walk_at "ffr", rfl⟩)) (s_cons (s_thenFz 2 (s_compA (i:=2) sc_law_is_bulging.nd rfl rfl (ts:=["_law_k"]) (fr:=["_law_ring"]) (js:=[0]) (i_rng2 e_int (e_sub (e_len (v3 0) (by rfl) B.len_) e_int) (by rfl) B.range_) (fun _ _ _ _=>(g_name (i:=0) (show List.Nodup (["_law_k", "_law_ring"]:List Str) by decide +kernel) rfl (Or.inl rfl))) (fun _ _ _ _=>ifs_nil) (fun _ _ _ _=>(e_call c_law_left hr (by rfl) (a_val (e_ix (v3 1) e_int (fun _ _=>rfl)) (a_val (e_ix (v3 1) (v3 0) (fun _ _=>rfl)) (a_val (e_ix (v3 1) (e_add (v3 0) e_int) (fun _ _=>rfl)) a_nil))))) ⟨rfl,by decide +kernel,rfl,by decide +kernel,fsub_of (List.forall_mem_cons.mpr ⟨rfl,(List.forall_mem_nil _)⟩),fhas_b rfl,by walk_at "ffr", rfl⟩)) (s_one (s_ret (e_and (e_notIn (hr.units) e_bl (v3 1) (by rfl)) (e_one (e_notIn (hr.units) e_bl (v3 2) (by rfl))))))))),?_⟩)
 rintro as k hl ⟨ps,rfl,hl,cv,hp,hk⟩
 refine at3 (r:=[.val (.lst (ps.map dP)),.no,.no]) rfl ?_
 have big:75≤sizeLine:=by decide
 have l3:=cv.1
 have len:(ps.map dP).length=ps.length:=List.length_map ..
 have gp:∀ n,n < ps.length→GP 2950 (nth ps n):=fun n h=>hp _ (nth_mem h)
 refine pass4 (fun N kk=>?_) ?_
 ·refine ⟨_,rfl,_,_,rfl,fun _=>rfl,_,rfl,iteF ?_⟩
  refine ⟨_,rfl,_,rfl,_,_,rfl,rfl,_,rfl,iteD (fun g=>by rw [len] at g; omega) (fun _=>?_)⟩
  refine ⟨_,rfl,_,rfl,by rw [len]; omega,?_⟩
  refine compG_map (f:=dP) (h:=fun _=>D.bl true) (fun p hm k hk=>⟨_,rfl,rfl,p,rfl,(hp p hm).pt,hk⟩) ?_
  exact ⟨_,rfl,fun d hd=>by obtain ⟨_,_,e⟩:=List.mem_map.mp hd; exact e.symm,_,rfl,iteF kk⟩
 refine mid4 (fun ρ=>ρ=[.val (.lst (ps.map dP)),.val (.lst ((List.range ps.length).map fun _=>D.bl true)),.no]) ?_ (fun N kk=>?_)
 rotate_left
 ·refine ⟨_,rfl,_,rfl,_,rfl,by omega,by rw [len]; omega,by rw [List.length_map,List.length_range]; omega,?_⟩
  rw [len,show ((ps.length:Nat):Int).toNat=ps.length by omega]
  refine compG_map (f:=fun t:Nat=>D.int t) (h:=fun _=>D.bl true) (fun i hi k hk=>?_) ⟨_,rfl,kk _ rfl⟩
  have hi:=List.mem_range.mp hi
  refine ⟨_,rfl,_,rfl,_,_,rfl,rfl,_,_,_,.inr rfl,rfl,atI_back2 hi (by omega),?_⟩
  refine ⟨_,rfl,_,rfl,_,_,rfl,rfl,_,_,_,.inr rfl,rfl,atI_back1 hi,?_⟩
  refine ⟨_,rfl,_,rfl,_,_,_,.inr rfl,rfl,atI_nth hi,rfl,_,_,_,rfl,(gp _ (Nat.mod_lt _ (by omega))).bp,(gp _ (Nat.mod_lt _ (by omega))).bp,(gp _ hi).bp,?_⟩
  rw [decide_eq_true (cv.turn hi)]
  exact hk
 rintro ρ rfl
 refine mid4 (fun ρ=>ρ=[.val (.lst (ps.map dP)),.val (.lst ((List.range ps.length).map fun _=>D.bl true)),.val (.lst ((List.range (ps.length - 2)).map fun _=>D.bl true))]) ?_ (fun N kk=>?_)
 rotate_left
 ·walk_at "w"
  have at1:∀ t:Nat,t + 1 < ps.length→atI (ps.map dP) (1 + (t:Int))=some (dP (nth ps (t + 1))):=fun t h=>by
   rw [show (1 + (t:Int))=((t + 1:Nat):Int) by omega]; exact atI_nth h
  refine ⟨⟨by decide,by decide,by rw [len]; omega,by rw [len]; omega⟩,by rw [List.length_map,List.length_range,len]; omega,?_⟩
  rw [len,show ((ps.length:Int) - 1 - 1).toNat=ps.length - 2 by omega]
  refine compG_map (f:=fun t:Nat=>D.int (1 + t)) (h:=fun _=>D.bl true) (fun i hi k hk=>?_) ⟨_,rfl,kk _ rfl⟩
  have hi:=List.mem_range.mp hi
  refine ⟨_,rfl,_,_,_,.inr rfl,rfl,atI_nth (n:=0) (by omega),?_⟩
  refine ⟨_,rfl,_,rfl,_,_,_,.inr rfl,rfl,at1 i (by omega),?_⟩
  refine ⟨_,rfl,_,rfl,_,_,rfl,rfl,_,_,_,.inr rfl,rfl,by rw [show (1 + (i:Int) + 1)=(1 + ((i + 1:Nat):Int)) by omega]; exact at1 (i + 1) (by omega),rfl,_,_,_,rfl,(gp 0 (by omega)).bp,(gp (i + 1) (by omega)).bp,(gp (i + 2) (by omega)).bp,?_⟩
  rw [decide_eq_true (cv.fan (k:=i + 1) (by omega) (by omega))]
  exact hk
 rintro ρ rfl
 have nin:∀ n:Nat,¬ D.bl false∈(List.range n).map fun _=>D.bl true:=fun n h=>by
  obtain ⟨_,_,e⟩:=List.mem_map.mp h
  cases e
 have hB:∀ n:Nat,∀ e∈(List.range n).map (fun _=>D.bl true),has .B e=true:=fun n e h=>by
  obtain ⟨_,_,rfl⟩:=List.mem_map.mp h
  rfl
 refine ⟨_,rfl,.B,_,.inl rfl,rfl,hB _,by decide,fun b hb=>?_⟩
 have eb:b=false:=by
  cases b with
  | false=>rfl
  | true=>exact absurd (hb.mp rfl) (nin _)
 subst eb
 refine ⟨_,rfl,?_⟩
 rw [if_pos rfl]
 refine ⟨_,rfl,.B,_,.inl rfl,rfl,hB _,by decide,fun b hb=>?_⟩
 have eb:b=false:=by
  cases b with
  | false=>rfl
  | true=>exact absurd (hb.mp rfl) (nin _)
 subst eb
 exact hk
theorem sc_law_between:FnScope ["_law_p", "_law_q", "_law_part_here", "_law_many", "_law_x", "_law_y"] ["_law_p", "_law_q", "_law_part_here", "_law_many"] (defScope s_law_between):=⟨rfl,rfl,rfl,by decide +kernel,rfl,by decide +kernel,by decide +kernel⟩
def F_btwT:FS:=fun as k=>∃ (p q:P3) (t:Int),as=[.val (dP p),.val (dP q),.val (.int t),.val (.int 3)]∧(GP 2000 p)∧(GP 2000 q)∧(1≤t)∧(t≤2)∧k (.val (dP (btP p q t)))
theorem ok_btwT (B:Blts mg)   (F:Fnd K mg "_law_between" s_law_between ["_law_p", "_law_q", "_law_part_here", "_law_many"]) (c_law_spot:Cal P w K mg base "_law_spot" ["_law_x", "_law_y", "_law_bottom"] 3 (Con K 3 F_spotB)) :
  Cal P w K mg base "_law_between" ["_law_p", "_law_q", "_law_part_here", "_law_many"] 4 (Con K 4 F_btwT):=by
 refine def3 (lv:=3) F sc_law_between rfl (fun f cdv A outer s H E hr=>⟨_,(s_cons (s_set (i:=4) sc_law_between.nd rfl (Or.inl rfl) (e_add (e_mul (e_mul (e_ix (v3 0) e_int (fun _ _=>rfl)) (e_ix (v3 1) e_int (fun _ _=>rfl))) (e_sub (v3 3) (v3 2))) (e_mul (e_mul (e_ix (v3 1) e_int (fun _ _=>rfl)) (e_ix (v3 0) e_int (fun _ _=>rfl))) (v3 2)))) (s_cons (s_set (i:=5) sc_law_between.nd rfl (Or.inl rfl) (e_add (e_mul (e_mul (e_ix (v3 0) e_int (fun _ _=>rfl)) (e_ix (v3 1) e_int (fun _ _=>rfl))) (e_sub (v3 3) (v3 2))) (e_mul (e_mul (e_ix (v3 1) e_int (fun _ _=>rfl)) (e_ix (v3 0) e_int (fun _ _=>rfl))) (v3 2)))) (s_one (s_ret (e_call c_law_spot hr (by rfl) (a_val (v3 4) (a_val (v3 5) (a_val (e_mul (e_mul (e_ix (v3 0) e_int (fun _ _=>rfl)) (e_ix (v3 1) e_int (fun _ _=>rfl))) (v3 3)) a_nil)))))))),?_⟩)
 rintro as k hl ⟨p,q,t,rfl,hp,hq,t1,t2,hk⟩
 refine at3 (r:=[.val (dP p),.val (dP q),.val (.int t),.val (.int 3),.no,.no]) rfl ?_
 have h1:=hp.bp.a
 have h2:=hp.bp.b
 have h3:=hp.bp.c
 have h4:=hq.bp.a
 have h5:=hq.bp.b
 have h6:=hq.bp.c
 have n0:0 < p.2.2 * q.2.2 * 3:=Int.mul_pos (Int.mul_pos hp.pt.1 hq.pt.1) (by decide)
 walk_at "w"
 exact ⟨_,_,_,rfl,n0,by walk_at "bits", hk⟩
theorem sc_law_cut:FnScope ["_law_bag_here", "_law_ring", "_law_i", "_law_j", "_law_p", "_law_q"] ["_law_bag_here", "_law_ring"] (defScope s_law_cut):=⟨rfl,rfl,rfl,by decide +kernel,rfl,by decide +kernel,by decide +kernel⟩
def F_cutT:FS:=fun as k=>∃ (ps:List P3) (m:Nat),as=[.bag,.val (dH ps)]∧(Cvx ps)∧(∀ x∈ps,GP m x)∧(m≤700)∧(ps.length≤50)∧∀ qs rs,CutOk (2 * m + 3) (ps.length + 1) ps qs rs→k (.val (.tup [dH qs,dH rs]))
theorem ok_cutT (B:Blts mg)   (F:Fnd K mg "_law_cut" s_law_cut ["_law_bag_here", "_law_ring"]) (c_law_draw:Cal P w K mg base "_law_draw" ["_law_bag_here", "_law_many"] 1 (Con K 2 (F_draw 400))) (c_law_between:Cal P w K mg base "_law_between" ["_law_p", "_law_q", "_law_part_here", "_law_many"] 4 (Con K 4 F_btwT)) :
  Cal P w K mg base "_law_cut" ["_law_bag_here", "_law_ring"] 5 (Con K 2 F_cutT):=by
 refine def3 (lv:=4) F sc_law_cut rfl (fun f cdv A outer s H E hr=>⟨_,(s_cons (s_set (i:=2) sc_law_cut.nd rfl (Or.inl rfl) (e_call c_law_draw hr (by rfl) (a_bag 0 (a_val (e_len (v3 1) (by rfl) B.len_) a_nil)))) (s_cons (s_set (i:=3) sc_law_cut.nd rfl (Or.inl rfl) (e_call c_law_draw hr (by rfl) (a_bag 0 (a_val (e_sub (e_len (v3 1) (by rfl) B.len_) e_int) a_nil)))) (s_cons (s_asg (o_e (o_sort (o_e (o_lst (l_cons (v3 2) (l_cons (e_add (v3 3) (e_toInt (e_cmp (f:=fun i j=>decide (j≤i)) op_ge (v3 3) (v3 2) (nomark _)) (by rfl) B.int_)) l_nil)))) (by rfl) B.sorted_)) (g_lst (n:=2) rfl (gs_cons (g_name (i:=2) sc_law_cut.nd rfl (Or.inl rfl)) (gs_cons (g_name (i:=3) sc_law_cut.nd rfl (Or.inl rfl)) gs_nil)))) (s_cons (s_set (i:=4) sc_law_cut.nd rfl (Or.inl rfl) (e_call c_law_between hr (by rfl) (a_val (e_ix (v3 1) (v3 2) (fun _ _=>rfl)) (a_val (e_ix (v3 1) (e_add (v3 2) e_int) (fun _ _=>rfl)) (a_val (e_add e_int (e_call c_law_draw hr (by rfl) (a_bag 0 (a_val e_int a_nil)))) (a_val e_int a_nil)))))) (s_cons (s_set (i:=5) sc_law_cut.nd rfl (Or.inl rfl) (e_call c_law_between hr (by rfl) (a_val (e_ix (v3 1) (v3 3) (fun _ _=>rfl)) (a_val (e_ix (v3 1) (e_mod (e_add (v3 3) e_int) (e_len (v3 1) (by rfl) B.len_)) (fun _ _=>rfl)) (a_val (e_add e_int (e_call c_law_draw hr (by rfl) (a_bag 0 (a_val e_int a_nil)))) (a_val e_int a_nil)))))) (s_one (s_ret (e_tup (l_cons (o_e (o_cat (o_e (o_cat (o_e (o_lst (l_cons (v3 4) l_nil))) (o_e (o_slice (v3 1) (p_some (e_add (v3 2) e_int)) (p_some (e_add (v3 3) e_int)))))) (o_e (o_lst (l_cons (v3 5) l_nil))))) (l_cons (o_e (o_cat (o_e (o_cat (o_e (o_cat (o_e (o_lst (l_cons (v3 5) l_nil))) (o_e (o_slice (v3 1) (p_some (e_add (v3 3) e_int)) p_none)))) (o_e (o_slice (v3 1) p_none (p_some (e_add (v3 2) e_int)))))) (o_e (o_lst (l_cons (v3 4) l_nil))))) l_nil)))))))))),?_⟩)
 rintro as k hl ⟨ps,m,rfl,cv,hp,hm,hl,hk⟩
 refine at3 (r:=[.bag,.val (dH ps),.no,.no,.no,.no]) rfl ?_
 have l3:=cv.1
 have len:(ps.map dP).length=ps.length:=List.length_map ..
 have big:10000≤sizeLine:=by decide
 have gp:∀ n,n < ps.length→GP 2000 (nth ps n):=fun n h=>(hp _ (nth_mem h)).mono (by omega)
 walk_at "w"
 intro a a0 a1
 walk_at "w"
 intro b b0 b1
 rw [len] at a1 b1
 walk_at "w"
 refine .inr ⟨_,rfl,_,_,rfl,rfl,by show 2≤sizeLine; decide,[a,_],rfl,by show 2 < 64; decide,fun ns pm sd=>?_⟩
 obtain ⟨I,J,rfl,ij,jn⟩:=two_of a0 a1 b0 b1 pm sd
 clear pm sd
 refine ⟨_,rfl,rfl,_,_,rfl,_,_,rfl,rfl,?_⟩
 refine ⟨_,rfl,_,rfl,_,_,_,.inr rfl,rfl,atI_nth (show I < ps.length by omega),?_⟩
 refine ⟨_,rfl,_,rfl,_,_,rfl,rfl,_,_,_,.inr rfl,rfl,atI_nth (n:=I + 1) (show I + 1 < ps.length by omega),?_⟩
 walk_at "w"
 intro c c0 c1
 walk_at "w"
 refine ⟨nth ps I,nth ps (I + 1),1 + c,rfl,gp _ (by omega),gp _ (by omega),by omega,by omega,?_⟩
 dsimp only [fzR]
 have k2:(J + 1) % ps.length < ps.length:=Nat.mod_lt _ (by omega)
 have am:atI (ps.map dP) (((J:Int) + 1) % ((ps.map dP).length:Int))=some (dP (nth ps ((J + 1) % ps.length))):=by
  rw [len,show ((J:Int) + 1) % (ps.length:Int)=(((J + 1) % ps.length:Nat):Int) by push_cast; rfl]
  exact atI_nth k2
 refine ⟨_,rfl,_,rfl,_,_,_,.inr rfl,rfl,atI_nth (n:=J) jn,?_⟩
 refine ⟨_,rfl,_,rfl,_,_,rfl,rfl,?_⟩
 refine ⟨_,rfl,_,rfl,_,_,rfl,rfl,by rw [len]; omega,_,_,_,.inr rfl,rfl,am,?_⟩
 walk_at "w"
 intro d d0 d1
 walk_at "w"
 refine ⟨nth ps J,nth ps ((J + 1) % ps.length),1 + d,rfl,gp _ (by omega),gp _ k2,by omega,by omega,?_⟩
 dsimp only [fzR]
 have ok:=cut_ok (t:=1 + c) (u:=1 + d) cv hp ij jn (by omega) (by omega) (by omega) (by omega)
 generalize btP (nth ps I) (nth ps (I + 1)) (1 + c)=M at ok ⊢
 generalize btP (nth ps J) (nth ps ((J + 1) % ps.length)) (1 + d)=N at ok ⊢
 have s1:=cutL_le (ps.map dP) (some ((I:Int) + 1)) (some ((J:Int) + 1))
 have s2:=cutL_le (ps.map dP) (some ((J:Int) + 1)) none
 have s3:=cutL_le (ps.map dP) none (some ((I:Int) + 1))
 have hk:=hk _ _ ok
 rw [cuA_D ij jn,cuB_D ij jn] at hk
 walk_at "w"
 refine ⟨by simp only [List.length_append,List.length_cons,List.length_nil]; omega,?_⟩
 walk_at "w"
 refine ⟨by simp only [List.length_append,List.length_cons,List.length_nil]; omega,?_⟩
 walk_at "w"
 refine ⟨by simp only [List.length_append,List.length_cons,List.length_nil]; omega,?_⟩
 walk_at "w"
 refine ⟨by simp only [List.length_append,List.length_cons,List.length_nil]; omega,?_⟩
 walk_at "w"
 refine ⟨by simp only [List.length_append,List.length_cons,List.length_nil]; omega,?_⟩
 walk_at "w"
 exact hk
theorem sc_law_sheet:FnScope ["_law_bag_here", "_law_ring", "_law_cuts", "_law_parts", "_law_k", "_law_made", "_law_part_here", "_law_flag", "_law_x"] ["_law_bag_here", "_law_ring", "_law_cuts"] (defScope s_law_sheet):=⟨rfl,rfl,rfl,by decide +kernel,rfl,by decide +kernel,by decide +kernel⟩
def F_sheetT:FS:=fun as k=>∃ (ps:List P3),as=[.bag,.val (dH ps),.val (.int 3)]∧(Cvx ps)∧(∀ x∈ps,GP 70 x)∧(ps.length≤3)∧∀ sh:List Piece,(∀ t∈sh,GL 600 6 t)→sh.length≤4→Bal (sh.map fun t=>t.1) [ps]→k (.val (.lst (sh.map dS)))
theorem ok_sheetT (B:Blts mg)   (F:Fnd K mg "_law_sheet" s_law_sheet ["_law_bag_here", "_law_ring", "_law_cuts"]) (c_law_draw:Cal P w K mg base "_law_draw" ["_law_bag_here", "_law_many"] 1 (Con K 2 (F_draw 400))) (c_law_cut:Cal P w K mg base "_law_cut" ["_law_bag_here", "_law_ring"] 5 (Con K 2 F_cutT)) (c_law_spot:Cal P w K mg base "_law_spot" ["_law_x", "_law_y", "_law_bottom"] 3 (Con K 3 F_spotB)) :
  Cal P w K mg base "_law_sheet" ["_law_bag_here", "_law_ring", "_law_cuts"] 6 (Con K 3 F_sheetT):=by
 refine def3 (lv:=5) F sc_law_sheet rfl (fun f cdv A outer s H E hr=>⟨_,(s_cons (s_setO (i:=3) sc_law_sheet.nd rfl (Or.inl rfl) (o_lst (l_cons (v3 1) l_nil))) (s_cons (s_for PassesOwn.never rfl (i_rng (e_call c_law_draw hr (by rfl) (a_bag 0 (a_val (e_add (v3 2) e_int) a_nil))) (by rfl) B.range_) (g_name (i:=4) sc_law_sheet.nd rfl (Or.inl rfl)) (s_one (s_extC 3 0 c_law_cut hr (by rfl) (e_call c_law_draw hr (by rfl) (a_bag 0 (a_val (e_lenO 3 (by rfl) B.len_) a_nil)))))) (s_cons (s_setO (i:=5) sc_law_sheet.nd rfl (Or.inl rfl) (o_lst l_nil)) (s_fz 3 (s_cons (s_for PassesOwn.never rfl (i_list (v3 3)) (g_name (i:=6) sc_law_sheet.nd rfl (Or.inl rfl)) (s_cons (s_set (i:=7) sc_law_sheet.nd rfl (Or.inl rfl) (e_cmp (f:=fun i j=>decide (i=j)) op_eqI (e_call c_law_draw hr (by rfl) (a_bag 0 (a_val e_int a_nil))) e_int (nomark _))) (s_cons (s_set (i:=8) sc_law_sheet.nd rfl (Or.inl rfl) (e_sub (e_call c_law_draw hr (by rfl) (a_bag 0 (a_val e_int a_nil))) e_int)) (s_one (s_app 5 (e_tup (l_cons (v3 6) (l_cons (v3 7) (l_cons (e_call c_law_spot hr (by rfl) (a_val (v3 8) (a_val (e_sub (e_call c_law_draw hr (by rfl) (a_bag 0 (a_val e_int a_nil))) e_int) (a_val (e_add e_int (e_call c_law_draw hr (by rfl) (a_bag 0 (a_val e_int a_nil)))) a_nil)))) l_nil))))))))) (s_fz 5 (s_one (s_ret (v3 5))))))))),?_⟩)
 rintro as k hl ⟨ps,rfl,cv,hp,hl,hk⟩
 refine at3 (r:=[.bag,.val (dH ps),.val (.int 3),.no,.no,.no,.no,.no,.no]) rfl ?_
 have big:10000≤sizeLine:=by decide
 walk_at "w"
 intro c c0 c1
 refine ⟨_,rfl,by omega,by omega,?_⟩
 refine forR_rng (fun i ρ=>∃ (rs:List (List P3)) (v4:Sl),ρ=[.bag,.val (dH ps),.val (.int 3),.own (.l (rs.map dH)),v4,.no,.no,.no,.no]∧PartsOk ps i rs) ⟨[ps],_,rfl,parts_start cv hp hl⟩ ?_ (fun ρ h=>?_)
 ·rintro i ρ hi ⟨rs,v4,rfl,ok⟩ N kk
  have lr:=ok.ln
  have len:(rs.map dH).length=rs.length:=List.length_map ..
  refine ⟨rs.map dH,rfl,rfl,?_⟩
  walk_at "w"
  intro n n0 n1
  dsimp only [fzR]
  obtain ⟨j,rfl⟩:∃ j:Nat,n=j:=⟨n.toNat,by omega⟩
  have hj:j < rs.length:=by omega
  have hr:rs[j]?=some rs[j]:=List.getElem?_eq_getElem hj
  have hm:rs[j]∈rs:=List.getElem_mem hj
  generalize rs[j]=r at hr hm
  have le:=ok.le r hm
  refine ⟨j,dH r,rfl,by omega,by rw [List.getElem?_map,hr]; rfl,?_⟩
  refine ⟨r,gm i,rfl,ok.cv r hm,ok.gp r hm,gm_289 (by omega),by omega,fun qs us co=>?_⟩
  refine ⟨[dH qs,dH us],rfl,by rw [len]; show rs.length + 2≤_; omega,kk _ ⟨rs.eraseIdx j ++ [qs,us],.val (.int i),?_,ok.step hr co⟩⟩
  rw [List.map_append,map_erase]
  rfl
 obtain ⟨rs,v4,rfl,ok⟩:=h
 walk_at "w"
 have lr:=ok.ln
 refine forR_map (f:=dH) (rs:=rs) (done:=[]) (fun pre ρ=>∃ (sh:List Piece) (v4 v6 v7 v8:Sl),ρ=[.bag,.val (dH ps),.val (.int 3),.val (.lst (rs.map dH)),v4,.own (.l (sh.map dS)),v6,v7,v8]∧(sh.map fun t=>t.1)=pre∧∀ t∈sh,GP 700 t.2.2) ⟨[],_,_,_,_,rfl,rfl,fun t ht=>absurd ht (by simp)⟩ ?_ (fun ρ h=>?_)
 rotate_left
 ·obtain ⟨sh,v4,v6,v7,v8,rfl,e,st⟩:=h
  rw [List.nil_append] at e
  rw [← e] at ok
  obtain ⟨h1,h2,h3⟩:=ok.sheet (by omega) st
  exact ⟨_,rfl,_,rfl,hk sh h1 h2 h3⟩
 rintro pre r rest ρ he ⟨sh,v4,v6,v7,v8,rfl,e,st⟩ N kk
 walk_at "w"
 intro f f0 f1
 walk_at "w"
 intro x x0 x1
 walk_at "w"
 intro y y0 y1
 walk_at "w"
 intro z z0 z1
 walk_at "w"
 refine ⟨x - 40,y - 40,1 + z,rfl,by omega,by walk_at "bits", ?_⟩
 dsimp only [fzR]
 have gs:=gp_step (x:=x - 40) (y:=y - 40) (n:=1 + z) (by omega) (by omega) (by omega) (by omega) (by omega) (by omega)
 have lsh:sh.length≤rs.length:=by
  have q:=congrArg List.length he
  rw [List.nil_append,List.length_append,List.length_cons,← e,List.length_map] at q
  omega
 refine ⟨by show 3≤sizeLine; decide,by rw [List.length_map]; omega,kk _ ⟨sh ++ [(r,decide (f=0),npt (x - 40) (y - 40) (1 + z))],_,_,_,_,by rw [List.map_append]; rfl,by rw [List.map_append,e]; rfl,fun t ht=>?_⟩⟩
 rcases List.mem_append.mp ht with ht | ht
 ·exact st t ht
 ·rw [List.mem_singleton.mp ht]; exact gs
theorem sc_law_first:FnScope ["_law_piece", "_law_ring", "_law_flag", "_law_step", "_law_sign", "_law_made", "_law_p", "_law_x", "_law_y"] ["_law_piece"] (defScope s_law_first):=⟨rfl,rfl,rfl,by decide +kernel,rfl,by decide +kernel,by decide +kernel⟩
def F_firstT:FS:=fun as k=>∃ (s:Piece),as=[.val (dS s)]∧(s.1.length≤75)∧(∀ p∈s.1,GP 2900 p)∧(GP 1000 s.2.2)∧k (.val (.lst ((firstR s).map dP)))
theorem ok_firstT (B:Blts mg)   (F:Fnd K mg "_law_first" s_law_first ["_law_piece"]) (c_law_spot:Cal P w K mg base "_law_spot" ["_law_x", "_law_y", "_law_bottom"] 3 (Con K 3 F_spotB)) :
  Cal P w K mg base "_law_first" ["_law_piece"] 4 (Con K 1 F_firstT):=by
 refine def3 (lv:=3) F sc_law_first rfl (fun f cdv A outer s H E hr=>⟨_,(s_cons (s_asg (v3 0) (g_tup (n:=3) rfl (gs_cons (g_name (i:=1) sc_law_first.nd rfl (Or.inl rfl)) (gs_cons (g_name (i:=2) sc_law_first.nd rfl (Or.inl rfl)) (gs_cons (g_name (i:=3) sc_law_first.nd rfl (Or.inl rfl)) gs_nil))))) (s_cons (s_set (i:=4) sc_law_first.nd rfl (Or.inl rfl) (e_sub e_int (e_mul e_int (e_toInt (v3 2) (by rfl) B.int_)))) (s_cons (s_setO (i:=5) sc_law_first.nd rfl (Or.inl rfl) (o_lst l_nil)) (s_cons (s_for PassesOwn.never rfl (i_list (v3 1)) (g_name (i:=6) sc_law_first.nd rfl (Or.inl rfl)) (s_cons (s_set (i:=7) sc_law_first.nd rfl (Or.inl rfl) (e_sub (e_mul (e_ix (v3 6) e_int (fun _ _=>rfl)) (e_ix (v3 3) e_int (fun _ _=>rfl))) (e_mul (e_ix (v3 3) e_int (fun _ _=>rfl)) (e_ix (v3 6) e_int (fun _ _=>rfl))))) (s_cons (s_set (i:=8) sc_law_first.nd rfl (Or.inl rfl) (e_sub (e_mul (e_ix (v3 6) e_int (fun _ _=>rfl)) (e_ix (v3 3) e_int (fun _ _=>rfl))) (e_mul (e_ix (v3 3) e_int (fun _ _=>rfl)) (e_ix (v3 6) e_int (fun _ _=>rfl))))) (s_one (s_app 5 (e_call c_law_spot hr (by rfl) (a_val (e_mul (v3 4) (v3 7)) (a_val (e_mul (v3 4) (v3 8)) (a_val (e_mul (e_ix (v3 6) e_int (fun _ _=>rfl)) (e_ix (v3 3) e_int (fun _ _=>rfl))) a_nil))))))))) (s_fz 5 (s_one (s_ret (v3 5)))))))),?_⟩)
 rintro as k hl ⟨s,rfl,hl,hp,hs,hk⟩
 refine at3 (r:=[.val (dS s),.no,.no,.no,.no,.no,.no,.no,.no]) rfl ?_
 have big:75≤sizeLine:=by decide
 have h1:=hs.bp.a
 have h2:=hs.bp.b
 have h3:=hs.bp.c
 refine ⟨_,rfl,_,rfl,rfl,_,_,rfl,_,_,rfl,_,_,rfl,rfl,?_⟩
 walk_at "w"
 have fb:(if s.2.1=true then (1:Int) else 0)=0∨(if s.2.1=true then (1:Int) else 0)=1:=by
  cases s.2.1 <;> simp
 have bf:intBits (if s.2.1=true then (1:Int) else 0)≤9:=by rcases fb with e | e <;> rw [e] <;> decide
 have bg:intBits (1 - 2 * (if s.2.1=true then (1:Int) else 0))≤9:=by rcases fb with e | e <;> rw [e] <;> decide
 refine .inr ⟨s.2.1,rfl,2,_,rfl,rfl,⟨by decide,Nat.le_trans bf (by decide)⟩,1,_,rfl,rfl,?_⟩
 have hk:k (.val (.lst ((s.1.map fun p=>npt ((1 - 2 * (if s.2.1=true then 1 else 0)) * (p.1 * s.2.2.2.2 - s.2.2.1 * p.2.2)) ((1 - 2 * (if s.2.1=true then 1 else 0)) * (p.2.1 * s.2.2.2.2 - s.2.2.2.1 * p.2.2)) (p.2.2 * s.2.2.2.2)).map dP))):=by
  rw [firstR_map] at hk
  have e:(s.1.map fun p=>npt ((1 - 2 * (if s.2.1=true then 1 else 0)) * (p.1 * s.2.2.2.2 - s.2.2.1 * p.2.2)) ((1 - 2 * (if s.2.1=true then 1 else 0)) * (p.2.1 * s.2.2.2.2 - s.2.2.2.1 * p.2.2)) (p.2.2 * s.2.2.2.2))=s.1.map fun p=>if s.2.1=true then trn (nP (sld (trn s.2.2) p)) else nP (sld (trn s.2.2) p):=List.map_congr_left fun p hm=>first_pt (hp p hm).pt hs.pt s.2.1
  rw [e]
  exact hk
 dsimp only
 generalize (1 - 2 * (if s.2.1=true then (1:Int) else 0))=g at bg hk ⊢
 refine at3 (r:=[.val (dS s),.val (.lst (s.1.map dP)),.val (.bl s.2.1),.val (dP s.2.2),.val (.int g),.no,.no,.no,.no]) rfl ?_
 walk_at "wd"
 refine forR_map (f:=dP) (rs:=s.1) (done:=[]) (fun pre ρ=>∃ v6 v7 v8,ρ=[.val (dS s),.val (.lst (s.1.map dP)),.val (.bl s.2.1),.val (dP s.2.2),.val (.int g),.own ((pre.map fun p=>npt (g * (p.1 * s.2.2.2.2 - s.2.2.1 * p.2.2)) (g * (p.2.1 * s.2.2.2.2 - s.2.2.2.1 * p.2.2)) (p.2.2 * s.2.2.2.2)).map dP),v6,v7,v8]) ⟨_,_,_,rfl⟩ ?_ (fun ρ h=>?_)
 rotate_left
 ·obtain ⟨v6,v7,v8,rfl⟩:=h
  exact ⟨_,rfl,_,rfl,hk⟩
 rintro pre p rest ρ he ⟨v6,v7,v8,rfl⟩ N kk
 have hm:p∈s.1:=by rw [List.nil_append] at he; rw [he]; simp
 have h4:=(hp p hm).bp.a
 have h5:=(hp p hm).bp.b
 have h6:=(hp p hm).bp.c
 have pl:pre.length < s.1.length:=by rw [List.nil_append] at he; rw [he,List.length_append,List.length_cons]; omega
 walk_at "w"
 refine ⟨_,_,_,rfl,Int.mul_pos (hp p hm).pt.1 hs.pt.1,by walk_at "bits", ?_⟩
 dsimp only [fzR]
 refine ⟨by rw [List.length_map,List.length_map]; omega,kk _ ⟨.val (dP p),.val (.int (p.1 * s.2.2.2.2 - s.2.2.1 * p.2.2)),.val (.int (p.2.1 * s.2.2.2.2 - s.2.2.2.1 * p.2.2)),?_⟩⟩
 rw [List.map_append,List.map_append]
 rfl
theorem sc_law_kept:FnScope ["_law_olds", "_law_news", "_law_flag", "_law_near"] ["_law_olds", "_law_news"] (defScope s_law_kept):=⟨rfl,rfl,rfl,by decide +kernel,rfl,by decide +kernel,by decide +kernel⟩
def F_keptT:FS:=fun as k=>∃ (os ns:List Piece),as=[.val (.lst (os.map dS)),.val (.lst (ns.map dS))]∧(os.length≤40)∧(ns.length≤40)∧(∀ s∈os,PcT s)∧(∀ s∈ns,PcT s)∧(∀ b:Bool,Bal ((ns.filter fun s=>s.2.1 == b).map firstR) ((os.filter fun s=>s.2.1 == b).map firstR))∧k (.val (.bl true))
theorem ok_keptT (B:Blts mg)   (F:Fnd K mg "_law_kept" s_law_kept ["_law_olds", "_law_news"]) (c_law_first:Cal P w K mg base "_law_first" ["_law_piece"] 4 (Con K 1 F_firstT)) (c_law_part:Cal P w K mg base "_law_part" ["_law_rings", "_law_others"] 5 (Con K 2 F_partT)) :
  Cal P w K mg base "_law_kept" ["_law_olds", "_law_news"] 6 (Con K 2 F_keptT):=by
 refine def3 (lv:=5) F sc_law_kept rfl (fun f cdv A outer s H E hr=>⟨_,(s_cons (s_for PassesOwn.never rfl (i_tup (e_tup (l_cons e_bl (l_cons e_bl l_nil)))) (g_name (i:=2) sc_law_kept.nd rfl (Or.inr rfl)) (s_cons (s_thenFz 3 (s_compA (i:=3) sc_law_kept.nd rfl rfl (ts:=["_law_piece"]) (fr:=["_law_flag"]) (js:=[2]) (i_list (v3 1)) (fun _ _ _ _=>(g_name (i:=0) (show List.Nodup (["_law_piece", "_law_flag"]:List Str) by decide +kernel) rfl (Or.inl rfl))) (fun _ _ _ _=>(ifs_one (t_eq (hr.units) (e_ix (v3 0) e_int (fun _ _=>rfl)) (v3 1) (nomark _)))) (fun _ _ _ _=>(e_call c_law_first hr (by rfl) (a_val (v3 0) a_nil))) ⟨rfl,by decide +kernel,rfl,by decide +kernel,fsub_of (List.forall_mem_cons.mpr ⟨rfl,(List.forall_mem_nil _)⟩),fhas_b rfl,by walk_at "ffr", rfl⟩)) (s_one (s_if (t_not (t_val (e_call c_law_part hr (by rfl) (a_val (v3 3) (a_val (o_e (o_compG (ts:=["_law_piece"]) (fr:=["_law_flag"]) (js:=[2]) (i_list (v3 0)) (fun _ _ _ _=>(g_name (i:=0) (show List.Nodup (["_law_piece", "_law_flag"]:List Str) by decide +kernel) rfl (Or.inl rfl))) (fun _ _ _ _=>(ifs_one (t_eq (hr.units) (e_ix (v3 0) e_int (fun _ _=>rfl)) (v3 1) (nomark _)))) (fun _ _ _ _=>(e_call c_law_first hr (by rfl) (a_val (v3 0) a_nil))) ⟨rfl,by decide +kernel,rfl,by decide +kernel,fsub_of (List.forall_mem_cons.mpr ⟨rfl,(List.forall_mem_nil _)⟩),fhas_b rfl,by walk_at "ffr", rfl⟩)) a_nil))))) (s_one (s_ret e_bl)) s_nil)))) (s_one (s_ret e_bl))),?_⟩)
 rintro as k hl ⟨os,ns,rfl,ho,hn,hos,hns,bal,hk⟩
 refine at3 (r:=[.val (.lst (os.map dS)),.val (.lst (ns.map dS)),.no,.no]) rfl ?_
 have big:1000≤sizeLine:=by decide
 refine mid4 (fun ρ=>∃ v2 v3,ρ=[.val (.lst (os.map dS)),.val (.lst (ns.map dS)),v2,v3]) ?_ (fun N kk=>?_)
 ·rintro ρ ⟨v2,v3,rfl⟩
  exact hk
 refine ⟨by show 2≤sizeLine; decide,_,rfl,?_⟩
 refine forR_map (f:=D.bl) (rs:=[false,true]) (done:=[]) (fun _ ρ=>∃ v2 v3,ρ=[.val (.lst (os.map dS)),.val (.lst (ns.map dS)),v2,v3]) ⟨_,_,rfl⟩ ?_ (fun ρ h=>kk _ h)
 clear kk
 rintro pre b rest ρ he ⟨v2,v3,rfl⟩ N kk
 have flt:∀ (L:List Piece),(∀ s∈L,PcT s)→L.length≤40→∀ (k:List D→Prop),k (((L.filter fun s=>s.2.1 == b).map firstR).map dH)→compG (ugName 0) (uB (uEq false (uIx (uVar 0) (uC (D.int 1))) (uVar 1))) (uCall 1 F_firstT (uaV (uVar 0) uaNil)) (L.map dS) [.no,.val (.bl b)] k:=fun L hL hl k hk=>by
  refine compG_flt (f:=dS) (h:=fun s=>dH (firstR s)) (P:=fun s=>s.2.1 == b) (fun s hm k hk=>?_) (fun s hm k hk=>?_) (by rw [List.map_map] at hk; exact hk)
  ·refine ⟨_,rfl,_,_,_,.inl rfl,rfl,rfl,_,rfl,.B,rfl,rfl,by decide,_,rfl,?_⟩
   rw [eqD_bl]
   exact hk
  ·have pc:=hL s hm
   exact ⟨_,rfl,rfl,s,rfl,Nat.le_trans pc.ln (by decide),fun p hp=>(pc.ps p hp),pc.st.mono (by decide),hk⟩
 have sz:∀ (L:List Piece),(∀ s∈L,PcT s)→L.length≤40→((((L.filter fun s=>s.2.1 == b).map firstR)).map List.length).sum≤960:=fun L hL hl=>by
  rw [List.map_map]
  have:=sum_le (f:=List.length ∘ firstR) (m:=24) (l:=L.filter fun s=>s.2.1 == b) fun s hm=>by
   show (firstR s).length≤24
   rw [firstR_len]
   exact (hL s (List.mem_filter.mp hm).1).ln
  have l2:=List.length_filter_le (fun s:Piece=>s.2.1 == b) L
  omega
 have rg:∀ (L:List Piece),(∀ s∈L,PcT s)→∀ ps∈(L.filter fun s=>s.2.1 == b).map firstR,RgT ps:=fun L hL ps hp=>by
  obtain ⟨s,hm,rfl⟩:=List.mem_map.mp hp
  exact (hL s (List.mem_filter.mp hm).1).first.1
 refine mid4 (fun ρ=>ρ=[.val (.lst (os.map dS)),.val (.lst (ns.map dS)),.val (.bl b),.val (.lst (((ns.filter fun s=>s.2.1 == b).map firstR).map dH))]) ?_ (fun N2 kk2=>?_)
 rotate_left
 ·refine ⟨_,rfl,_,rfl,by rw [List.length_map]; omega,?_⟩
  exact flt ns hns hn _ ⟨_,rfl,kk2 _ rfl⟩
 rintro ρ rfl
 refine ⟨_,rfl,_,rfl,_,rfl,by rw [List.length_map]; omega,?_⟩
 refine flt os hos ho _ ?_
 have z1:=sz os hos ho
 have z2:=sz ns hns hn
 exact ⟨rfl,_,_,rfl,rg ns hns,rg os hos,by omega,bal b,_,rfl,iteF (kk _ ⟨_,_,rfl⟩)⟩
theorem sc_law_lies:FnScope ["_law_sheet_here", "_law_ring", "_law_piece"] ["_law_sheet_here", "_law_ring"] (defScope s_law_lies):=⟨rfl,rfl,rfl,by decide +kernel,rfl,by decide +kernel,by decide +kernel⟩
def F_liesT:FS:=fun as k=>∃ (sh:List Piece) (qs:List P3),as=[.val (.lst (sh.map dS)),.val (.lst (qs.map dP))]∧(sh.length≤40)∧(∀ s∈sh,PcT s)∧(RgT qs)∧(Bal (sh.map fun s=>s.1) [qs])∧k (.val (.bl true))
theorem ok_liesT (B:Blts mg)   (F:Fnd K mg "_law_lies" s_law_lies ["_law_sheet_here", "_law_ring"]) (c_law_is_bulging:Cal P w K mg base "_law_is_bulging" ["_law_ring"] 4 (Con K 1 F_bulgT)) (c_law_is_spot:Cal P w K mg base "_law_is_spot" ["_law_p"] 3 (Con K 1 F_isspotT)) (c_law_part:Cal P w K mg base "_law_part" ["_law_rings", "_law_others"] 5 (Con K 2 F_partT)) :
  Cal P w K mg base "_law_lies" ["_law_sheet_here", "_law_ring"] 6 (Con K 2 F_liesT):=by
 refine def3 (lv:=5) F sc_law_lies rfl (fun f cdv A outer s H E hr=>⟨_,(s_cons (s_if (t_not (t_val (e_isi (T := "list") (v3 0) (by rfl) B.isinstance_ (pe_bltn (v:=.ty "list") (u:=.type "list") (by rfl) B.list_ (by decide +kernel) rfl) rfl rfl rfl))) (s_one (s_ret e_bl)) s_nil) (s_cons (s_for PassesOwn.never rfl (i_list (v3 0)) (g_name (i:=2) sc_law_lies.nd rfl (Or.inl rfl)) (s_cons (s_if (w_t (w_or (t_not (t_val (e_isi (T := "tuple") (v3 2) (by rfl) B.isinstance_ (pe_bltn (v:=.ty "tuple") (u:=.type "tuple") (by rfl) B.tuple_ (by decide +kernel) rfl) rfl rfl rfl))) (w_or (t_cmp (f:=fun i j => !decide (i=j)) op_neI (e_len (v3 2) (by rfl) B.len_) e_int (nomark _)) (w_or1 (t_not (t_val (e_isi (T := "bool") (e_ix (v3 2) e_int (fun _ _=>rfl)) (by rfl) B.isinstance_ (pe_bltn (v:=.ty "bool") (u:=.type "bool") (by rfl) B.bool_ (by decide +kernel) rfl) rfl rfl rfl))))))) (s_one (s_ret e_bl)) s_nil) (s_one (s_if (w_t (w_or (t_not (t_val (e_call c_law_is_bulging hr (by rfl) (a_val (e_ix (v3 2) e_int (fun _ _=>rfl)) a_nil)))) (w_or1 (t_not (t_val (e_call c_law_is_spot hr (by rfl) (a_val (e_ix (v3 2) e_int (fun _ _=>rfl)) a_nil))))))) (s_one (s_ret e_bl)) s_nil)))) (s_one (s_ret (e_call c_law_part hr (by rfl) (a_val (o_e (o_compG (ts:=["_law_piece"]) (fr:=[]) (js:=[]) (i_list (v3 0)) (fun _ _ _ _=>(g_name (i:=0) (show List.Nodup (["_law_piece"]:List Str) by decide +kernel) rfl (Or.inl rfl))) (fun _ _ _ _=>ifs_nil) (fun _ _ _ _=>(e_ix (v3 0) e_int (fun _ _=>rfl))) ⟨rfl,by decide +kernel,rfl,by decide +kernel,fsub_of (List.forall_mem_nil _),fhas_b rfl,by walk_at "ffr", rfl⟩)) (a_val (o_e (o_lst (l_cons (v3 1) l_nil))) a_nil))))))),?_⟩)
 rintro as k hl ⟨sh,qs,rfl,hl,hs,hq,bal,hk⟩
 refine at3 (r:=[.val (.lst (sh.map dS)),.val (.lst (qs.map dP)),.no]) rfl ?_
 have big:1000≤sizeLine:=by decide
 refine pass4 (fun N kk=>?_) ?_
 ·exact ⟨_,rfl,_,_,rfl,fun _=>rfl,_,rfl,iteF kk⟩
 refine mid4 (fun ρ=>∃ v2,ρ=[.val (.lst (sh.map dS)),.val (.lst (qs.map dP)),v2]) ?_ (fun N kk=>?_)
 rotate_left
 ·refine ⟨_,rfl,_,rfl,?_⟩
  refine forR_map (f:=dS) (rs:=sh) (done:=[]) (fun _ ρ=>∃ v2,ρ=[.val (.lst (sh.map dS)),.val (.lst (qs.map dP)),v2]) ⟨_,rfl⟩ ?_ (fun ρ h=>kk _ h)
  rintro pre s rest ρ he ⟨v2,rfl⟩ N kk
  have pc:=hs s (by rw [List.nil_append] at he; rw [he]; simp)
  refine pass4 (fun N2 kk2=>?_) ?_
  ·refine ⟨_,rfl,_,_,rfl,fun _=>rfl,_,rfl,iteF ?_⟩
   refine ⟨_,rfl,_,rfl,_,_,rfl,rfl,_,rfl,iteF ?_⟩
   exact ⟨_,rfl,_,_,_,.inl rfl,rfl,rfl,_,_,rfl,fun _=>rfl,_,rfl,iteF kk2⟩
  refine ⟨_,rfl,_,_,_,.inl rfl,rfl,rfl,rfl,s.1,rfl,Nat.le_trans pc.ln (by decide),pc.cv,fun p hp=>(pc.ps p hp).mono (by decide),_,rfl,iteF ?_⟩
  exact ⟨_,rfl,_,_,_,.inl rfl,rfl,rfl,rfl,s.2.2,rfl,pc.st.pt,_,rfl,iteF (kk _ ⟨_,rfl⟩)⟩
 rintro ρ ⟨v2,rfl⟩
 refine ⟨_,rfl,_,rfl,by rw [List.length_map]; omega,?_⟩
 refine compG_map (f:=dS) (h:=fun s=>dH s.1) (fun s hm k hk=>⟨_,rfl,_,_,_,.inl rfl,rfl,rfl,hk⟩) ?_
 have tl:=sum_le (f:=fun s:Piece=>s.1.length) (m:=24) (l:=sh) fun s hm=>(hs s hm).ln
 refine ⟨_,rfl,by show 1≤sizeLine; decide,rfl,sh.map (fun s=>s.1),[qs],by rw [List.map_map]; rfl,?_,?_,?_,bal,hk⟩
 ·intro ps hp
  obtain ⟨s,hm,rfl⟩:=List.mem_map.mp hp
  exact (hs s hm).rg
 ·intro ps hp
  rw [List.mem_singleton.mp hp]
  exact hq
 ·rw [List.map_map]
  have e:(sh.map (List.length ∘ fun s=>s.1)).sum=(sh.map fun s:Piece=>s.1.length).sum:=rfl
  have:=hq.1
  rw [e]
  simp only [List.map_cons,List.map_nil,List.sum_cons,List.sum_nil]
  omega
theorem sc_law_copied:FnScope ["_law_sheet_here"] ["_law_sheet_here"] (defScope s_law_copied):=⟨rfl,rfl,rfl,by decide +kernel,rfl,by decide +kernel,by decide +kernel⟩
def F_copiedT:FS:=fun as k=>∃ (sh:List Piece),as=[.val (.lst (sh.map dS))]∧(sh.length≤100)∧k (.own (sh.map dS))
theorem ok_copiedT (B:Blts mg)   (F:Fnd K mg "_law_copied" s_law_copied ["_law_sheet_here"])  :
  Cal P w K mg base "_law_copied" ["_law_sheet_here"] 2 (Con K 1 F_copiedT):=by
 refine def3 (lv:=1) F sc_law_copied rfl (fun f cdv A outer s H E hr=>⟨_,(s_one (s_retO (o_compG (ts:=["_law_ring", "_law_flag", "_law_step"]) (fr:=[]) (js:=[]) (i_list (v3 0)) (fun _ _ _ _=>(g_tup (n:=3) rfl (gs_cons (g_name (i:=0) (show List.Nodup (["_law_ring", "_law_flag", "_law_step"]:List Str) by decide +kernel) rfl (Or.inl rfl)) (gs_cons (g_name (i:=1) (show List.Nodup (["_law_ring", "_law_flag", "_law_step"]:List Str) by decide +kernel) rfl (Or.inl rfl)) (gs_cons (g_name (i:=2) (show List.Nodup (["_law_ring", "_law_flag", "_law_step"]:List Str) by decide +kernel) rfl (Or.inl rfl)) gs_nil))))) (fun _ _ _ _=>ifs_nil) (fun _ _ _ _=>(e_tup (l_cons (o_e (o_copy (v3 0) (by rfl) B.list_)) (l_cons (v3 1) (l_cons (v3 2) l_nil))))) ⟨rfl,by decide +kernel,rfl,by decide +kernel,fsub_of (List.forall_mem_nil _),fhas_b rfl,by walk_at "ffr", rfl⟩))),?_⟩)
 rintro as k hl ⟨sh,rfl,hl,hk⟩
 refine at3 (r:=[.val (.lst (sh.map dS))]) rfl ?_
 have big:1000≤sizeLine:=by decide
 refine ⟨_,rfl,_,rfl,by rw [List.length_map]; omega,?_⟩
 exact compG_sh (h:=dS) (fs:=[]) (fun s hs k2 hk2=>⟨_,rfl,_,.inl rfl,_,rfl,_,rfl,by show 3≤sizeLine; decide,hk2⟩) hk
theorem sc_law_product:FnScope ["_law_one", "_law_other"] ["_law_one", "_law_other"] (defScope s_law_product):=⟨rfl,rfl,rfl,by decide +kernel,rfl,by decide +kernel,by decide +kernel⟩
def F_productT:FS:=fun as k=>∃ (r s:F2),as=[.val (dR r),.val (dR s)]∧(0 < r.2)∧(0 < s.2)∧(intBits r.1≤1000)∧(intBits r.2≤1000)∧(intBits s.1≤1000)∧(intBits s.2≤1000)∧k (.val (dR (nrat (r.1 * s.1) (r.2 * s.2))))
theorem ok_productT (B:Blts mg)   (F:Fnd K mg "_law_product" s_law_product ["_law_one", "_law_other"]) (c_law_low:Cal P w K mg base "_law_low" ["_law_top", "_law_bottom"] 3 (Con K 2 F_lowT)) :
  Cal P w K mg base "_law_product" ["_law_one", "_law_other"] 4 (Con K 2 F_productT):=by
 refine def3 (lv:=3) F sc_law_product rfl (fun f cdv A outer s H E hr=>⟨_,(s_one (s_ret (e_call c_law_low hr (by rfl) (a_val (e_mul (e_ix (v3 0) e_int (fun _ _=>rfl)) (e_ix (v3 1) e_int (fun _ _=>rfl))) (a_val (e_mul (e_ix (v3 0) e_int (fun _ _=>rfl)) (e_ix (v3 1) e_int (fun _ _=>rfl))) a_nil))))),?_⟩)
 rintro as k hl ⟨r,s,rfl,h1,h2,b1,b2,b3,b4,hk⟩
 refine at3 (r:=[.val (dR r),.val (dR s)]) rfl ?_
 walk_at "w"
 exact ⟨_,_,rfl,Int.mul_pos h1 h2,by walk_at "bits", hk⟩
theorem sc_law_less:FnScope ["_law_one", "_law_other"] ["_law_one", "_law_other"] (defScope s_law_less):=⟨rfl,rfl,rfl,by decide +kernel,rfl,by decide +kernel,by decide +kernel⟩
def F_lessT:FS:=fun as k=>∃ (r s:F2),as=[.val (dR r),.val (dR s)]∧(0 < r.2)∧(0 < s.2)∧(intBits r.1≤1000)∧(intBits r.2≤1000)∧(intBits s.1≤1000)∧(intBits s.2≤1000)∧k (.val (dR (nrat (r.1 * s.2 - s.1 * r.2) (r.2 * s.2))))
theorem ok_lessT (B:Blts mg)   (F:Fnd K mg "_law_less" s_law_less ["_law_one", "_law_other"]) (c_law_low:Cal P w K mg base "_law_low" ["_law_top", "_law_bottom"] 3 (Con K 2 F_lowT)) :
  Cal P w K mg base "_law_less" ["_law_one", "_law_other"] 4 (Con K 2 F_lessT):=by
 refine def3 (lv:=3) F sc_law_less rfl (fun f cdv A outer s H E hr=>⟨_,(s_one (s_ret (e_call c_law_low hr (by rfl) (a_val (e_sub (e_mul (e_ix (v3 0) e_int (fun _ _=>rfl)) (e_ix (v3 1) e_int (fun _ _=>rfl))) (e_mul (e_ix (v3 1) e_int (fun _ _=>rfl)) (e_ix (v3 0) e_int (fun _ _=>rfl)))) (a_val (e_mul (e_ix (v3 0) e_int (fun _ _=>rfl)) (e_ix (v3 1) e_int (fun _ _=>rfl))) a_nil))))),?_⟩)
 rintro as k hl ⟨r,s,rfl,h1,h2,b1,b2,b3,b4,hk⟩
 refine at3 (r:=[.val (dR r),.val (dR s)]) rfl ?_
 walk_at "w"
 exact ⟨_,_,rfl,Int.mul_pos h1 h2,by walk_at "bits", hk⟩
theorem sc_law_pin:FnScope ["_law_x", "_law_y"] ["_law_x", "_law_y"] (defScope s_law_pin):=⟨rfl,rfl,rfl,by decide +kernel,rfl,by decide +kernel,by decide +kernel⟩
def F_pinT:FS:=fun as k=>∃ (r s:F2),as=[.val (dR r),.val (dR s)]∧(0 < r.2)∧(0 < s.2)∧(intBits r.1≤1000)∧(intBits r.2≤1000)∧(intBits s.1≤1000)∧(intBits s.2≤1000)∧k (.val (dP (npt (r.1 * s.2) (s.1 * r.2) (r.2 * s.2))))
theorem ok_pinT (B:Blts mg)   (F:Fnd K mg "_law_pin" s_law_pin ["_law_x", "_law_y"]) (c_law_spot:Cal P w K mg base "_law_spot" ["_law_x", "_law_y", "_law_bottom"] 3 (Con K 3 F_spotB)) :
  Cal P w K mg base "_law_pin" ["_law_x", "_law_y"] 4 (Con K 2 F_pinT):=by
 refine def3 (lv:=3) F sc_law_pin rfl (fun f cdv A outer s H E hr=>⟨_,(s_one (s_ret (e_call c_law_spot hr (by rfl) (a_val (e_mul (e_ix (v3 0) e_int (fun _ _=>rfl)) (e_ix (v3 1) e_int (fun _ _=>rfl))) (a_val (e_mul (e_ix (v3 1) e_int (fun _ _=>rfl)) (e_ix (v3 0) e_int (fun _ _=>rfl))) (a_val (e_mul (e_ix (v3 0) e_int (fun _ _=>rfl)) (e_ix (v3 1) e_int (fun _ _=>rfl))) a_nil)))))),?_⟩)
 rintro as k hl ⟨r,s,rfl,h1,h2,b1,b2,b3,b4,hk⟩
 refine at3 (r:=[.val (dR r),.val (dR s)]) rfl ?_
 walk_at "w"
 exact ⟨_,_,_,rfl,Int.mul_pos h1 h2,by walk_at "bits", hk⟩
theorem sc_law_box:FnScope ["_law_wide", "_law_high_here"] ["_law_wide", "_law_high_here"] (defScope s_law_box):=⟨rfl,rfl,rfl,by decide +kernel,rfl,by decide +kernel,by decide +kernel⟩
def F_boxT:FS:=fun as k=>∃ (w h:F2),as=[.val (dR w),.val (dR h)]∧(Low w.1 w.2)∧(Low h.1 h.2)∧(intBits w.1≤400)∧(intBits w.2≤400)∧(intBits h.1≤400)∧(intBits h.2≤400)∧k (.val (.lst ((boxP w h).map dP)))
theorem ok_boxT (B:Blts mg)   (F:Fnd K mg "_law_box" s_law_box ["_law_wide", "_law_high_here"]) (c_law_pin:Cal P w K mg base "_law_pin" ["_law_x", "_law_y"] 4 (Con K 2 F_pinT)) :
  Cal P w K mg base "_law_box" ["_law_wide", "_law_high_here"] 5 (Con K 2 F_boxT):=by
 refine def3 (lv:=4) F sc_law_box rfl (fun f cdv A outer s H E hr=>⟨_,(s_one (s_ret (o_e (o_lst (l_cons (e_tup (l_cons e_int (l_cons e_int (l_cons e_int l_nil)))) (l_cons (e_call c_law_pin hr (by rfl) (a_val (v3 0) (a_val (e_tup (l_cons e_int (l_cons e_int l_nil))) a_nil))) (l_cons (e_call c_law_pin hr (by rfl) (a_val (v3 0) (a_val (v3 1) a_nil))) (l_cons (e_call c_law_pin hr (by rfl) (a_val (e_tup (l_cons e_int (l_cons e_int l_nil))) (a_val (v3 1) a_nil))) l_nil)))))))),?_⟩)
 rintro as k hl ⟨w,h,rfl,l1,l2,b1,b2,b3,b4,hk⟩
 refine at3 (r:=[.val (dR w),.val (dR h)]) rfl ?_
 have ex:npt (w.1 * 1) (0 * w.2) (w.2 * 1)=(w.1,0,w.2):=by rw [Int.mul_one,Int.zero_mul,Int.mul_one]; exact nP_self (pt_x l1)
 have ey:npt (0 * h.2) (h.1 * 1) (1 * h.2)=(0,h.1,h.2):=by rw [Int.zero_mul,Int.mul_one,Int.one_mul]; exact nP_self (pt_y l2)
 refine ⟨by show 3≤sizeLine; decide,?_⟩
 refine ⟨_,rfl,by show 2≤sizeLine; decide,rfl,w,(0,1),rfl,l1.1,by decide,Nat.le_trans b1 (by decide),Nat.le_trans b2 (by decide),by decide,by decide,?_⟩
 dsimp only [fzR]
 rw [ex]
 refine ⟨_,rfl,_,rfl,rfl,w,h,rfl,l1.1,l2.1,Nat.le_trans b1 (by decide),Nat.le_trans b2 (by decide),Nat.le_trans b3 (by decide),Nat.le_trans b4 (by decide),?_⟩
 dsimp only [fzR]
 refine ⟨by show 2≤sizeLine; decide,_,rfl,rfl,(0,1),h,rfl,by decide,l2.1,by decide,by decide,Nat.le_trans b3 (by decide),Nat.le_trans b4 (by decide),?_⟩
 dsimp only [fzR]
 rw [ey]
 exact ⟨by show 4≤sizeLine; decide,hk⟩
theorem sc_law_is_low:FnScope ["_law_found"] ["_law_found"] (defScope s_law_is_low):=⟨rfl,rfl,rfl,by decide +kernel,rfl,by decide +kernel,by decide +kernel⟩
def F_islowT:FS:=fun as k=>∃ (r:F2),as=[.val (dR r)]∧(Low r.1 r.2)∧(0 < r.1)∧k (.val (.bl true))
theorem ok_islowT (B:Blts mg)   (F:Fnd K mg "_law_is_low" s_law_is_low ["_law_found"]) (c_law_whole:Cal P w K mg base "_law_whole" ["_law_found"] 2 (Con K 1 F_law_whole)) (c_law_measure:Cal P w K mg base "_law_measure" ["_law_one", "_law_other"] 2 (Con K 2 F_law_measure)) :
  Cal P w K mg base "_law_is_low" ["_law_found"] 3 (Con K 1 F_islowT):=by
 refine def3 (lv:=2) F sc_law_is_low rfl (fun f cdv A outer s H E hr=>⟨_,(s_cons (s_if (w_t (w_or (t_not (t_val (e_isi (T := "tuple") (v3 0) (by rfl) B.isinstance_ (pe_bltn (v:=.ty "tuple") (u:=.type "tuple") (by rfl) B.tuple_ (by decide +kernel) rfl) rfl rfl rfl))) (w_or (t_cmp (f:=fun i j => !decide (i=j)) op_neI (e_len (v3 0) (by rfl) B.len_) e_int (nomark _)) (w_or (t_not (t_val (e_call c_law_whole hr (by rfl) (a_val (e_ix (v3 0) e_int (fun _ _=>rfl)) a_nil)))) (w_or1 (t_not (t_val (e_call c_law_whole hr (by rfl) (a_val (e_ix (v3 0) e_int (fun _ _=>rfl)) a_nil))))))))) (s_one (s_ret e_bl)) s_nil) (s_one (s_ret (e_and (e_cmp (f:=fun i j=>decide (j < i)) op_gt (e_ix (v3 0) e_int (fun _ _=>rfl)) e_int (nomark _)) (e_and (e_cmp (f:=fun i j=>decide (j < i)) op_gt (e_ix (v3 0) e_int (fun _ _=>rfl)) e_int (nomark _)) (e_one (e_cmp (f:=fun i j=>decide (i=j)) op_eqI (e_call c_law_measure hr (by rfl) (a_val (e_ix (v3 0) e_int (fun _ _=>rfl)) (a_val (e_ix (v3 0) e_int (fun _ _=>rfl)) a_nil))) e_int (nomark _)))))))),?_⟩)
 rintro as k hl ⟨r,rfl,hl,h0,hk⟩
 refine at3 (r:=[.val (dR r)]) rfl ?_
 have eg:((Int.gcd r.1 r.2:Nat):Int)=1:=by rw [hl.2]; rfl
 have n0:=hl.1
 refine pass4 (fun N kk=>?_) ?_
 ·refine ⟨_,rfl,_,_,rfl,fun _=>rfl,_,rfl,iteF ?_⟩
  refine ⟨_,rfl,_,rfl,_,_,rfl,rfl,_,rfl,iteF ?_⟩
  refine ⟨_,rfl,_,_,_,.inl rfl,rfl,rfl,rfl,r.1,rfl,_,rfl,iteF ?_⟩
  exact ⟨_,rfl,_,_,_,.inl rfl,rfl,rfl,rfl,r.2,rfl,_,rfl,iteF kk⟩
 walk_at "w"
 rw [if_pos (decide_eq_true h0)]
 walk_at "w"
 rw [if_pos (decide_eq_true n0)]
 walk_at "w"
 refine ⟨_,_,rfl,?_⟩
 dsimp only [fzR]
 rw [eg]
 exact ⟨_,_,rfl,rfl,hk⟩
theorem sc_law_is_box:FnScope ["_law_found"] ["_law_found"] (defScope s_law_is_box):=⟨rfl,rfl,rfl,by decide +kernel,rfl,by decide +kernel,by decide +kernel⟩
def F_isboxT:FS:=fun as k=>∃ (w h:F2) (sh:List Piece),as=[.val (.tup [dR w,dR h,.lst (sh.map dS)])]∧(Low w.1 w.2)∧(Low h.1 h.2)∧(intBits w.1≤140)∧(intBits w.2≤140)∧(intBits h.1≤140)∧(intBits h.2≤140)∧(0 < w.1)∧(0 < h.1)∧(sh.length≤40)∧(∀ s∈sh,PcT s)∧(Bal (sh.map fun s=>s.1) [boxP w h])∧k (.val (.bl true))
theorem ok_isboxT (B:Blts mg)   (F:Fnd K mg "_law_is_box" s_law_is_box ["_law_found"]) (c_law_is_low:Cal P w K mg base "_law_is_low" ["_law_found"] 3 (Con K 1 F_islowT)) (c_law_lies:Cal P w K mg base "_law_lies" ["_law_sheet_here", "_law_ring"] 6 (Con K 2 F_liesT)) (c_law_box:Cal P w K mg base "_law_box" ["_law_wide", "_law_high_here"] 5 (Con K 2 F_boxT)) :
  Cal P w K mg base "_law_is_box" ["_law_found"] 7 (Con K 1 F_isboxT):=by
 refine def3 (lv:=6) F sc_law_is_box rfl (fun f cdv A outer s H E hr=>⟨_,(s_cons (s_if (w_t (w_or (t_not (t_val (e_isi (T := "tuple") (v3 0) (by rfl) B.isinstance_ (pe_bltn (v:=.ty "tuple") (u:=.type "tuple") (by rfl) B.tuple_ (by decide +kernel) rfl) rfl rfl rfl))) (w_or (t_cmp (f:=fun i j => !decide (i=j)) op_neI (e_len (v3 0) (by rfl) B.len_) e_int (nomark _)) (w_or (t_not (t_val (e_call c_law_is_low hr (by rfl) (a_val (e_ix (v3 0) e_int (fun _ _=>rfl)) a_nil)))) (w_or1 (t_not (t_val (e_call c_law_is_low hr (by rfl) (a_val (e_ix (v3 0) e_int (fun _ _=>rfl)) a_nil))))))))) (s_one (s_ret e_bl)) s_nil) (s_one (s_ret (e_call c_law_lies hr (by rfl) (a_val (e_ix (v3 0) e_int (fun _ _=>rfl)) (a_val (e_call c_law_box hr (by rfl) (a_val (e_ix (v3 0) e_int (fun _ _=>rfl)) (a_val (e_ix (v3 0) e_int (fun _ _=>rfl)) a_nil))) a_nil)))))),?_⟩)
 rintro as k hl ⟨w,h,sh,rfl,l1,l2,b1,b2,b3,b4,w0,h0,hl,hs,bal,hk⟩
 refine at3 (r:=[.val (.tup [dR w,dR h,.lst (sh.map dS)])]) rfl ?_
 refine pass4 (fun N kk=>?_) ?_
 ·refine ⟨_,rfl,_,_,rfl,fun _=>rfl,_,rfl,iteF ?_⟩
  refine ⟨_,rfl,_,rfl,_,_,rfl,rfl,_,rfl,iteF ?_⟩
  refine ⟨_,rfl,_,_,_,.inl rfl,rfl,rfl,rfl,w,rfl,l1,w0,_,rfl,iteF ?_⟩
  exact ⟨_,rfl,_,_,_,.inl rfl,rfl,rfl,rfl,h,rfl,l2,h0,_,rfl,iteF kk⟩
 refine ⟨_,rfl,_,_,_,.inl rfl,rfl,rfl,_,rfl,_,_,_,.inl rfl,rfl,rfl,_,rfl,_,_,_,.inl rfl,rfl,rfl,rfl,w,h,rfl,l1,l2,Nat.le_trans b1 (by decide),Nat.le_trans b2 (by decide),Nat.le_trans b3 (by decide),Nat.le_trans b4 (by decide),?_⟩
 dsimp only [fzR]
 exact ⟨rfl,sh,boxP w h,rfl,hl,hs,box_rg ⟨l1,l2,w0,h0⟩ b1 b2 b3 b4,bal,hk⟩
theorem sc_law_size:FnScope ["_law_bag_here"] ["_law_bag_here"] (defScope s_law_size):=⟨rfl,rfl,rfl,by decide +kernel,rfl,by decide +kernel,by decide +kernel⟩
def F_sizeT:FS:=fun as k =>  as=[.bag]∧∀ r:F2,Low r.1 r.2→0 < r.1→intBits r.1≤21→intBits r.2≤21→k (.val (dR r))
theorem ok_sizeT (B:Blts mg)   (F:Fnd K mg "_law_size" s_law_size ["_law_bag_here"]) (c_law_draw:Cal P w K mg base "_law_draw" ["_law_bag_here", "_law_many"] 1 (Con K 2 (F_draw 400))) (c_law_low:Cal P w K mg base "_law_low" ["_law_top", "_law_bottom"] 3 (Con K 2 F_lowT)) :
  Cal P w K mg base "_law_size" ["_law_bag_here"] 4 (Con K 1 F_sizeT):=by
 refine def3 (lv:=3) F sc_law_size rfl (fun f cdv A outer s H E hr=>⟨_,(s_cons (s_if (t_cmp (f:=fun i j=>decide (i=j)) op_eqI (e_call c_law_draw hr (by rfl) (a_bag 0 (a_val e_int a_nil))) e_int (nomark _)) (s_one (s_ret (e_call c_law_low hr (by rfl) (a_val (e_add e_int (e_call c_law_draw hr (by rfl) (a_bag 0 (a_val (e_pow e_int e_int) a_nil)))) (a_val (e_add e_int (e_call c_law_draw hr (by rfl) (a_bag 0 (a_val (e_pow e_int e_int) a_nil)))) a_nil))))) s_nil) (s_one (s_ret (e_call c_law_low hr (by rfl) (a_val (e_add e_int (e_call c_law_draw hr (by rfl) (a_bag 0 (a_val e_int a_nil)))) (a_val (e_add e_int (e_call c_law_draw hr (by rfl) (a_bag 0 (a_val e_int a_nil)))) a_nil)))))),?_⟩)
 rintro as k hl ⟨rfl,hk⟩
 refine at3 (r:=[.bag]) rfl ?_
 have fin:∀ t b:Int,0 < t→0 < b→intBits t≤21→intBits b≤21→k (.val (dR (nrat t b))):=fun t b t0 b0 bt bb=>by
  obtain ⟨l,e,q1,q2⟩:=nrat_spec (t:=t) (b:=b) (Int.ne_of_gt b0)
  refine hk _ l ?_ (bits_of_abs q1 bt) (bits_of_abs q2 bb)
  have:0 < (nrat t b).1 * b:=by rw [e]; exact Int.mul_pos t0 l.1
  exact Int.pos_of_mul_pos_left this b0
 have b21:∀ x:Int,0≤x→x≤1000000→intBits x≤21:=fun x x0 x1=>intBits_le_iff.mpr (by show x.natAbs < 2097152; omega)
 have e6:(10:Int) ^ ((6:Int).toNat)=1000000:=rfl
 walk_at "w"
 intro c c0 c1
 walk_at "wd"
 refine iteD (fun _=>?_) (fun _=>?_)
 ·walk_at "w"
  rw [e6]
  intro x x0 x1
  walk_at "w"
  rw [e6]
  intro y y0 y1
  walk_at "w"
  exact ⟨1 + x,1 + y,rfl,by omega,Nat.le_trans (b21 (1 + y) (by omega) (by omega)) (by decide),fin _ _ (by omega) (by omega) (b21 _ (by omega) (by omega)) (b21 _ (by omega) (by omega))⟩
 ·walk_at "w"
  intro x x0 x1
  walk_at "w"
  intro y y0 y1
  walk_at "w"
  exact ⟨1 + x,1 + y,rfl,by omega,Nat.le_trans (b21 (1 + y) (by omega) (by omega)) (by decide),fin _ _ (by omega) (by omega) (b21 _ (by omega) (by omega)) (b21 _ (by omega) (by omega))⟩
theorem sc_law_high:FnScope ["_law_slope_here", "_law_wide"] ["_law_slope_here", "_law_wide"] (defScope s_law_high):=⟨rfl,rfl,rfl,by decide +kernel,rfl,by decide +kernel,by decide +kernel⟩
def F_highT:FS:=fun as k=>∃ (s w:F2),as=[.val (dR s),.val (dR w)]∧(Low s.1 s.2)∧(Low w.1 w.2)∧(s.1≠0)∧(0 < w.1)∧(intBits s.1≤64)∧(intBits s.2≤64)∧(intBits w.1≤64)∧(intBits w.2≤64)∧k (.val (dR (hgt s w)))
theorem ok_highT (B:Blts mg)   (F:Fnd K mg "_law_high" s_law_high ["_law_slope_here", "_law_wide"]) (c_law_product:Cal P w K mg base "_law_product" ["_law_one", "_law_other"] 4 (Con K 2 F_productT)) :
  Cal P w K mg base "_law_high" ["_law_slope_here", "_law_wide"] 5 (Con K 2 F_highT):=by
 refine def3 (lv:=4) F sc_law_high rfl (fun f cdv A outer s H E hr=>⟨_,(s_one (s_ret (e_call c_law_product hr (by rfl) (a_val (e_tup (l_cons (e_abs (e_ix (v3 0) e_int (fun _ _=>rfl)) (by rfl) B.abs_) (l_cons (e_ix (v3 0) e_int (fun _ _=>rfl)) l_nil))) (a_val (v3 1) a_nil))))),?_⟩)
 rintro as k hl ⟨s,w,rfl,ls,lw,s0,w0,c1,c2,c3,c4,hk⟩
 refine at3 (r:=[.val (dR s),.val (dR w)]) rfl ?_
 have ca:intBits (if s.1 < 0 then -s.1 else s.1)≤64:=by
  split
  ·exact intBits_neg_le c1
  ·exact c1
 walk_at "w"
 exact ⟨(if s.1 < 0 then -s.1 else s.1,s.2),w,rfl,ls.1,lw.1,Nat.le_trans ca (by decide),Nat.le_trans c2 (by decide),Nat.le_trans c3 (by decide),Nat.le_trans c4 (by decide),hk⟩
theorem sc_law_corner:FnScope ["_law_slope_here", "_law_hand", "_law_wide", "_law_one", "_law_two", "_law_three", "_law_four"] ["_law_slope_here", "_law_hand", "_law_wide"] (defScope s_law_corner):=⟨rfl,rfl,rfl,by decide +kernel,rfl,by decide +kernel,by decide +kernel⟩
def F_cornT:FS:=fun as k=>∃ (s w:Int×Int) (hi:Bool),as=[.val (dR s),.val (.str (if hi=true then "high" else "low")),.val (dR w)]∧(Low s.1 s.2)∧(Low w.1 w.2)∧(s.1≠0)∧(0 < w.1)∧(intBits s.1≤64)∧(intBits s.2≤64)∧(intBits w.1≤64)∧(intBits w.2≤64)∧k (.val (.lst ((cornP s hi w).map dP)))
theorem ok_cornT (B:Blts mg)   (F:Fnd K mg "_law_corner" s_law_corner ["_law_slope_here", "_law_hand", "_law_wide"]) (c_law_box:Cal P w K mg base "_law_box" ["_law_wide", "_law_high_here"] 5 (Con K 2 F_boxT)) (c_law_high:Cal P w K mg base "_law_high" ["_law_slope_here", "_law_wide"] 5 (Con K 2 F_highT)) :
  Cal P w K mg base "_law_corner" ["_law_slope_here", "_law_hand", "_law_wide"] 6 (Con K 3 F_cornT):=by
 refine def3 (lv:=5) F sc_law_corner rfl (fun f cdv A outer s H E hr=>⟨_,(s_cons (s_asg (e_call c_law_box hr (by rfl) (a_val (v3 2) (a_val (e_call c_law_high hr (by rfl) (a_val (v3 0) (a_val (v3 2) a_nil))) a_nil))) (g_lst (n:=4) rfl (gs_cons (g_name (i:=3) sc_law_corner.nd rfl (Or.inl rfl)) (gs_cons (g_name (i:=4) sc_law_corner.nd rfl (Or.inl rfl)) (gs_cons (g_name (i:=5) sc_law_corner.nd rfl (Or.inl rfl)) (gs_cons (g_name (i:=6) sc_law_corner.nd rfl (Or.inl rfl)) gs_nil)))))) (s_cons (s_if (t_cmp (f:=fun i j=>decide (j < i)) op_gt (e_ix (v3 0) e_int (fun _ _=>rfl)) e_int (nomark _)) (s_one (s_ret (o_e (o_lst (l_cons (v3 3) (l_cons (e_ix (o_e (o_lst (l_cons (v3 4) (l_cons (v3 5) l_nil)))) (e_toInt (e_eq (hr.units) (v3 1) e_str (nomark _)) (by rfl) B.int_) (fun _ _=>rfl)) (l_cons (e_ix (o_e (o_lst (l_cons (v3 5) (l_cons (v3 6) l_nil)))) (e_toInt (e_eq (hr.units) (v3 1) e_str (nomark _)) (by rfl) B.int_) (fun _ _=>rfl)) l_nil))))))) s_nil) (s_cons (s_if (t_eq (hr.units) (v3 1) e_str (nomark _)) (s_one (s_ret (o_e (o_lst (l_cons (v3 3) (l_cons (v3 4) (l_cons (v3 6) l_nil))))))) s_nil) (s_one (s_ret (o_e (o_lst (l_cons (v3 6) (l_cons (v3 4) (l_cons (v3 5) l_nil)))))))))),?_⟩)
 rintro as k hl ⟨s,w,hi,rfl,ls,lw,s0,w0,c1,c2,c3,c4,hk⟩
 refine at3 (r:=[.val (dR s),.val (.str (if hi=true then "high" else "low")),.val (dR w),.no,.no,.no,.no]) rfl ?_
 have bx:=hgt_bx ls lw s0 w0
 have hn0:s.2 * w.2≠0:=one_ne ls.1 lw.1
 have hb:intBits (hgt s w).1≤140∧intBits (hgt s w).2≤140:=by
  obtain ⟨_,_,q1,q2⟩:=nrat_spec (t:=(if s.1 < 0 then -s.1 else s.1) * w.1) hn0
  have ca:intBits (if s.1 < 0 then -s.1 else s.1)≤64:=by
   split
   ·exact intBits_neg_le c1
   ·exact c1
  exact ⟨Nat.le_trans (bits_of_abs q1 (intBits_mul_le ca c3)) (by decide),Nat.le_trans (bits_of_abs q2 (intBits_mul_le c2 c4)) (by decide)⟩
 obtain ⟨hb1,hb2⟩:=hb
 have rp:0 < s.1→nrat (s.1 * w.1) (s.2 * w.2)=hgt s w:=rise_pos
 have rn:s.1 < 0→nrat (s.1 * w.1) (s.2 * w.2)=(-(hgt s w).1,(hgt s w).2):=rise_neg ls lw
 have c64:∀ {z:Int},intBits z≤64→intBits z≤4000:=fun h=>Nat.le_trans h (by decide)
 have c140:∀ {z:Int},intBits z≤140→intBits z≤4000:=fun h=>Nat.le_trans h (by decide)
 walk_at "w"
 refine ⟨s,w,rfl,ls,lw,s0,w0,c1,c2,c3,c4,?_⟩
 dsimp only [fzR]
 refine ⟨rfl,w,hgt s w,rfl,lw,bx.lh,Nat.le_trans c3 (by decide),Nat.le_trans c4 (by decide),Nat.le_trans hb1 (by decide),Nat.le_trans hb2 (by decide),?_⟩
 dsimp only [fzR]
 refine ⟨_,rfl,rfl,_,_,rfl,_,_,rfl,_,_,rfl,_,_,rfl,rfl,?_⟩
 unfold cornP at hk
 refine ⟨_,rfl,_,_,_,.inl rfl,rfl,rfl,_,_,rfl,rfl,_,rfl,?_⟩
 refine iteD (fun sp=>?_) (fun sp=>?_)
 ·rw [if_pos sp] at hk
  cases hi with
  | true =>
   rw [if_pos rfl] at hk
   walk_at "w"
   refine ⟨.S,rfl,rfl,by decide,.inr ⟨_,rfl,?_⟩⟩
   rw [show eqD (D.str (if true=true then Str.ofString "high" else Str.ofString "low")) (D.str (Str.ofString "high"))=true from eqS_T]
   refine ⟨_,_,_,.inr rfl,rfl,rfl,?_⟩
   walk_at "w"
   refine ⟨.S,rfl,rfl,by decide,.inr ⟨_,rfl,?_⟩⟩
   rw [show eqD (D.str (if true=true then Str.ofString "high" else Str.ofString "low")) (D.str (Str.ofString "high"))=true from eqS_T]
   exact ⟨_,_,_,.inr rfl,rfl,rfl,by show 3≤sizeLine; decide,hk⟩
  | false =>
   rw [if_neg Bool.false_ne_true] at hk
   walk_at "w"
   refine ⟨.S,rfl,rfl,by decide,.inr ⟨_,rfl,?_⟩⟩
   rw [show eqD (D.str (if false=true then Str.ofString "high" else Str.ofString "low")) (D.str (Str.ofString "high"))=false from eqS_F]
   refine ⟨_,_,_,.inr rfl,rfl,rfl,?_⟩
   walk_at "w"
   refine ⟨.S,rfl,rfl,by decide,.inr ⟨_,rfl,?_⟩⟩
   rw [show eqD (D.str (if false=true then Str.ofString "high" else Str.ofString "low")) (D.str (Str.ofString "high"))=false from eqS_F]
   exact ⟨_,_,_,.inr rfl,rfl,rfl,by show 3≤sizeLine; decide,hk⟩
 ·rw [if_neg sp] at hk
  cases hi with
  | true =>
   rw [if_pos rfl] at hk
   refine ⟨_,rfl,.S,rfl,rfl,by decide,_,rfl,?_⟩
   rw [show eqD (D.str (if true=true then Str.ofString "high" else Str.ofString "low")) (D.str (Str.ofString "low"))=false from eqS_FL]
   exact ⟨_,rfl,_,rfl,_,rfl,by show 3≤sizeLine; decide,hk⟩
  | false =>
   rw [if_neg Bool.false_ne_true] at hk
   refine ⟨_,rfl,.S,rfl,rfl,by decide,_,rfl,?_⟩
   rw [show eqD (D.str (if false=true then Str.ofString "high" else Str.ofString "low")) (D.str (Str.ofString "low"))=true from eqS_TL]
   exact ⟨_,rfl,_,rfl,_,rfl,by show 3≤sizeLine; decide,hk⟩
theorem sc_law_slope:FnScope ["_law_bag_here", "_law_top", "_law_bottom"] ["_law_bag_here"] (defScope s_law_slope):=⟨rfl,rfl,rfl,by decide +kernel,rfl,by decide +kernel,by decide +kernel⟩
def F_slopeT:FS:=fun as k =>  as=[.bag]∧∀ s:F2,Low s.1 s.2→s.1≠0→intBits s.1≤21→intBits s.2≤21→k (.val (dR s))
theorem ok_slopeT (B:Blts mg)   (F:Fnd K mg "_law_slope" s_law_slope ["_law_bag_here"]) (c_law_size:Cal P w K mg base "_law_size" ["_law_bag_here"] 4 (Con K 1 F_sizeT)) (c_law_draw:Cal P w K mg base "_law_draw" ["_law_bag_here", "_law_many"] 1 (Con K 2 (F_draw 400))) :
  Cal P w K mg base "_law_slope" ["_law_bag_here"] 5 (Con K 1 F_slopeT):=by
 refine def3 (lv:=4) F sc_law_slope rfl (fun f cdv A outer s H E hr=>⟨_,(s_cons (s_asg (e_call c_law_size hr (by rfl) (a_bag 0 a_nil)) (g_tup (n:=2) rfl (gs_cons (g_name (i:=1) sc_law_slope.nd rfl (Or.inl rfl)) (gs_cons (g_name (i:=2) sc_law_slope.nd rfl (Or.inl rfl)) gs_nil)))) (s_one (s_ret (e_tup (l_cons (e_mul (e_sub e_int (e_mul e_int (e_call c_law_draw hr (by rfl) (a_bag 0 (a_val e_int a_nil))))) (v3 1)) (l_cons (v3 2) l_nil)))))),?_⟩)
 rintro as k hl ⟨rfl,hk⟩
 refine at3 (r:=[.bag,.no,.no]) rfl ?_
 walk_at "w"
 intro r l0 r0 b1 b2
 dsimp only [fzR]
 refine ⟨_,rfl,rfl,_,_,rfl,_,_,rfl,rfl,?_⟩
 walk_at "w"
 intro c c0 c1
 walk_at "w"
 obtain rfl | rfl:c=0∨c=1:=by omega
 ·exact hk ((1 - 2 * 0) * r.1,r.2) (by show Low ((1 - 2 * 0) * r.1) r.2; rw [show (1 - 2 * 0:Int) * r.1=r.1 by omega]; exact l0) (by show (1 - 2 * 0:Int) * r.1≠0; omega) (by show intBits ((1 - 2 * 0) * r.1)≤21; rw [show (1 - 2 * 0:Int) * r.1=r.1 by omega]; exact b1) b2
 ·exact hk ((1 - 2 * 1) * r.1,r.2) (by show Low ((1 - 2 * 1) * r.1) r.2; rw [show (1 - 2 * 1:Int) * r.1 = -r.1 by omega]; exact ⟨l0.1,by rw [Int.neg_gcd]; exact l0.2⟩) (by show (1 - 2 * 1:Int) * r.1≠0; omega) (by show intBits ((1 - 2 * 1) * r.1)≤21; rw [show (1 - 2 * 1:Int) * r.1 = -r.1 by omega]; exact intBits_neg_le b1) b2
theorem sc_law_right:FnScope ["_law_found", "_law_slope_here", "_law_hand", "_law_wide", "_law_sheet_here", "_law_part_here", "_law_rest"] ["_law_found", "_law_slope_here", "_law_hand", "_law_wide", "_law_sheet_here", "_law_part_here"] (defScope s_law_right):=⟨rfl,rfl,rfl,by decide +kernel,rfl,by decide +kernel,by decide +kernel⟩
def F_rightT:FS:=fun as k=>∃ (s w pt:F2) (hi:Bool) (sh:List Piece),as=[.val (.tup [.lst ((spA s w pt hi sh).map dS),.lst ((spB s w pt hi sh).map dS),.tup [dR (spR w pt),dR (hgt s pt),.lst ((spC s w pt hi sh).map dS)]]),.val (dR s),.val (.str (if hi=true then "high" else "low")),.val (dR w),.val (.lst (sh.map dS)),.val (dR pt)]∧(SpOk s w pt)∧(∀ x∈sh,GL 600 6 x)∧(sh.length≤4)∧(Bal (sh.map fun t=>t.1) [cornP s hi w])∧k (.val (.bl true))
theorem ok_rightT (B:Blts mg)   (F:Fnd K mg "_law_right" s_law_right ["_law_found", "_law_slope_here", "_law_hand", "_law_wide", "_law_sheet_here", "_law_part_here"]) (c_law_less:Cal P w K mg base "_law_less" ["_law_one", "_law_other"] 4 (Con K 2 F_lessT)) (c_law_is_box:Cal P w K mg base "_law_is_box" ["_law_found"] 7 (Con K 1 F_isboxT)) (c_law_high:Cal P w K mg base "_law_high" ["_law_slope_here", "_law_wide"] 5 (Con K 2 F_highT)) (c_law_lies:Cal P w K mg base "_law_lies" ["_law_sheet_here", "_law_ring"] 6 (Con K 2 F_liesT)) (c_law_corner:Cal P w K mg base "_law_corner" ["_law_slope_here", "_law_hand", "_law_wide"] 6 (Con K 3 F_cornT)) (c_law_kept:Cal P w K mg base "_law_kept" ["_law_olds", "_law_news"] 6 (Con K 2 F_keptT)) :
  Cal P w K mg base "_law_right" ["_law_found", "_law_slope_here", "_law_hand", "_law_wide", "_law_sheet_here", "_law_part_here"] 8 (Con K 6 F_rightT):=by
 refine def3 (lv:=7) F sc_law_right rfl (fun f cdv A outer s H E hr=>⟨_,(s_cons (s_set (i:=6) sc_law_right.nd rfl (Or.inl rfl) (e_call c_law_less hr (by rfl) (a_val (v3 3) (a_val (v3 5) a_nil)))) (s_cons (s_if (w_t (w_or (t_not (t_val (e_isi (T := "tuple") (v3 0) (by rfl) B.isinstance_ (pe_bltn (v:=.ty "tuple") (u:=.type "tuple") (by rfl) B.tuple_ (by decide +kernel) rfl) rfl rfl rfl))) (w_or (t_cmp (f:=fun i j => !decide (i=j)) op_neI (e_len (v3 0) (by rfl) B.len_) e_int (nomark _)) (w_or1 (t_not (t_val (e_call c_law_is_box hr (by rfl) (a_val (e_ix (v3 0) e_int (fun _ _=>rfl)) a_nil)))))))) (s_one (s_ret e_bl)) s_nil) (s_cons (s_if (w_t (w_or (t_ne (hr.units) (e_ix (e_ix (v3 0) e_int (fun _ _=>rfl)) e_int (fun _ _=>rfl)) (v3 6) (nomark _)) (w_or1 (t_ne (hr.units) (e_ix (e_ix (v3 0) e_int (fun _ _=>rfl)) e_int (fun _ _=>rfl)) (e_call c_law_high hr (by rfl) (a_val (v3 1) (a_val (v3 5) a_nil))) (nomark _))))) (s_one (s_ret e_bl)) s_nil) (s_cons (s_if (t_not (t_val (e_call c_law_lies hr (by rfl) (a_val (e_ix (v3 0) e_int (fun _ _=>rfl)) (a_val (e_call c_law_corner hr (by rfl) (a_val (v3 1) (a_val (v3 2) (a_val (v3 5) a_nil)))) a_nil))))) (s_one (s_ret e_bl)) s_nil) (s_cons (s_if (t_not (t_val (e_call c_law_lies hr (by rfl) (a_val (e_ix (v3 0) e_int (fun _ _=>rfl)) (a_val (e_call c_law_corner hr (by rfl) (a_val (v3 1) (a_val (v3 2) (a_val (v3 6) a_nil)))) a_nil))))) (s_one (s_ret e_bl)) s_nil) (s_one (s_ret (e_call c_law_kept hr (by rfl) (a_val (v3 4) (a_val (o_e (o_cat (o_e (o_cat (e_ix (v3 0) e_int (fun _ _=>rfl)) (e_ix (v3 0) e_int (fun _ _=>rfl)))) (e_ix (e_ix (v3 0) e_int (fun _ _=>rfl)) e_int (fun _ _=>rfl)))) a_nil)))))))))),?_⟩)
 rintro as k hl ⟨s,w,pt,hi,sh,rfl,hx,hs,hl,bal,hk⟩
 refine at3 (r:=[.val (.tup [.lst ((spA s w pt hi sh).map dS),.lst ((spB s w pt hi sh).map dS),.tup [dR (spR w pt),dR (hgt s pt),.lst ((spC s w pt hi sh).map dS)]]),.val (dR s),.val (.str (if hi=true then "high" else "low")),.val (dR w),.val (.lst (sh.map dS)),.val (dR pt),.no]) rfl ?_
 obtain ⟨r1,r2,r3,r4⟩:=hx.r
 have m47:∀ {z:Int},intBits z≤25→intBits z≤47:=fun h=>Nat.le_trans h (by decide)
 have m:∀ {z:Int} {a b:Nat},intBits z≤a→a≤b→intBits z≤b:=fun h g=>Nat.le_trans h g
 obtain ⟨h1,h2,h3,h4⟩:=hgt_ok hx.ls hx.s0 hx.c1 hx.c2 hx.lp hx.p0 (m47 hx.c5) (m47 hx.c6)
 obtain ⟨⟨ka,na⟩,⟨kb,nb⟩,⟨kc,nc⟩⟩:=told_ok hx hi hs
 obtain ⟨d1,d2,d3⟩:=split_due hx hi hs bal
 have ga:=corn_rg hx.ls hx.s0 hx.c1 hx.c2 hx.lp hx.p0 (m47 hx.c5) (m47 hx.c6) hi
 have gb:=corn_rg hx.ls hx.s0 hx.c1 hx.c2 r1 r2 r3 r4 hi
 have kept:=split_kept hx hi hs
 have big:1000≤sizeLine:=by decide
 refine ⟨_,rfl,_,rfl,rfl,w,pt,rfl,hx.lw.1,hx.lp.1,m hx.c3 (by decide),m hx.c4 (by decide),m hx.c5 (by decide),m hx.c6 (by decide),?_⟩
 dsimp only [fzR]
 generalize hA:spA s w pt hi sh=A at ka na d1 kept ⊢
 generalize hB:spB s w pt hi sh=B at kb nb d2 kept ⊢
 generalize hC:spC s w pt hi sh=C at kc nc d3 kept ⊢
 refine at3 (r:=[.val (.tup [.lst (A.map dS),.lst (B.map dS),.tup [dR (spR w pt),dR (hgt s pt),.lst (C.map dS)]]),.val (dR s),.val (.str (if hi=true then "high" else "low")),.val (dR w),.val (.lst (sh.map dS)),.val (dR pt),.val (dR (spR w pt))]) rfl ?_
 refine pass4 (fun N kk=>?_) ?_
 ·refine ⟨_,rfl,_,_,rfl,fun _=>rfl,_,rfl,iteF ?_⟩
  refine ⟨_,rfl,_,rfl,_,_,rfl,rfl,_,rfl,iteF ?_⟩
  exact ⟨_,rfl,_,_,_,.inl rfl,rfl,rfl,rfl,spR w pt,hgt s pt,C,rfl,r1,h1,m r3 (by decide),m r4 (by decide),m h3 (by decide),m h4 (by decide),r2,h2,by omega,kc,d3,_,rfl,iteF kk⟩
 refine pass4 (fun N kk=>?_) ?_
 ·refine ⟨_,rfl,_,_,_,.inl rfl,rfl,rfl,_,_,_,.inl rfl,rfl,rfl,_,rfl,.T [.I,.I],rfl,rfl,by decide,_,rfl,neIf (fun h=>absurd rfl h) (fun _=>?_)⟩
  refine ⟨_,rfl,_,_,_,.inl rfl,rfl,rfl,_,_,_,.inl rfl,rfl,rfl,_,rfl,_,rfl,rfl,s,pt,rfl,hx.ls,hx.lp,hx.s0,hx.p0,m hx.c1 (by decide),m hx.c2 (by decide),m hx.c5 (by decide),m hx.c6 (by decide),?_⟩
  dsimp only [fzR]
  exact ⟨.T [.I,.I],rfl,rfl,by decide,_,rfl,neIf (fun h=>absurd rfl h) (fun _=>kk)⟩
 refine pass4 (fun N kk=>?_) ?_
 ·refine ⟨_,rfl,_,_,_,.inl rfl,rfl,rfl,_,rfl,_,rfl,_,rfl,rfl,s,pt,hi,rfl,hx.ls,hx.lp,hx.s0,hx.p0,m hx.c1 (by decide),m hx.c2 (by decide),m hx.c5 (by decide),m hx.c6 (by decide),?_⟩
  dsimp only [fzR]
  exact ⟨rfl,A,cornP s hi pt,rfl,by omega,ka,ga,d1,_,rfl,iteF kk⟩
 refine pass4 (fun N kk=>?_) ?_
 ·refine ⟨_,rfl,_,_,_,.inl rfl,rfl,rfl,_,rfl,_,rfl,_,rfl,rfl,s,spR w pt,hi,rfl,hx.ls,r1,hx.s0,r2,m hx.c1 (by decide),m hx.c2 (by decide),m r3 (by decide),m r4 (by decide),?_⟩
  dsimp only [fzR]
  exact ⟨rfl,B,cornP s hi (spR w pt),rfl,by omega,kb,gb,d2,_,rfl,iteF kk⟩
 walk_at "w"
 refine ⟨by rw [List.length_map,List.length_map]; omega,?_⟩
 walk_at "w"
 refine ⟨by rw [List.length_append,List.length_map,List.length_map,List.length_map]; omega,?_⟩
 refine ⟨rfl,sh,A ++ B ++ C,by rw [List.map_append,List.map_append]; rfl,by omega,by rw [List.length_append,List.length_append]; omega,fun x h=>(hs x h).pct,fun x h=>?_,kept,hk⟩
 rcases List.mem_append.mp h with h | h
 ·rcases List.mem_append.mp h with h | h
  ·exact ka x h
  ·exact kb x h
 ·exact kc x h
theorem sc_greatest_divisor:FnScope ["one", "other"] ["one", "other"] (defScope s_greatest_divisor):=⟨rfl,rfl,rfl,by decide +kernel,rfl,by decide +kernel,by decide +kernel⟩
def F_greatest_divisor:FS:=fun as k=>∃ (a b:Int),as=[.val (.int a),.val (.int b)]∧k (.val (.int (Int.gcd a b:Nat)))
theorem ok_greatest_divisor (B:Blts mg)   (F:Fnd K mg "greatest_divisor" s_greatest_divisor ["one", "other"])  :
  Cal P w K mg base "greatest_divisor" ["one", "other"] 2 (Con K 2 F_greatest_divisor):=by
 refine def3 (lv:=1) F sc_greatest_divisor rfl (fun f cdv A outer s H E hr=>⟨_,(s_cons (s_set (i:=0) sc_greatest_divisor.nd rfl (Or.inl rfl) (e_abs (v3 0) (by rfl) B.abs_)) (s_cons (s_set (i:=1) sc_greatest_divisor.nd rfl (Or.inl rfl) (e_abs (v3 1) (by rfl) B.abs_)) (s_cons (s_while PassesOwn.never (t_cmp (f:=fun i j => !decide (i=j)) op_neI (v3 1) e_int (nomark _)) (s_one (s_par (i:=0) (j:=1) rfl sc_greatest_divisor.nd rfl rfl (by decide) rfl rfl (l_cons (v3 1) (l_cons (e_mod (v3 0) (v3 1)) l_nil)) rfl))) (s_one (s_ret (v3 0)))))),?_⟩)
 rintro as k hl ⟨a,b,rfl,hk⟩
 refine at3 (r:=[.val (.int a),.val (.int b)]) rfl ?_
 walk_at "wd"
 refine ⟨fun m ρ=>∃ (x y:Int),ρ=[.val (.int x),.val (.int y)]∧0≤x∧0≤y∧Int.gcd x y=Int.gcd a b∧m=y.toNat,⟨_,_,_,rfl,?_,?_,gcd_abs a b,rfl⟩,?_⟩
 ·split <;> omega
 ·split <;> omega
 rintro m ρ ⟨x,y,rfl,x0,y0,hg,rfl⟩
 walk_at "wd"
 refine iteDn (fun g=>?_) (fun g=>?_)
 ·have g:0 < y:=by omega
  walk_at "wd"
  have m0:=Int.emod_nonneg x (show y≠0 by omega)
  have m1:=Int.emod_lt_of_pos x g
  exact ⟨_,_,rfl,_,by omega,_,_,rfl,y0,m0,by rw [gcd_step x0 g]; exact hg,rfl⟩
 ·subst g
  refine ⟨_,rfl,?_⟩
  rw [← gcd_zero_left x0,hg]
  exact hk
theorem sc_crossed:FnScope ["one", "other", "a", "b", "n", "c", "d", "m"] ["one", "other"] (defScope s_crossed):=⟨rfl,rfl,rfl,by decide +kernel,rfl,by decide +kernel,by decide +kernel⟩
def F_crossedW:FS:=fun as k=>∃ (p q:P3),as=[.val (dP p),.val (dP q)]∧(BP 4000 p)∧(BP 4000 q)∧k (.val (dP (crs p q)))
theorem ok_crossedW (B:Blts mg)   (F:Fnd K mg "crossed" s_crossed ["one", "other"])  :
  Cal P w K mg base "crossed" ["one", "other"] 2 (Con K 2 F_crossedW):=by
 refine def3 (lv:=1) F sc_crossed rfl (fun f cdv A outer s H E hr=>⟨_,(s_cons (s_asg (v3 0) (g_tup (n:=3) rfl (gs_cons (g_name (i:=2) sc_crossed.nd rfl (Or.inl rfl)) (gs_cons (g_name (i:=3) sc_crossed.nd rfl (Or.inl rfl)) (gs_cons (g_name (i:=4) sc_crossed.nd rfl (Or.inl rfl)) gs_nil))))) (s_cons (s_asg (v3 1) (g_tup (n:=3) rfl (gs_cons (g_name (i:=5) sc_crossed.nd rfl (Or.inl rfl)) (gs_cons (g_name (i:=6) sc_crossed.nd rfl (Or.inl rfl)) (gs_cons (g_name (i:=7) sc_crossed.nd rfl (Or.inl rfl)) gs_nil))))) (s_one (s_ret (e_tup (l_cons (e_sub (e_mul (v3 3) (v3 7)) (e_mul (v3 4) (v3 6))) (l_cons (e_sub (e_mul (v3 4) (v3 5)) (e_mul (v3 2) (v3 7))) (l_cons (e_sub (e_mul (v3 2) (v3 6)) (e_mul (v3 3) (v3 5))) l_nil)))))))),?_⟩)
 rintro as k hl ⟨p,q,rfl,bp,bq,hk⟩
 refine at3 (r:=[.val (dP p),.val (dP q),.no,.no,.no,.no,.no,.no]) rfl ?_
 have h1:=bp.a
 have h2:=bp.b
 have h3:=bp.c
 have h4:=bq.a
 have h5:=bq.b
 have h6:=bq.c
 walk_at "w"
 refine ⟨_,_,rfl,_,_,rfl,_,_,rfl,rfl,?_⟩
 walk_at "w"
 refine ⟨_,_,rfl,_,_,rfl,_,_,rfl,rfl,?_⟩
 walk_at "w"
 exact hk
theorem sc_hand_of:FnScope ["line", "p", "turn"] ["line", "p"] (defScope s_hand_of):=⟨rfl,rfl,rfl,by decide +kernel,rfl,by decide +kernel,by decide +kernel⟩
def F_hand_of:FS:=fun as k=>∃ (c r:P3),as=[.val (dP c),.val (dP r)]∧(BP 2000 c)∧(BP 2000 r)∧k (.val (.int (sg (c.1 * r.1 + c.2.1 * r.2.1 + c.2.2 * r.2.2))))
theorem ok_hand_of (B:Blts mg)   (F:Fnd K mg "hand_of" s_hand_of ["line", "p"])  :
  Cal P w K mg base "hand_of" ["line", "p"] 2 (Con K 2 F_hand_of):=by
 refine def3 (lv:=1) F sc_hand_of rfl (fun f cdv A outer s H E hr=>⟨_,(s_cons (s_set (i:=2) sc_hand_of.nd rfl (Or.inl rfl) (e_add (e_add (e_mul (e_ix (v3 0) e_int (fun _ _=>rfl)) (e_ix (v3 1) e_int (fun _ _=>rfl))) (e_mul (e_ix (v3 0) e_int (fun _ _=>rfl)) (e_ix (v3 1) e_int (fun _ _=>rfl)))) (e_mul (e_ix (v3 0) e_int (fun _ _=>rfl)) (e_ix (v3 1) e_int (fun _ _=>rfl))))) (s_cons (s_if (t_cmp (f:=fun i j=>decide (j < i)) op_gt (v3 2) e_int (nomark _)) (s_one (s_ret e_int)) s_nil) (s_cons (s_if (t_cmp (f:=fun i j=>decide (i < j)) op_lt (v3 2) e_int (nomark _)) (s_one (s_ret (e_neg e_int))) s_nil) (s_one (s_ret e_int))))),?_⟩)
 rintro as k hl ⟨c,r,rfl,bc,br,hk⟩
 refine at3 (r:=[.val (dP c),.val (dP r),.no]) rfl ?_
 have h1:=bc.a
 have h2:=bc.b
 have h3:=bc.c
 have h4:=br.a
 have h5:=br.b
 have h6:=br.c
 walk_at "wd"
 unfold sg at hk
 refine iteD (fun g=>?_) (fun g=>?_)
 ·rw [if_pos g] at hk
  exact hk
 rw [if_neg g] at hk
 walk_at "wd"
 refine iteD (fun g2=>?_) (fun g2=>?_)
 ·rw [if_pos g2] at hk
  walk_at "w"
  exact hk
 rw [if_neg g2] at hk
 exact hk
theorem sc_point:FnScope ["a", "b", "n", "divisor"] ["a", "b", "n"] (defScope s_point):=⟨rfl,rfl,rfl,by decide +kernel,rfl,by decide +kernel,by decide +kernel⟩
def F_point:FS:=fun as k=>∃ (a b n:Int),as=[.val (.int a),.val (.int b),.val (.int n)]∧(n≠0)∧(intBits n≤9000)∧k (.val (dP (npt a b n)))
theorem ok_point (B:Blts mg)   (F:Fnd K mg "point" s_point ["a", "b", "n"]) (c_greatest_divisor:Cal P w K mg base "greatest_divisor" ["one", "other"] 2 (Con K 2 F_greatest_divisor)) :
  Cal P w K mg base "point" ["a", "b", "n"] 3 (Con K 3 F_point):=by
 refine def3 (lv:=2) F sc_point rfl (fun f cdv A outer s H E hr=>⟨_,(s_cons (s_if (t_cmp (f:=fun i j=>decide (i=j)) op_eqI (v3 2) e_int (nomark _)) (s_one s_never) s_nil) (s_cons (s_set (i:=3) sc_point.nd rfl (Or.inl rfl) (e_call c_greatest_divisor hr (by rfl) (a_val (e_call c_greatest_divisor hr (by rfl) (a_val (v3 2) (a_val (v3 0) a_nil))) (a_val (v3 1) a_nil)))) (s_cons (s_if (t_cmp (f:=fun i j=>decide (i < j)) op_lt (v3 2) e_int (nomark _)) (s_one (s_set (i:=3) sc_point.nd rfl (Or.inl rfl) (e_neg (v3 3)))) s_nil) (s_one (s_ret (e_tup (l_cons (e_fdiv (v3 0) (v3 3)) (l_cons (e_fdiv (v3 1) (v3 3)) (l_cons (e_fdiv (v3 2) (v3 3)) l_nil))))))))),?_⟩)
 rintro as k hl ⟨a,b,n,rfl,hn,bn,hk⟩
 refine at3 (r:=[.val (.int a),.val (.int b),.val (.int n),.no]) rfl ?_
 walk_at "wd"
 refine iteD (fun g=>absurd g hn) (fun _=>?_)
 walk_at "w"
 refine ⟨_,_,rfl,?_⟩
 walk_at "w"
 refine ⟨_,_,rfl,?_⟩
 dsimp only [fzR]
 have gp:=g3_pos (a:=a) (b:=b) hn
 have gb:=g3_bits (a:=a) (b:=b) hn bn
 rw [g3_na a b n]
 refine mid4 (fun ρ=>ρ=[.val (.int a),.val (.int b),.val (.int n),.val (.int (gsp a b n))]) ?_ (fun N kk=>?_)
 ·rintro ρ rfl
  have d0:gsp a b n≠0:=by unfold gsp; split <;> omega
  have db:intBits (gsp a b n)≤9000:=by
   unfold gsp
   split
   ·exact intBits_neg_le gb
   ·exact gb
  walk_at "w"
  exact hk
 ·walk_at "wd"
  refine iteD (fun g=>?_) (fun g=>?_)
  ·walk_at "w"
   refine kk _ ?_
   unfold gsp
   rw [if_pos g]
   rfl
  ·refine kk _ ?_
   unfold gsp
   rw [if_neg g]
   rfl
theorem sc_meet:FnScope ["p", "q", "r", "s", "a", "b", "n"] ["p", "q", "r", "s"] (defScope s_meet):=⟨rfl,rfl,rfl,by decide +kernel,rfl,by decide +kernel,by decide +kernel⟩
def F_meetW:FS:=fun as k=>∃ (p q r s:P3),as=[.val (dP p),.val (dP q),.val (dP r),.val (dP s)]∧(BP 700 p)∧(BP 700 q)∧(BP 1310 r)∧(BP 1310 s)∧((crs (crs p q) (crs r s)).2.2≠0)∧k (.val (dP (nP (crs (crs p q) (crs r s)))))
theorem ok_meetW (B:Blts mg)   (F:Fnd K mg "meet" s_meet ["p", "q", "r", "s"]) (c_crossed:Cal P w K mg base "crossed" ["one", "other"] 2 (Con K 2 F_crossedW)) (c_point:Cal P w K mg base "point" ["a", "b", "n"] 3 (Con K 3 F_point)) :
  Cal P w K mg base "meet" ["p", "q", "r", "s"] 4 (Con K 4 F_meetW):=by
 refine def3 (lv:=3) F sc_meet rfl (fun f cdv A outer s H E hr=>⟨_,(s_cons (s_asg (e_call c_crossed hr (by rfl) (a_val (e_call c_crossed hr (by rfl) (a_val (v3 0) (a_val (v3 1) a_nil))) (a_val (e_call c_crossed hr (by rfl) (a_val (v3 2) (a_val (v3 3) a_nil))) a_nil))) (g_tup (n:=3) rfl (gs_cons (g_name (i:=4) sc_meet.nd rfl (Or.inl rfl)) (gs_cons (g_name (i:=5) sc_meet.nd rfl (Or.inl rfl)) (gs_cons (g_name (i:=6) sc_meet.nd rfl (Or.inl rfl)) gs_nil))))) (s_cons (s_if (t_cmp (f:=fun i j=>decide (i=j)) op_eqI (v3 6) e_int (nomark _)) (s_one s_never) s_nil) (s_one (s_ret (e_call c_point hr (by rfl) (a_val (v3 4) (a_val (v3 5) (a_val (v3 6) a_nil)))))))),?_⟩)
 rintro as k hl ⟨p,q,r,s,rfl,bp,bq,br,bs,hn,hk⟩
 refine at3 (r:=[.val (dP p),.val (dP q),.val (dP r),.val (dP s),.no,.no,.no]) rfl ?_
 have b1:=bp.crs bq
 have b2:=br.crs bs
 have b3:=b1.crs b2
 refine ⟨_,rfl,_,rfl,rfl,p,q,rfl,bp.mono (by decide),bq.mono (by decide),?_⟩
 refine ⟨_,rfl,_,rfl,rfl,r,s,rfl,br.mono (by decide),bs.mono (by decide),?_⟩
 refine ⟨rfl,_,_,rfl,b1.mono (by decide),b2.mono (by decide),?_⟩
 generalize crs (crs p q) (crs r s)=m at *
 obtain ⟨x,y,z⟩:=m
 have hn:z≠0:=hn
 have bz:intBits z≤9000:=Nat.le_trans b3.c (by decide)
 refine ⟨_,rfl,rfl,_,_,rfl,_,_,rfl,_,_,rfl,rfl,?_⟩
 walk_at "wd"
 refine iteD (fun g=>absurd g hn) (fun _=>?_)
 exact ⟨_,rfl,_,rfl,_,rfl,rfl,x,y,z,rfl,hn,bz,hk⟩
theorem sc_cut_ring:FnScope ["ring", "p", "q", "line", "corner", "hands", "left", "right", "place", "after", "between"] ["ring", "p", "q"] (defScope s_cut_ring):=⟨rfl,rfl,rfl,by decide +kernel,rfl,by decide +kernel,by decide +kernel⟩
def F_cut_ringW:FS:=fun as k=>∃ (ps:List P3) (p q:P3),as=[.val (.lst (ps.map dP)),.val (dP p),.val (dP q)]∧(BP 300 p)∧(BP 300 q)∧(∀ c∈ps,BP 1310 c∧PtP c)∧(ps.length≤1000)∧k (.new (.tup [.lst ((keepR (ln (crs p q)) (mtQ (crs p q)) ps).map dP),.lst ((keepR (fun c => -ln (crs p q) c) (mtQ (crs p q)) ps).map dP)]))
theorem ok_cut_ringW (B:Blts mg)   (F:Fnd K mg "cut_ring" s_cut_ring ["ring", "p", "q"]) (c_crossed:Cal P w K mg base "crossed" ["one", "other"] 2 (Con K 2 F_crossedW)) (c_hand_of:Cal P w K mg base "hand_of" ["line", "p"] 2 (Con K 2 F_hand_of)) (c_meet:Cal P w K mg base "meet" ["p", "q", "r", "s"] 4 (Con K 4 F_meetW)) :
  Cal P w K mg base "cut_ring" ["ring", "p", "q"] 5 (Con K 3 F_cut_ringW):=by
 refine def3N (lv:=4) [true,false,false] F sc_cut_ring rfl (fun f cdv A outer s H E hr=>⟨_,(s_cons (s_set (i:=3) sc_cut_ring.nd rfl (Or.inr rfl) (e_call c_crossed hr (by rfl) (a_val (v3 1) (a_val (v3 2) a_nil)))) (s_cons (s_thenFz 5 (s_compAO (i:=5) sc_cut_ring.nd rfl rfl (ts:=["corner"]) (fr:=["line"]) (js:=[3]) (i_list (v3 0)) (fun _ _ _ _=>(g_name (i:=0) (show List.Nodup (["corner", "line"]:List Str) by decide +kernel) rfl (Or.inl rfl))) (fun _ _ _ _=>ifs_nil) (fun _ _ _ _=>(e_call c_hand_of hr (by rfl) (a_val (v3 1) (a_val (v3 0) a_nil)))) ⟨rfl,by decide +kernel,rfl,by decide +kernel,fsub_of (List.forall_mem_cons.mpr ⟨rfl,(List.forall_mem_nil _)⟩),fhas_b rfl,by walk_at "ffr", rfl⟩)) (s_cons (s_setO (i:=6) sc_cut_ring.nd rfl (Or.inl rfl) (o_lst l_nil)) (s_cons (s_setO (i:=7) sc_cut_ring.nd rfl (Or.inl rfl) (o_lst l_nil)) (s_cons (s_forEO 0 PassesOwn.never rfl (by rfl) B.enumerate_ (g_tup (n:=2) rfl (gs_cons (g_name (i:=8) sc_cut_ring.nd rfl (Or.inl rfl)) (gs_cons (g_name (i:=4) sc_cut_ring.nd rfl (Or.inl rfl)) gs_nil))) (s_cons (s_if (t_cmp (f:=fun i j=>decide (j≤i)) op_ge (e_ix (v3 5) (v3 8) (fun _ _=>rfl)) e_int (nomark _)) (s_one (s_app 6 (v3 4))) s_nil) (s_cons (s_if (t_cmp (f:=fun i j=>decide (i≤j)) op_le (e_ix (v3 5) (v3 8) (fun _ _=>rfl)) e_int (nomark _)) (s_one (s_app 7 (v3 4))) s_nil) (s_cons (s_set (i:=9) sc_cut_ring.nd rfl (Or.inl rfl) (e_look (e_mod (e_add (v3 8) e_int) (e_len (v3 0) (by rfl) B.len_)))) (s_one (s_if (t_cmp (f:=fun i j=>decide (i < j)) op_lt (e_mul (e_ix (v3 5) (v3 8) (fun _ _=>rfl)) (e_ix (v3 5) (v3 9) (fun _ _=>rfl))) e_int (nomark _)) (s_cons (s_set (i:=10) sc_cut_ring.nd rfl (Or.inl rfl) (e_look (e_call c_meet hr (by rfl) (a_val (v3 1) (a_val (v3 2) (a_val (v3 4) (a_val (e_ix (v3 0) (v3 9) (fun _ _=>rfl)) a_nil))))))) (s_cons (s_app 6 (v3 10)) (s_one (s_app 7 (v3 10))))) s_nil)))))) (s_fz 7 (s_fz 6 (s_one (s_ret (e_tup (l_cons (e_ifE (t_in (hr.units) e_int (v3 5) (by rfl)) (v3 6) (o_e (o_lst l_nil))) (l_cons (e_ifE (t_in (hr.units) (e_neg e_int) (v3 5) (by rfl)) (v3 7) (o_e (o_lst l_nil))) l_nil)))))))))))),?_⟩)
 rintro as k hl ⟨ps,p,q,rfl,bp,bq,hb,hl,hk⟩
 refine ⟨⟨trivial,rfl,rfl,trivial⟩,at3 (r:=[.new (.lst (ps.map dP)),.val (dP p),.val (dP q),.no,.no,.no,.no,.no,.no,.no,.no]) rfl ?_⟩
 have l3:=(bp.crs bq).mono (show 300 + 300 + 1≤700 by decide)
 refine ⟨_,rfl,_,rfl,rfl,p,q,rfl,bp.mono (by decide),bq.mono (by decide),?_⟩
 dsimp only [fzR]
 refine ⟨_,rfl,_,rfl,by rw [List.length_map]; exact Nat.le_trans hl (by decide),?_⟩
 refine compG_map (f:=dP) (h:=fun c=>D.int (sg (ln (crs p q) c))) (fs:=[.val (dP (crs p q))]) (fun r hr k3 hk3=>⟨_,rfl,_,rfl,rfl,crs p q,r,rfl,l3.mono (by decide),(hb r hr).1.mono (by decide),hk3⟩) ⟨flats_ints _ _,?_⟩
 refine ⟨_,rfl,?_⟩
 walk_at "wd"
 refine ⟨flats_P0 _,?_⟩
 have ha0:ps.headD (ps.headD (0,0,1))=ps.headD (0,0,1):=by cases ps <;> rfl
 refine forR_prs (f:=dP) (done:=[]) (fun pre ρ=>∃ v4 v8 v9 v10 rest,ps=pre ++ rest∧ρ=[.new (.lst (ps.map dP)),.val (dP p),.val (dP q),.val (dP (crs p q)),v4,.val (.lst (ps.map fun c=>D.int (sg (ln (crs p q) c)))),.own ((sgs (ln (crs p q)) (mtQ (crs p q)) pre (rest.headD (ps.headD (0,0,1)))).map dP),.own ((sgs (fun c => -ln (crs p q) c) (mtQ (crs p q)) pre (rest.headD (ps.headD (0,0,1)))).map dP),v8,v9,v10]) ⟨_,_,_,_,ps,rfl,rfl⟩ ?_ ?_
 ·rintro pre c rest ρ eq ⟨v4,v8,v9,v10,rest0,e0,rfl⟩ N kk
  have eq:ps=pre ++ c :: rest:=by simpa using eq
  have er:rest0=c :: rest:=by rw [e0] at eq; exact List.append_cancel_left eq
  subst er
  have hc:c∈ps:=by rw [eq]; simp
  have am:atI (ps.map fun c=>D.int (sg (ln (crs p q) c))) (pre.length:Int)=some (D.int (sg (ln (crs p q) c))):=by
   have:=at_mid (h:=fun c=>D.int (sg (ln (crs p q) c))) (pre:=pre) (rest:=rest) (c:=c)
   rw [← eq] at this
   exact this
  have an:=at_nxt (h:=fun c=>D.int (sg (ln (crs p q) c))) eq ha0
  have anP:=at_nxt (h:=dP) eq ha0
  show uSeq _ _ _ [.new (.lst (ps.map dP)),.val (dP p),.val (dP q),.val (dP (crs p q)),.val (dP c),.val (.lst (ps.map fun c=>D.int (sg (ln (crs p q) c)))),.own ((sgs (ln (crs p q)) (mtQ (crs p q)) pre c).map dP),.own ((sgs (fun c => -ln (crs p q) c) (mtQ (crs p q)) pre c).map dP),.val (.int pre.length),v9,v10]
  have hpl:pre.length≤1000:=by rw [eq,List.length_append] at hl; omega
  have z1:=sgs_len (f:=ln (crs p q)) (mt:=mtQ (crs p q)) (ps:=pre) (w:=c)
  have z2:=sgs_len (f:=fun c => -ln (crs p q) c) (mt:=mtQ (crs p q)) (ps:=pre) (w:=c)
  have big:5000≤sizeLine:=by decide
  refine mid4 (fun ρ=>ρ=[.new (.lst (ps.map dP)),.val (dP p),.val (dP q),.val (dP (crs p q)),.val (dP c),.val (.lst (ps.map fun c=>D.int (sg (ln (crs p q) c)))),.own ((sgs (ln (crs p q)) (mtQ (crs p q)) pre c ++ kp (ln (crs p q)) c).map dP),.own ((sgs (fun c => -ln (crs p q) c) (mtQ (crs p q)) pre c).map dP),.val (.int pre.length),v9,v10]) ?_ (fun N kk=>?_)
  rotate_left
  ·refine ⟨_,rfl,_,rfl,_,_,_,.inr rfl,rfl,am,_,_,rfl,rfl,_,rfl,iteD (fun g=>?_) (fun g=>?_)⟩
   ·refine ⟨_,rfl,_,rfl,by rw [List.length_map]; omega,kk _ ?_⟩
    rw [kp_yes (sg_ge.mp g),List.map_append]
    rfl
   ·refine kk _ ?_
    rw [kp_no (fun z=>g (sg_ge.mpr z)),List.append_nil]
  rintro ρ rfl
  refine mid4 (fun ρ=>ρ=[.new (.lst (ps.map dP)),.val (dP p),.val (dP q),.val (dP (crs p q)),.val (dP c),.val (.lst (ps.map fun c=>D.int (sg (ln (crs p q) c)))),.own ((sgs (ln (crs p q)) (mtQ (crs p q)) pre c ++ kp (ln (crs p q)) c).map dP),.own ((sgs (fun c => -ln (crs p q) c) (mtQ (crs p q)) pre c ++ kp (fun c => -ln (crs p q) c) c).map dP),.val (.int pre.length),v9,v10]) ?_ (fun N kk=>?_)
  rotate_left
  ·refine ⟨_,rfl,_,rfl,_,_,_,.inr rfl,rfl,am,_,_,rfl,rfl,_,rfl,iteD (fun g=>?_) (fun g=>?_)⟩
   ·refine ⟨_,rfl,_,rfl,by rw [List.length_map]; omega,kk _ ?_⟩
    rw [kp_yes (f:=fun c => -ln (crs p q) c) (c:=c) (by have:=sg_le.mp g; show 0 ≤ -ln (crs p q) c; omega),List.map_append (l₂:=[c])]
    rfl
   ·refine kk _ ?_
    rw [kp_no (f:=fun c => -ln (crs p q) c) (c:=c) (fun z=>g (sg_le.mpr (by have z:0 ≤ -ln (crs p q) c:=z; omega))),List.append_nil]
  rintro ρ rfl
  have pos:(0:Int) < ((ps.map dP).length:Int):=by rw [List.length_map,eq,List.length_append,List.length_cons]; omega
  refine ⟨_,rfl,_,_,rfl,rfl,_,rfl,_,rfl,_,_,rfl,rfl,pos,rfl,?_⟩
  rw [List.length_map]
  have k1:(kp (ln (crs p q)) c).length≤1:=by unfold kp; split <;> simp
  have k2:(kp (fun c => -ln (crs p q) c) c).length≤1:=by unfold kp; split <;> simp
  refine ⟨_,rfl,_,rfl,_,_,_,.inr rfl,rfl,am,_,rfl,_,rfl,_,_,_,.inr rfl,rfl,an,_,_,rfl,rfl,⟨sg_bits _,sg_bits _⟩,_,_,rfl,rfl,_,rfl,iteD (fun g=>?_) (fun g=>?_)⟩
  ·have lt:=sg_mul_neg.mp g
   have hnx:rest.headD (ps.headD (0,0,1))∈ps:=by
    cases rest with
    | nil =>
     cases ps with
     | nil=>cases hc
     | cons a r=>exact List.mem_cons_self
    | cons d rest=>rw [eq]; simp
   have pc:=(hb c hc).2
   have pn:=(hb _ hnx).2
   refine ⟨_,rfl,_,rfl,_,rfl,_,rfl,_,rfl,_,_,_,.inr rfl,rfl,anP,rfl,p,q,c,rest.headD (ps.headD (0,0,1)),rfl,bp.mono (by decide),bq.mono (by decide),(hb c hc).1.mono (by decide),(hb _ hnx).1.mono (by decide),meet_ne pc pn lt,?_⟩
   dsimp only [fzR]
   refine ⟨rfl,?_⟩
   rw [mtQ_pt pc pn]
   refine ⟨_,rfl,_,rfl,by rw [List.length_map,List.length_append]; omega,?_⟩
   refine ⟨_,rfl,_,rfl,by rw [List.length_map,List.length_append]; omega,kk _ ⟨.val (dP c),.val (.int pre.length),.val (.int (((pre.length:Int) + 1) % (ps.length:Int))),.val (dP (mtQ (crs p q) c (rest.headD (ps.headD (0,0,1))))),rest,by rw [eq]; simp,?_⟩⟩
   rw [sgs_one,sgs_one,mx_yes lt,mx_yes (f:=fun c => -ln (crs p q) c) (by rw [Int.neg_mul_neg]; exact lt),List.map_append (l₂:=[mtQ (crs p q) c (rest.headD (ps.headD (0,0,1)))]),List.map_append (l₂:=[mtQ (crs p q) c (rest.headD (ps.headD (0,0,1)))])]
   rfl
  ·refine kk _ ⟨.val (dP c),.val (.int pre.length),.val (.int (((pre.length:Int) + 1) % (ps.length:Int))),v10,rest,by rw [eq]; simp,?_⟩
   have nl:¬ ln (crs p q) c * ln (crs p q) (rest.headD (ps.headD (0,0,1))) < 0:=fun z=>g (sg_mul_neg.mpr z)
   rw [sgs_one,sgs_one,mx_no nl,mx_no (by rw [Int.neg_mul_neg]; exact nl),List.append_nil,List.append_nil]
   rfl
 rintro ρ ⟨v4,v8,v9,v10,rest,e0,rfl⟩
 have er:rest=[]:=by
  have:ps ++ []=ps ++ rest:=by rw [List.append_nil]; exact e0
  exact (List.append_cancel_left this).symm
 subst er
 have isI:∀ e∈ps.map (fun c=>D.int (sg (ln (crs p q) c))),has .I e=true:=fun e he=>by
  obtain ⟨_,_,rfl⟩:=List.mem_map.mp he
  rfl
 refine ⟨_,rfl,_,rfl,?_⟩
 refine ⟨_,rfl,.I,_,.inl rfl,rfl,isI,by decide,fun b1 hb1=>⟨_,rfl,?_⟩⟩
 cases b1 with
 | true =>
  rw [keep_yes (sg_one_mem.mp (hb1.mp rfl))] at hk
  refine iteT3 rfl ⟨_,rfl,?_⟩
  refine ⟨_,rfl,_,rfl,.I,_,.inl rfl,rfl,isI,by decide,fun b2 hb2=>⟨_,rfl,?_⟩⟩
  cases b2 with
  | true =>
   rw [keep_yes (neg_ex.mpr (sg_neg_mem.mp (hb2.mp rfl)))] at hk
   exact iteT3 rfl ⟨_,rfl,(show 2≤sizeLine by decide),hk⟩
  | false =>
   rw [keep_no (fun z=>Bool.false_ne_true (hb2.mpr (sg_neg_mem.mpr (neg_ex.mp z))))] at hk
   exact iteF3 rfl ⟨(show 0≤sizeLine by decide),(show 2≤sizeLine by decide),hk⟩
 | false =>
  rw [keep_no (fun z=>Bool.false_ne_true (hb1.mpr (sg_one_mem.mpr z)))] at hk
  refine iteF3 rfl ⟨(show 0≤sizeLine by decide),?_⟩
  refine ⟨_,rfl,_,rfl,.I,_,.inl rfl,rfl,isI,by decide,fun b2 hb2=>⟨_,rfl,?_⟩⟩
  cases b2 with
  | true =>
   rw [keep_yes (neg_ex.mpr (sg_neg_mem.mp (hb2.mp rfl)))] at hk
   exact iteT3 rfl ⟨_,rfl,(show 2≤sizeLine by decide),hk⟩
  | false =>
   rw [keep_no (fun z=>Bool.false_ne_true (hb2.mpr (sg_neg_mem.mpr (neg_ex.mp z))))] at hk
   exact iteF3 rfl ⟨(show 0≤sizeLine by decide),(show 2≤sizeLine by decide),hk⟩
theorem sc_cut_sheet:FnScope ["sheet", "p", "q", "left", "right", "ring", "is_turned", "step", "left_ring", "right_ring"] ["sheet", "p", "q"] (defScope s_cut_sheet):=⟨rfl,rfl,rfl,by decide +kernel,rfl,by decide +kernel,by decide +kernel⟩
def F_cut_sheetW:FS:=fun as k=>∃ (sh:List Piece) (p q:P3),as=[.val (.lst (sh.map dS)),.val (dP p),.val (dP q)]∧(BP 300 p)∧(BP 300 q)∧(∀ s∈sh,∀ c∈s.1,BP 1310 c∧PtP c)∧(∀ s∈sh,s.1.length≤1000)∧(sh.length≤1000)∧k (.new (.tup [.lst ((cutS (ln (crs p q)) (mtQ (crs p q)) sh).map dS),.lst ((cutS (fun c => -ln (crs p q) c) (mtQ (crs p q)) sh).map dS)]))
theorem ok_cut_sheetW (B:Blts mg)   (F:Fnd K mg "cut_sheet" s_cut_sheet ["sheet", "p", "q"]) (c_cut_ring:Cal P w K mg base "cut_ring" ["ring", "p", "q"] 5 (Con K 3 F_cut_ringW)) :
  Cal P w K mg base "cut_sheet" ["sheet", "p", "q"] 6 (Con K 3 F_cut_sheetW):=by
 refine def3N (lv:=5) [true,false,false] F sc_cut_sheet rfl (fun f cdv A outer s H E hr=>⟨_,(s_cons (s_setO (i:=3) sc_cut_sheet.nd rfl (Or.inl rfl) (o_lst l_nil)) (s_cons (s_setO (i:=4) sc_cut_sheet.nd rfl (Or.inl rfl) (o_lst l_nil)) (s_cons (s_forO 0 PassesOwn.never rfl (go_tup (n:=3) rfl (gos_cons (go_old (i:=5) sc_cut_sheet.nd rfl (Or.inl rfl)) (gos_cons (go_flat (i:=6) sc_cut_sheet.nd rfl (Or.inl rfl)) (gos_cons (go_flat (i:=7) sc_cut_sheet.nd rfl (Or.inl rfl)) gos_nil)))) (s_cons (s_asg (d_e (d_look (d_call c_cut_ring hr (by rfl) (a_val (v3 5) (a_val (v3 1) (a_val (v3 2) a_nil)))))) (g_tup (n:=2) rfl (gs_cons (g_name (i:=8) sc_cut_sheet.nd rfl (Or.inl rfl)) (gs_cons (g_name (i:=9) sc_cut_sheet.nd rfl (Or.inl rfl)) gs_nil)))) (s_cons (s_if (t_truL (v3 8)) (s_one (s_app 3 (e_tup (l_cons (v3 8) (l_cons (v3 6) (l_cons (v3 7) l_nil)))))) s_nil) (s_one (s_if (t_truL (v3 9)) (s_one (s_app 4 (e_tup (l_cons (v3 9) (l_cons (v3 6) (l_cons (v3 7) l_nil)))))) s_nil))))) (s_fz 4 (s_fz 3 (s_one (s_ret (e_tup (l_cons (v3 3) (l_cons (v3 4) l_nil)))))))))),?_⟩)
 rintro as k hl ⟨sh,p,q,rfl,bp,bq,hb,hr1,hl,hk⟩
 refine ⟨⟨trivial,rfl,rfl,trivial⟩,at3 (r:=[.new (.lst (sh.map dS)),.val (dP p),.val (dP q),.no,.no,.no,.no,.no,.no,.no]) rfl ?_⟩
 have big:5000≤sizeLine:=by decide
 walk_at "wd"
 refine forO_sh (done:=[]) (fun pre ρ=>∃ v5 v6 v7 v8 v9,ρ=[.new (.lst (sh.map dS)),.val (dP p),.val (dP q),.own ((cutS (ln (crs p q)) (mtQ (crs p q)) pre).map dS),.own ((cutS (fun c => -ln (crs p q) c) (mtQ (crs p q)) pre).map dS),v5,v6,v7,v8,v9]) ⟨_,_,_,_,_,rfl⟩ ?_ ?_
 ·rintro pre x rest ρ hpre ⟨v5,v6,v7,v8,v9,rfl⟩ N kk
  have hpre:sh=pre ++ x :: rest:=by simpa using hpre
  have hx:x∈sh:=by rw [hpre]; simp
  have hpl:pre.length < 1000:=by have:=congrArg List.length hpre; simp at this; omega
  have c1:=cutS_len (f:=ln (crs p q)) (mt:=mtQ (crs p q)) pre
  have c2:=cutS_len (f:=fun c => -ln (crs p q) c) (mt:=mtQ (crs p q)) pre
  refine ⟨_,rfl,_,rfl,_,rfl,rfl,x.1,p,q,rfl,bp,bq,hb x hx,hr1 x hx,_,rfl,?_⟩
  refine ⟨_,rfl,rfl,_,_,rfl,_,_,rfl,rfl,?_⟩
  show uSeq (uIf (uTruL (uVar 8)) (uApp 3 (uTup (uCons (uVar 8) (uCons (uVar 6) (uCons (uVar 7) uNil))))) uNext) (uIf (uTruL (uVar 9)) (uApp 4 (uTup (uCons (uVar 9) (uCons (uVar 6) (uCons (uVar 7) uNil))))) uNext) _ [.new (.lst (sh.map dS)),.val (dP p),.val (dP q),.own ((cutS (ln (crs p q)) (mtQ (crs p q)) pre).map dS),.own ((cutS (fun c => -ln (crs p q) c) (mtQ (crs p q)) pre).map dS),.new (.lst (x.1.map dP)),.val (.bl x.2.1),.val (dP x.2.2),.val (.lst ((keepR (ln (crs p q)) (mtQ (crs p q)) x.1).map dP)),.val (.lst ((keepR (fun c => -ln (crs p q) c) (mtQ (crs p q)) x.1).map dP))]
  refine mid4 (fun ρ=>ρ=[.new (.lst (sh.map dS)),.val (dP p),.val (dP q),.own ((cutS (ln (crs p q)) (mtQ (crs p q)) (pre ++ [x])).map dS),.own ((cutS (fun c => -ln (crs p q) c) (mtQ (crs p q)) pre).map dS),.new (.lst (x.1.map dP)),.val (.bl x.2.1),.val (dP x.2.2),.val (.lst ((keepR (ln (crs p q)) (mtQ (crs p q)) x.1).map dP)),.val (.lst ((keepR (fun c => -ln (crs p q) c) (mtQ (crs p q)) x.1).map dP))]) ?_ (fun N kk=>?_)
  rotate_left
  ·refine ⟨_,rfl,_,rfl,?_⟩
   cases c:(keepR (ln (crs p q)) (mtQ (crs p q)) x.1).isEmpty with
   | false =>
    refine iteT3 (by rw [List.isEmpty_map,c]; rfl) ?_
    refine ⟨_,rfl,_,rfl,_,rfl,_,rfl,by show 3≤sizeLine; decide,by rw [List.length_map]; omega,kk _ ?_⟩
    rw [cutS_app,cutS_one_yes c,List.map_append]
    rfl
   | true =>
    refine iteF3 (by rw [List.isEmpty_map,c]; rfl) (kk _ ?_)
    rw [cutS_app,cutS_one_no c,List.append_nil]
  rintro ρ rfl
  refine ⟨_,rfl,_,rfl,?_⟩
  cases c:(keepR (fun c => -ln (crs p q) c) (mtQ (crs p q)) x.1).isEmpty with
  | false =>
   refine iteT3 (by rw [List.isEmpty_map,c]; rfl) ?_
   refine ⟨_,rfl,_,rfl,_,rfl,_,rfl,by show 3≤sizeLine; decide,by rw [List.length_map]; omega,kk _ ⟨.new (.lst (x.1.map dP)),.val (.bl x.2.1),.val (dP x.2.2),.val (.lst ((keepR (ln (crs p q)) (mtQ (crs p q)) x.1).map dP)),.val (.lst ((keepR (fun c => -ln (crs p q) c) (mtQ (crs p q)) x.1).map dP)),?_⟩⟩
   rw [cutS_app (f:=fun c => -ln (crs p q) c),cutS_one_yes c,List.map_append (l₂:=[(keepR (fun c => -ln (crs p q) c) (mtQ (crs p q)) x.1,x.2)])]
   rfl
  | true =>
   refine iteF3 (by rw [List.isEmpty_map,c]; rfl) (kk _ ⟨.new (.lst (x.1.map dP)),.val (.bl x.2.1),.val (dP x.2.2),.val (.lst ((keepR (ln (crs p q)) (mtQ (crs p q)) x.1).map dP)),.val (.lst ((keepR (fun c => -ln (crs p q) c) (mtQ (crs p q)) x.1).map dP)),?_⟩)
   rw [cutS_app (f:=fun c => -ln (crs p q) c),cutS_one_no c,List.append_nil]
 ·rintro ρ ⟨v5,v6,v7,v8,v9,rfl⟩
  refine ⟨_,rfl,_,rfl,?_⟩
  exact ⟨_,rfl,_,rfl,by show 2≤sizeLine; decide,hk⟩
theorem sc_slid:FnScope ["p", "step", "a", "b", "n", "right", "up", "parts", "shared", "x", "y", "divisor"] ["p", "step"] (defScope s_slid):=⟨rfl,rfl,rfl,by decide +kernel,rfl,by decide +kernel,by decide +kernel⟩
def F_slidW:FS:=fun as k=>∃ (p g:P3),as=[.val (dP p),.val (dP g)]∧(PtP p)∧(BP 3000 p)∧(PtP g)∧(BP 1000 g)∧k (.val (dP (nP (sld g p))))
theorem ok_slidW (B:Blts mg)   (F:Fnd K mg "slid" s_slid ["p", "step"]) (c_greatest_divisor:Cal P w K mg base "greatest_divisor" ["one", "other"] 2 (Con K 2 F_greatest_divisor)) :
  Cal P w K mg base "slid" ["p", "step"] 3 (Con K 2 F_slidW):=by
 refine def3 (lv:=2) F sc_slid rfl (fun f cdv A outer s H E hr=>⟨_,(s_cons (s_asg (v3 0) (g_tup (n:=3) rfl (gs_cons (g_name (i:=2) sc_slid.nd rfl (Or.inl rfl)) (gs_cons (g_name (i:=3) sc_slid.nd rfl (Or.inl rfl)) (gs_cons (g_name (i:=4) sc_slid.nd rfl (Or.inl rfl)) gs_nil))))) (s_cons (s_asg (v3 1) (g_tup (n:=3) rfl (gs_cons (g_name (i:=5) sc_slid.nd rfl (Or.inl rfl)) (gs_cons (g_name (i:=6) sc_slid.nd rfl (Or.inl rfl)) (gs_cons (g_name (i:=7) sc_slid.nd rfl (Or.inl rfl)) gs_nil))))) (s_cons (s_set (i:=8) sc_slid.nd rfl (Or.inl rfl) (e_call c_greatest_divisor hr (by rfl) (a_val (v3 4) (a_val (v3 7) a_nil)))) (s_cons (s_set (i:=9) sc_slid.nd rfl (Or.inl rfl) (e_add (e_mul (v3 2) (e_fdiv (v3 7) (v3 8))) (e_mul (v3 5) (e_fdiv (v3 4) (v3 8))))) (s_cons (s_set (i:=10) sc_slid.nd rfl (Or.inl rfl) (e_add (e_mul (v3 3) (e_fdiv (v3 7) (v3 8))) (e_mul (v3 6) (e_fdiv (v3 4) (v3 8))))) (s_cons (s_set (i:=11) sc_slid.nd rfl (Or.inl rfl) (e_call c_greatest_divisor hr (by rfl) (a_val (e_call c_greatest_divisor hr (by rfl) (a_val (v3 8) (a_val (v3 9) a_nil))) (a_val (v3 10) a_nil)))) (s_one (s_ret (e_tup (l_cons (e_fdiv (v3 9) (v3 11)) (l_cons (e_fdiv (v3 10) (v3 11)) (l_cons (e_mul (e_fdiv (v3 4) (v3 8)) (e_fdiv (v3 7) (v3 11))) l_nil)))))))))))),?_⟩)
 rintro as k hl ⟨p,g,rfl,h0p,bp,h0g,bg,hk⟩
 refine at3 (r:=[.val (dP p),.val (dP g),.no,.no,.no,.no,.no,.no,.no,.no,.no,.no]) rfl ?_
 obtain ⟨a,b,n⟩:=p
 obtain ⟨r,w,m⟩:=g
 have h1:intBits a≤3000:=bp.a
 have h2:intBits b≤3000:=bp.b
 have h3:intBits n≤3000:=bp.c
 have h4:intBits r≤1000:=bg.a
 have h5:intBits w≤1000:=bg.b
 have h6:intBits m≤1000:=bg.c
 have n0:n≠0:=Int.ne_of_gt h0p.1
 have m0:m≠0:=Int.ne_of_gt h0g.1
 have sp:=gcd_pos (t:=n) (b:=m) m0
 have sb:=gcd_bits (a:=n) (b:=m) m0 h6
 have pl:=fun X Y d=>slid_low (a:=a) (b:=b) (n:=n) (r:=r) (w:=w) (m:=m) h0p h0g (s:=((Int.gcd n m:Nat):Int)) (X:=X) (Y:=Y) (d:=d) rfl
 have hk:k (.val (dP (npt (a * m + r * n) (b * m + w * n) (n * m)))):=hk
 refine ⟨_,rfl,_,rfl,rfl,_,_,rfl,_,_,rfl,_,_,rfl,rfl,?_⟩
 refine ⟨_,rfl,_,rfl,rfl,_,_,rfl,_,_,rfl,_,_,rfl,rfl,?_⟩
 walk_at "w"
 refine ⟨_,_,rfl,?_⟩
 dsimp only [fzR]
 generalize ((Int.gcd n m:Nat):Int)=s at *
 have b1:intBits (m.fdiv s)≤1000:=bits_of_abs (natAbs_fdiv_le _ _) h6
 have b2:intBits (n.fdiv s)≤3000:=bits_of_abs (natAbs_fdiv_le _ _) h3
 have tb:intBits (a * m.fdiv s + r * n.fdiv s)≤4001:=intBits_add_le (intBits_mul_le h1 b1) (intBits_mul_le h4 b2)
 have ub:intBits (b * m.fdiv s + w * n.fdiv s)≤4001:=intBits_add_le (intBits_mul_le h2 b1) (intBits_mul_le h5 b2)
 have pl:=fun d=>pl _ _ d rfl rfl
 walk_at "w"
 refine ⟨_,_,rfl,?_⟩
 dsimp only [fzR]
 walk_at "w"
 refine ⟨_,_,rfl,?_⟩
 dsimp only [fzR]
 generalize a * m.fdiv s + r * n.fdiv s=X at *
 generalize b * m.fdiv s + w * n.fdiv s=Y at *
 have pl:=pl _ rfl
 have ep:=gcd_pos2 (a:=s) (b:=X) (.inl (Int.ne_of_gt sp))
 have eb:intBits ((Int.gcd s X:Nat):Int)≤1000:=by
  rw [Int.gcd_comm]
  exact gcd_bits (Int.ne_of_gt sp) sb
 generalize ((Int.gcd s X:Nat):Int)=e at *
 have dp:=gcd_pos2 (a:=e) (b:=Y) (.inl (Int.ne_of_gt ep))
 have db:intBits ((Int.gcd e Y:Nat):Int)≤1000:=by
  rw [Int.gcd_comm]
  exact gcd_bits (Int.ne_of_gt ep) eb
 generalize ((Int.gcd e Y:Nat):Int)=d at *
 have b3:intBits (m.fdiv d)≤1000:=bits_of_abs (natAbs_fdiv_le _ _) h6
 rw [← pl] at hk
 walk_at "w"
 exact hk
theorem sc_moved:FnScope ["sheet", "step"] ["sheet", "step"] (defScope s_moved):=⟨rfl,rfl,rfl,by decide +kernel,rfl,by decide +kernel,by decide +kernel⟩
def F_movedW:FS:=fun as k=>∃ (sh:List Piece) (g:P3),as=[.val (.lst (sh.map dS)),.val (dP g)]∧(sh.length≤100)∧(∀ s∈sh,GL 2770 24 s)∧(GP 400 g)∧k (.new (.lst ((sh.map (slS g)).map dS)))
theorem ok_movedW (B:Blts mg)   (F:Fnd K mg "moved" s_moved ["sheet", "step"]) (c_slid:Cal P w K mg base "slid" ["p", "step"] 3 (Con K 2 F_slidW)) :
  Cal P w K mg base "moved" ["sheet", "step"] 4 (Con K 2 F_movedW):=by
 refine def3 (lv:=3) F sc_moved rfl (fun f cdv A outer s H E hr=>⟨_,(s_one (s_retD (d_comp (ts:=["ring", "is_turned", "elder_step"]) (fr:=["step"]) (js:=[1]) (i_list (v3 0)) (fun _ _ _ _=>(g_tup (n:=3) rfl (gs_cons (g_name (i:=0) (show List.Nodup (["ring", "is_turned", "elder_step", "step"]:List Str) by decide +kernel) rfl (Or.inl rfl)) (gs_cons (g_name (i:=1) (show List.Nodup (["ring", "is_turned", "elder_step", "step"]:List Str) by decide +kernel) rfl (Or.inl rfl)) (gs_cons (g_name (i:=2) (show List.Nodup (["ring", "is_turned", "elder_step", "step"]:List Str) by decide +kernel) rfl (Or.inl rfl)) gs_nil))))) (fun _ _ _ _=>ifs_nil) (fun _ _ _ _=>(d_tup (dl_cons (d_list (o_compG (ts:=["corner"]) (fr:=["step"]) (js:=[3]) (i_list (v3 0)) (fun _ _ _ _=>(g_name (i:=0) (show List.Nodup (["corner", "step"]:List Str) by decide +kernel) rfl (Or.inl rfl))) (fun _ _ _ _=>ifs_nil) (fun _ _ _ _=>(e_call c_slid hr (by rfl) (a_val (v3 0) (a_val (v3 1) a_nil)))) ⟨rfl,by decide +kernel,rfl,by decide +kernel,fsub_of (List.forall_mem_cons.mpr ⟨rfl,(List.forall_mem_nil _)⟩),fhas_b rfl,by walk_at "ffr", rfl⟩)) (dl_cons (d_flat (v3 1)) (dl_cons (d_flat (e_call c_slid hr (by rfl) (a_val (v3 2) (a_val (v3 3) a_nil)))) dl_nil))))) ⟨rfl,by decide +kernel,rfl,by decide +kernel,fsub_of (List.forall_mem_cons.mpr ⟨rfl,(List.forall_mem_nil _)⟩),fhas_b rfl,by walk_at "ffr", rfl⟩))),?_⟩)
 rintro as k hl ⟨sh,g,rfl,hl,hs,hg,hk⟩
 refine at3 (r:=[.val (.lst (sh.map dS)),.val (dP g)]) rfl ?_
 have big:1000≤sizeLine:=by decide
 refine ⟨_,rfl,_,rfl,by rw [List.length_map]; omega,?_⟩
 refine compG_sh (h:=fun s=>dS (slS g s)) (fs:=[.val (dP g)]) (fun s hsm k2 hk2=>?_) (by rw [List.map_map] at hk; exact hk)
 have l:=hs s hsm
 have ln:=l.ln
 refine ⟨_,rfl,_,rfl,by rw [List.length_map]; omega,?_⟩
 refine compG_map (f:=dP) (h:=fun p=>dP (nP (sld g p))) (fs:=[.val (dP g)]) (fun r hr k3 hk3=>⟨_,rfl,_,rfl,rfl,r,g,rfl,(l.ps r hr).pt,((l.ps r hr).bp.mono (by decide)),hg.pt,(hg.bp.mono (by decide)),hk3⟩) ⟨flats_P (fun p=>nP (sld g p)) _,?_⟩
 refine ⟨_,rfl,rfl,?_⟩
 refine ⟨_,rfl,_,rfl,rfl,s.2.2,g,rfl,l.st.pt,(l.st.bp.mono (by decide)),hg.pt,(hg.bp.mono (by decide)),rfl,by show 3≤sizeLine; decide,?_⟩
 rw [map_dP (fun p=>nP (sld g p))]
 exact hk2
theorem sc_at:FnScope ["x", "y", "shared"] ["x", "y"] (defScope s_at):=⟨rfl,rfl,rfl,by decide +kernel,rfl,by decide +kernel,by decide +kernel⟩
def F_atK:FS:=fun as k=>∃ (dx dy:D) (x y u v:Int),as=[.val dx,.val dy]∧(itsK dx=some [.int x,.int y])∧(itsK dy=some [.int u,.int v])∧(Low x y)∧(Low u v)∧(intBits x≤4000)∧(intBits y≤4000)∧(intBits u≤4000)∧(intBits v≤4000)∧k (.val (dP (npt (x * v) (u * y) (y * v))))
theorem ok_atK (B:Blts mg)   (F:Fnd K mg "at" s_at ["x", "y"]) (c_greatest_divisor:Cal P w K mg base "greatest_divisor" ["one", "other"] 2 (Con K 2 F_greatest_divisor)) :
  Cal P w K mg base "at" ["x", "y"] 3 (Con K 2 F_atK):=by
 refine def3 (lv:=2) F sc_at rfl (fun f cdv A outer s H E hr=>⟨_,(s_cons (s_set (i:=2) sc_at.nd rfl (Or.inl rfl) (e_call c_greatest_divisor hr (by rfl) (a_val (e_ixA (v3 0) e_int (fun _ _=>rfl)) (a_val (e_ixA (v3 1) e_int (fun _ _=>rfl)) a_nil)))) (s_one (s_ret (e_tup (l_cons (e_mul (e_ixA (v3 0) e_int (fun _ _=>rfl)) (e_fdiv (e_ixA (v3 1) e_int (fun _ _=>rfl)) (v3 2))) (l_cons (e_mul (e_ixA (v3 1) e_int (fun _ _=>rfl)) (e_fdiv (e_ixA (v3 0) e_int (fun _ _=>rfl)) (v3 2))) (l_cons (e_mul (e_fdiv (e_ixA (v3 0) e_int (fun _ _=>rfl)) (v3 2)) (e_ixA (v3 1) e_int (fun _ _=>rfl))) l_nil))))))),?_⟩)
 rintro as k hl ⟨dx,dy,x,y,u,v,rfl,hx,hy,l1,l2,bx,bY,bu,bv,hk⟩
 refine at3 (r:=[.val dx,.val dy,.no]) rfl ?_
 have v0:v≠0:=Int.ne_of_gt l2.1
 have sp:=gcd_pos (t:=y) (b:=v) v0
 have sb:=gcd_bits (a:=y) (b:=v) v0 bv
 rw [← at_low l1 l2] at hk
 refine ⟨_,rfl,_,_,_,hx,rfl,rfl,_,rfl,_,_,_,hy,rfl,rfl,rfl,_,_,rfl,?_⟩
 dsimp only [fzR]
 generalize ((Int.gcd y v:Nat):Int)=s at *
 have b1:intBits (v.fdiv s)≤4000:=bits_of_abs (natAbs_fdiv_le _ _) bv
 have b2:intBits (y.fdiv s)≤4000:=bits_of_abs (natAbs_fdiv_le _ _) bY
 have hd:∀ z:Int,intBits s≤9000→CDivB z s:=fun z _=>⟨by omega,Nat.le_trans sb (by decide)⟩
 refine ⟨_,rfl,_,_,_,hx,rfl,rfl,_,rfl,_,_,_,hy,rfl,rfl,_,rfl,_,_,rfl,rfl,hd _ (Nat.le_trans sb (by decide)),_,_,rfl,rfl,⟨by walk_at "bits", by walk_at "bits"⟩,?_⟩
 refine ⟨_,rfl,_,_,_,hy,rfl,rfl,_,rfl,_,_,_,hx,rfl,rfl,_,rfl,_,_,rfl,rfl,hd _ (Nat.le_trans sb (by decide)),_,_,rfl,rfl,⟨by walk_at "bits", by walk_at "bits"⟩,?_⟩
 refine ⟨_,rfl,_,_,_,hx,rfl,rfl,_,rfl,_,_,rfl,rfl,hd _ (Nat.le_trans sb (by decide)),_,rfl,_,_,_,hy,rfl,rfl,_,_,rfl,rfl,⟨by walk_at "bits", by walk_at "bits"⟩,by show 3≤sizeLine; decide,?_⟩
 exact hk
theorem sc_cut_upright:FnScope ["sheet", "place"] ["sheet", "place"] (defScope s_cut_upright):=⟨rfl,rfl,rfl,by decide +kernel,rfl,by decide +kernel,by decide +kernel⟩
def F_uprightW:FS:=fun as k=>∃ (sh:List Piece) (x:F2),as=[.val (.lst (sh.map dS)),.val (dR x)]∧(Low x.1 x.2)∧(intBits x.1≤80)∧(intBits x.2≤80)∧(∀ s∈sh,∀ c∈s.1,BP 1310 c∧PtP c)∧(∀ s∈sh,s.1.length≤1000)∧(sh.length≤1000)∧k (.new (.tup [.lst ((cutS (ln (upL x)) (mtQ (upL x)) sh).map dS),.lst ((cutS (fun c => -ln (upL x) c) (mtQ (upL x)) sh).map dS)]))
theorem ok_uprightW (B:Blts mg)   (F:Fnd K mg "cut_upright" s_cut_upright ["sheet", "place"]) (c_cut_sheet:Cal P w K mg base "cut_sheet" ["sheet", "p", "q"] 6 (Con K 3 F_cut_sheetW)) (c_at:Cal P w K mg base "at" ["x", "y"] 3 (Con K 2 F_atK)) :
  Cal P w K mg base "cut_upright" ["sheet", "place"] 7 (Con K 2 F_uprightW):=by
 refine def3N (lv:=6) [true,false] F sc_cut_upright rfl (fun f cdv A outer s H E hr=>⟨_,(s_one (s_ret (d_e (d_look (d_call c_cut_sheet hr (by rfl) (a_val (v3 0) (a_val (e_call c_at hr (by rfl) (a_val (v3 1) (a_val (e_tup (l_cons e_int (l_cons e_int l_nil))) a_nil))) (a_val (e_call c_at hr (by rfl) (a_val (v3 1) (a_val (e_tup (l_cons e_int (l_cons e_int l_nil))) a_nil))) a_nil)))))))),?_⟩)
 rintro as k hl ⟨sh,x,rfl,l1,b1,b2,hb,hr1,hl,hk⟩
 refine ⟨⟨trivial,rfl,trivial⟩,at3 (r:=[.new (.lst (sh.map dS)),.val (dR x)]) rfl ?_⟩
 have N0:Low 0 1:=⟨by decide,by decide⟩
 have N1:Low 1 1:=⟨by decide,by decide⟩
 have z4:intBits 0≤4000:=by decide
 have o4:intBits 1≤4000:=by decide
 have x4:intBits x.1≤4000:=Nat.le_trans b1 (by decide)
 have y4:intBits x.2≤4000:=Nat.le_trans b2 (by decide)
 have g1:BP 300 (npt (x.1 * 1) (0 * x.2) (x.2 * 1)):=(at_bits (n:=10) b1 b2 (by decide) (by decide) l1 N0).mono (by decide)
 have g2:BP 300 (npt (x.1 * 1) (1 * x.2) (x.2 * 1)):=(at_bits (n:=10) b1 b2 (by decide) (by decide) l1 N1).mono (by decide)
 refine ⟨_,rfl,_,rfl,by show 2≤sizeLine; decide,rfl,_,_,x.1,x.2,0,1,rfl,rfl,rfl,l1,N0,x4,y4,z4,o4,?_⟩
 dsimp only [fzR]
 refine ⟨_,rfl,by show 2≤sizeLine; decide,rfl,_,_,x.1,x.2,1,1,rfl,rfl,rfl,l1,N1,x4,y4,o4,o4,?_⟩
 dsimp only [fzR]
 exact ⟨rfl,sh,_,_,rfl,g1,g2,hb,hr1,hl,_,rfl,hk⟩
theorem sc_cut_level:FnScope ["sheet", "height", "above", "below"] ["sheet", "height"] (defScope s_cut_level):=⟨rfl,rfl,rfl,by decide +kernel,rfl,by decide +kernel,by decide +kernel⟩
def F_levelW:FS:=fun as k=>∃ (sh:List Piece) (x:F2),as=[.val (.lst (sh.map dS)),.val (dR x)]∧(Low x.1 x.2)∧(intBits x.1≤80)∧(intBits x.2≤80)∧(∀ s∈sh,∀ c∈s.1,BP 1310 c∧PtP c)∧(∀ s∈sh,s.1.length≤1000)∧(sh.length≤1000)∧k (.new (.tup [.lst ((cutS (fun c => -ln (lvL x) c) (mtQ (lvL x)) sh).map dS),.lst ((cutS (ln (lvL x)) (mtQ (lvL x)) sh).map dS)]))
theorem ok_levelW (B:Blts mg)   (F:Fnd K mg "cut_level" s_cut_level ["sheet", "height"]) (c_cut_sheet:Cal P w K mg base "cut_sheet" ["sheet", "p", "q"] 6 (Con K 3 F_cut_sheetW)) (c_at:Cal P w K mg base "at" ["x", "y"] 3 (Con K 2 F_atK)) :
  Cal P w K mg base "cut_level" ["sheet", "height"] 7 (Con K 2 F_levelW):=by
 refine def3N (lv:=6) [true,false] F sc_cut_level rfl (fun f cdv A outer s H E hr=>⟨_,(s_cons (s_asg (d_e (d_look (d_call c_cut_sheet hr (by rfl) (a_val (v3 0) (a_val (e_call c_at hr (by rfl) (a_val (e_tup (l_cons e_int (l_cons e_int l_nil))) (a_val (v3 1) a_nil))) (a_val (e_call c_at hr (by rfl) (a_val (e_tup (l_cons e_int (l_cons e_int l_nil))) (a_val (v3 1) a_nil))) a_nil)))))) (g_tup (n:=2) rfl (gs_cons (g_name (i:=2) sc_cut_level.nd rfl (Or.inl rfl)) (gs_cons (g_name (i:=3) sc_cut_level.nd rfl (Or.inl rfl)) gs_nil)))) (s_one (s_ret (e_tup (l_cons (v3 3) (l_cons (v3 2) l_nil)))))),?_⟩)
 rintro as k hl ⟨sh,x,rfl,l1,b1,b2,hb,hr1,hl,hk⟩
 refine ⟨⟨trivial,rfl,trivial⟩,at3 (r:=[.new (.lst (sh.map dS)),.val (dR x),.no,.no]) rfl ?_⟩
 have N0:Low 0 1:=⟨by decide,by decide⟩
 have N1:Low 1 1:=⟨by decide,by decide⟩
 have z4:intBits 0≤4000:=by decide
 have o4:intBits 1≤4000:=by decide
 have x4:intBits x.1≤4000:=Nat.le_trans b1 (by decide)
 have y4:intBits x.2≤4000:=Nat.le_trans b2 (by decide)
 have g1:BP 300 (npt (0 * x.2) (x.1 * 1) (1 * x.2)):=(at_bits (m:=10) (by decide) (by decide) b1 b2 N0 l1).mono (by decide)
 have g2:BP 300 (npt (1 * x.2) (x.1 * 1) (1 * x.2)):=(at_bits (m:=10) (by decide) (by decide) b1 b2 N1 l1).mono (by decide)
 refine ⟨_,rfl,by show 2≤sizeLine; decide,_,rfl,rfl,_,_,0,1,x.1,x.2,rfl,rfl,rfl,N0,l1,z4,o4,x4,y4,?_⟩
 dsimp only [fzR]
 refine ⟨by show 2≤sizeLine; decide,_,rfl,rfl,_,_,1,1,x.1,x.2,rfl,rfl,rfl,N1,l1,o4,o4,x4,y4,?_⟩
 dsimp only [fzR]
 refine ⟨rfl,sh,_,_,rfl,g1,g2,hb,hr1,hl,_,rfl,?_⟩
 refine ⟨_,rfl,rfl,_,_,rfl,_,_,rfl,rfl,?_⟩
 exact ⟨_,rfl,_,rfl,by show 2≤sizeLine; decide,hk⟩
theorem sc_against:FnScope ["one"] ["one"] (defScope s_against):=⟨rfl,rfl,rfl,by decide +kernel,rfl,by decide +kernel,by decide +kernel⟩
def F_against:FS:=fun as k=>∃ (x y:Int),as=[.val (dR (x,y))]∧k (.val (dR (-x,y)))
theorem ok_against (B:Blts mg)   (F:Fnd K mg "against" s_against ["one"])  :
  Cal P w K mg base "against" ["one"] 2 (Con K 1 F_against):=by
 refine def3 (lv:=1) F sc_against rfl (fun f cdv A outer s H E hr=>⟨_,(s_one (s_ret (e_tup (l_cons (e_neg (e_ix (v3 0) e_int (fun _ _=>rfl))) (l_cons (e_ix (v3 0) e_int (fun _ _=>rfl)) l_nil))))),?_⟩)
 rintro as k hl ⟨x,y,rfl,hk⟩
 refine at3 (r:=[.val (dR (x,y))]) rfl ?_
 walk_at "w"
 exact hk
theorem sc_plus:FnScope ["one", "other", "shared", "top", "divisor"] ["one", "other"] (defScope s_plus):=⟨rfl,rfl,rfl,by decide +kernel,rfl,by decide +kernel,by decide +kernel⟩
def F_plus:FS:=fun as k=>∃ (x y u v:Int),as=[.val (dR (x,y)),.val (dR (u,v))]∧(Low x y)∧(Low u v)∧(intBits x≤4000)∧(intBits y≤4000)∧(intBits u≤4000)∧(intBits v≤4000)∧k (.val (dR (nrat (x * v + u * y) (y * v))))
theorem ok_plus (B:Blts mg)   (F:Fnd K mg "plus" s_plus ["one", "other"]) (c_greatest_divisor:Cal P w K mg base "greatest_divisor" ["one", "other"] 2 (Con K 2 F_greatest_divisor)) :
  Cal P w K mg base "plus" ["one", "other"] 3 (Con K 2 F_plus):=by
 refine def3 (lv:=2) F sc_plus rfl (fun f cdv A outer s H E hr=>⟨_,(s_cons (s_set (i:=2) sc_plus.nd rfl (Or.inl rfl) (e_call c_greatest_divisor hr (by rfl) (a_val (e_ix (v3 0) e_int (fun _ _=>rfl)) (a_val (e_ix (v3 1) e_int (fun _ _=>rfl)) a_nil)))) (s_cons (s_set (i:=3) sc_plus.nd rfl (Or.inl rfl) (e_add (e_mul (e_ix (v3 0) e_int (fun _ _=>rfl)) (e_fdiv (e_ix (v3 1) e_int (fun _ _=>rfl)) (v3 2))) (e_mul (e_ix (v3 1) e_int (fun _ _=>rfl)) (e_fdiv (e_ix (v3 0) e_int (fun _ _=>rfl)) (v3 2))))) (s_cons (s_set (i:=4) sc_plus.nd rfl (Or.inl rfl) (e_call c_greatest_divisor hr (by rfl) (a_val (v3 2) (a_val (v3 3) a_nil)))) (s_one (s_ret (e_tup (l_cons (e_fdiv (v3 3) (v3 4)) (l_cons (e_mul (e_fdiv (e_ix (v3 0) e_int (fun _ _=>rfl)) (v3 2)) (e_fdiv (e_ix (v3 1) e_int (fun _ _=>rfl)) (v3 4))) l_nil)))))))),?_⟩)
 rintro as k hl ⟨x,y,u,v,rfl,l1,l2,bx,bY,bu,bv,hk⟩
 refine at3 (r:=[.val (dR (x,y)),.val (dR (u,v)),.no,.no,.no]) rfl ?_
 have v0:v≠0:=Int.ne_of_gt l2.1
 have sp:=gcd_pos (t:=y) (b:=v) v0
 have sb:=gcd_bits (a:=y) (b:=v) v0 bv
 have pl:=fun top d=>plus_low l1 l2 (s:=((Int.gcd y v:Nat):Int)) (top:=top) (d:=d) rfl
 walk_at "w"
 refine ⟨_,_,rfl,?_⟩
 dsimp only [fzR]
 generalize ((Int.gcd y v:Nat):Int)=s at *
 have b1:intBits (v.fdiv s)≤4000:=bits_of_abs (natAbs_fdiv_le _ _) bv
 have b2:intBits (y.fdiv s)≤4000:=bits_of_abs (natAbs_fdiv_le _ _) bY
 have tb:intBits (x * v.fdiv s + u * y.fdiv s)≤8001:=intBits_add_le (intBits_mul_le bx b1) (intBits_mul_le bu b2)
 have pl:=fun d=>pl _ d rfl
 walk_at "w"
 refine ⟨_,_,rfl,?_⟩
 dsimp only [fzR]
 generalize x * v.fdiv s + u * y.fdiv s=top at *
 have pl:=pl _ rfl
 have dp:=gcd_pos2 (a:=s) (b:=top) (.inl (Int.ne_of_gt sp))
 have db:intBits ((Int.gcd s top:Nat):Int)≤4000:=by
  rw [Int.gcd_comm]
  exact gcd_bits (Int.ne_of_gt sp) sb
 generalize ((Int.gcd s top:Nat):Int)=d at *
 have b3:intBits (v.fdiv d)≤4000:=bits_of_abs (natAbs_fdiv_le _ _) bv
 rw [← pl] at hk
 walk_at "w"
 exact hk
theorem sc_minus:FnScope ["one", "other"] ["one", "other"] (defScope s_minus):=⟨rfl,rfl,rfl,by decide +kernel,rfl,by decide +kernel,by decide +kernel⟩
def F_minus:FS:=fun as k=>∃ (x y u v:Int),as=[.val (dR (x,y)),.val (dR (u,v))]∧(Low x y)∧(Low u v)∧(intBits x≤4000)∧(intBits y≤4000)∧(intBits u≤4000)∧(intBits v≤4000)∧k (.val (dR (nrat (x * v - u * y) (y * v))))
theorem ok_minus (B:Blts mg)   (F:Fnd K mg "minus" s_minus ["one", "other"]) (c_plus:Cal P w K mg base "plus" ["one", "other"] 3 (Con K 2 F_plus)) (c_against:Cal P w K mg base "against" ["one"] 2 (Con K 1 F_against)) :
  Cal P w K mg base "minus" ["one", "other"] 4 (Con K 2 F_minus):=by
 refine def3 (lv:=3) F sc_minus rfl (fun f cdv A outer s H E hr=>⟨_,(s_one (s_ret (e_call c_plus hr (by rfl) (a_val (v3 0) (a_val (e_call c_against hr (by rfl) (a_val (v3 1) a_nil)) a_nil))))),?_⟩)
 rintro as k hl ⟨x,y,u,v,rfl,l1,l2,bx,bY,bu,bv,hk⟩
 refine at3 (r:=[.val (dR (x,y)),.val (dR (u,v))]) rfl ?_
 refine ⟨_,rfl,_,rfl,rfl,u,v,rfl,?_⟩
 refine ⟨rfl,x,y,-u,v,rfl,l1,⟨l2.1,by rw [Int.neg_gcd]; exact l2.2⟩,bx,bY,intBits_neg_le bu,bv,?_⟩
 rw [Int.neg_mul,← Int.sub_eq_add_neg]
 exact hk
theorem sc_unsigned:FnScope ["one"] ["one"] (defScope s_unsigned):=⟨rfl,rfl,rfl,by decide +kernel,rfl,by decide +kernel,by decide +kernel⟩
def F_unsigned:FS:=fun as k=>∃ (x y:Int),as=[.val (dR (x,y))]∧k (.val (dR (if x < 0 then -x else x,y)))
theorem ok_unsigned (B:Blts mg)   (F:Fnd K mg "unsigned" s_unsigned ["one"])  :
  Cal P w K mg base "unsigned" ["one"] 2 (Con K 1 F_unsigned):=by
 refine def3 (lv:=1) F sc_unsigned rfl (fun f cdv A outer s H E hr=>⟨_,(s_one (s_ret (e_tup (l_cons (e_abs (e_ix (v3 0) e_int (fun _ _=>rfl)) (by rfl) B.abs_) (l_cons (e_ix (v3 0) e_int (fun _ _=>rfl)) l_nil))))),?_⟩)
 rintro as k hl ⟨x,y,rfl,hk⟩
 refine at3 (r:=[.val (dR (x,y))]) rfl ?_
 walk_at "w"
 exact hk
theorem sc_times:FnScope ["one", "other", "first", "second"] ["one", "other"] (defScope s_times):=⟨rfl,rfl,rfl,by decide +kernel,rfl,by decide +kernel,by decide +kernel⟩
def F_times:FS:=fun as k=>∃ (x y u v:Int),as=[.val (dR (x,y)),.val (dR (u,v))]∧(Low x y)∧(Low u v)∧(intBits x≤4000)∧(intBits y≤4000)∧(intBits u≤4000)∧(intBits v≤4000)∧k (.val (dR (nrat (x * u) (y * v))))
theorem ok_times (B:Blts mg)   (F:Fnd K mg "times" s_times ["one", "other"]) (c_greatest_divisor:Cal P w K mg base "greatest_divisor" ["one", "other"] 2 (Con K 2 F_greatest_divisor)) :
  Cal P w K mg base "times" ["one", "other"] 3 (Con K 2 F_times):=by
 refine def3 (lv:=2) F sc_times rfl (fun f cdv A outer s H E hr=>⟨_,(s_cons (s_set (i:=2) sc_times.nd rfl (Or.inl rfl) (e_call c_greatest_divisor hr (by rfl) (a_val (e_ix (v3 0) e_int (fun _ _=>rfl)) (a_val (e_ix (v3 1) e_int (fun _ _=>rfl)) a_nil)))) (s_cons (s_set (i:=3) sc_times.nd rfl (Or.inl rfl) (e_call c_greatest_divisor hr (by rfl) (a_val (e_ix (v3 1) e_int (fun _ _=>rfl)) (a_val (e_ix (v3 0) e_int (fun _ _=>rfl)) a_nil)))) (s_one (s_ret (e_tup (l_cons (e_mul (e_fdiv (e_ix (v3 0) e_int (fun _ _=>rfl)) (v3 2)) (e_fdiv (e_ix (v3 1) e_int (fun _ _=>rfl)) (v3 3))) (l_cons (e_mul (e_fdiv (e_ix (v3 0) e_int (fun _ _=>rfl)) (v3 3)) (e_fdiv (e_ix (v3 1) e_int (fun _ _=>rfl)) (v3 2))) l_nil))))))),?_⟩)
 rintro as k hl ⟨x,y,u,v,rfl,l1,l2,bx,bY,bu,bv,hk⟩
 refine at3 (r:=[.val (dR (x,y)),.val (dR (u,v)),.no,.no]) rfl ?_
 have v0:v≠0:=Int.ne_of_gt l2.1
 have y0:y≠0:=Int.ne_of_gt l1.1
 have fp:=gcd_pos (t:=x) (b:=v) v0
 have fb:=gcd_bits (a:=x) (b:=v) v0 bv
 have hp:=gcd_pos (t:=u) (b:=y) y0
 have hb:=gcd_bits (a:=u) (b:=y) y0 bY
 rw [← times_low l1 l2] at hk
 walk_at "w"
 refine ⟨_,_,rfl,?_⟩
 walk_at "w"
 refine ⟨_,_,rfl,?_⟩
 dsimp only [fzR]
 generalize ((Int.gcd x v:Nat):Int)=f at *
 generalize ((Int.gcd u y:Nat):Int)=g at *
 have b1:intBits (x.fdiv f)≤4000:=bits_of_abs (natAbs_fdiv_le _ _) bx
 have b2:intBits (u.fdiv g)≤4000:=bits_of_abs (natAbs_fdiv_le _ _) bu
 have b3:intBits (y.fdiv g)≤4000:=bits_of_abs (natAbs_fdiv_le _ _) bY
 have b4:intBits (v.fdiv f)≤4000:=bits_of_abs (natAbs_fdiv_le _ _) bv
 walk_at "w"
 exact hk
theorem sc_split:FnScope ["slope", "hand", "wide", "sheet", "part", "rest", "steep", "is_low", "part_is_left", "height", "left", "right", "part_sheet", "others", "below", "above", "rest_sheet", "box", "down", "part_step", "aside", "rest_step", "box_step", "told_box"] ["slope", "hand", "wide", "sheet", "part"] (defScope s_split):=⟨rfl,rfl,rfl,by decide +kernel,rfl,by decide +kernel,by decide +kernel⟩
def F_splitW:FS:=fun as k=>∃ (s w pt:F2) (hi:Bool) (sh:List Piece),as=[.val (dR s),.val (.str (if hi=true then "high" else "low")),.val (dR w),.val (.lst (sh.map dS)),.val (dR pt)]∧(SpOk s w pt)∧(∀ x∈sh,GL 600 6 x)∧(sh.length≤20)∧k (.new (.tup [.lst ((spA s w pt hi sh).map dS),.lst ((spB s w pt hi sh).map dS),.tup [dR (spR w pt),dR (hgt s pt),.lst ((spC s w pt hi sh).map dS)]]))
theorem ok_splitW (B:Blts mg) (G_NOTHING:GTup K mg "NOTHING" [0,1])  (F:Fnd K mg "split" s_split ["slope", "hand", "wide", "sheet", "part"]) (c_minus:Cal P w K mg base "minus" ["one", "other"] 4 (Con K 2 F_minus)) (c_unsigned:Cal P w K mg base "unsigned" ["one"] 2 (Con K 1 F_unsigned)) (c_times:Cal P w K mg base "times" ["one", "other"] 3 (Con K 2 F_times)) (c_cut_upright:Cal P w K mg base "cut_upright" ["sheet", "place"] 7 (Con K 2 F_uprightW)) (c_cut_level:Cal P w K mg base "cut_level" ["sheet", "height"] 7 (Con K 2 F_levelW)) (c_against:Cal P w K mg base "against" ["one"] 2 (Con K 1 F_against)) (c_at:Cal P w K mg base "at" ["x", "y"] 3 (Con K 2 F_atK)) (c_moved:Cal P w K mg base "moved" ["sheet", "step"] 4 (Con K 2 F_movedW)) :
  Cal P w K mg base "split" ["slope", "hand", "wide", "sheet", "part"] 8 (Con K 5 F_splitW):=by
 refine def3N (lv:=7) [false,false,false,true,false] F sc_split rfl (fun f cdv A outer s H E hr=>⟨_,(s_cons (s_set (i:=5) sc_split.nd rfl (Or.inl rfl) (e_call c_minus hr (by rfl) (a_val (v3 2) (a_val (v3 4) a_nil)))) (s_cons (s_set (i:=6) sc_split.nd rfl (Or.inl rfl) (e_call c_unsigned hr (by rfl) (a_val (v3 0) a_nil))) (s_cons (s_set (i:=7) sc_split.nd rfl (Or.inl rfl) (e_eq (hr.units) (v3 1) e_str (nomark _))) (s_cons (s_set (i:=8) sc_split.nd rfl (Or.inl rfl) (e_eq (hr.units) (v3 7) (e_cmp (f:=fun i j=>decide (j < i)) op_gt (e_ix (v3 0) e_int (fun _ _=>rfl)) e_int (nomark _)) (nomark _))) (s_cons (s_set (i:=9) sc_split.nd rfl (Or.inl rfl) (e_call c_times hr (by rfl) (a_val (v3 6) (a_val (e_ifE (t_val (v3 7)) (v3 4) (v3 5)) a_nil)))) (s_cons (s_asg (d_e (d_look (d_call c_cut_upright hr (by rfl) (a_val (v3 3) (a_val (e_ifE (t_val (v3 8)) (v3 4) (v3 5)) a_nil))))) (g_tup (n:=2) rfl (gs_cons (g_name (i:=10) sc_split.nd rfl (Or.inl rfl)) (gs_cons (g_name (i:=11) sc_split.nd rfl (Or.inl rfl)) gs_nil)))) (s_cons (s_asg (e_ifE (t_val (v3 8)) (e_tup (l_cons (v3 10) (l_cons (v3 11) l_nil))) (e_tup (l_cons (v3 11) (l_cons (v3 10) l_nil)))) (g_tup (n:=2) rfl (gs_cons (g_name (i:=12) sc_split.nd rfl (Or.inl rfl)) (gs_cons (g_name (i:=13) sc_split.nd rfl (Or.inl rfl)) gs_nil)))) (s_cons (s_asg (e_call c_cut_level hr (by rfl) (a_val (v3 13) (a_val (v3 9) a_nil))) (g_tup (n:=2) rfl (gs_cons (g_name (i:=14) sc_split.nd rfl (Or.inl rfl)) (gs_cons (g_name (i:=15) sc_split.nd rfl (Or.inl rfl)) gs_nil)))) (s_cons (s_asg (e_ifE (t_val (v3 7)) (e_tup (l_cons (v3 15) (l_cons (v3 14) l_nil))) (e_tup (l_cons (v3 14) (l_cons (v3 15) l_nil)))) (g_tup (n:=2) rfl (gs_cons (g_name (i:=16) sc_split.nd rfl (Or.inl rfl)) (gs_cons (g_name (i:=17) sc_split.nd rfl (Or.inl rfl)) gs_nil)))) (s_cons (s_set (i:=18) sc_split.nd rfl (Or.inl rfl) (e_call c_against hr (by rfl) (a_val (v3 9) a_nil))) (s_cons (s_set (i:=19) sc_split.nd rfl (Or.inl rfl) (e_call c_at hr (by rfl) (a_val (e_ifE (t_val (v3 8)) (e_glb G_NOTHING (by rfl)) (e_call c_against hr (by rfl) (a_val (v3 5) a_nil))) (a_val (e_ifE (t_val (v3 7)) (e_glb G_NOTHING (by rfl)) (v3 18)) a_nil)))) (s_cons (s_set (i:=20) sc_split.nd rfl (Or.inl rfl) (e_ifE (t_val (v3 8)) (e_call c_against hr (by rfl) (a_val (v3 4) a_nil)) (e_glb G_NOTHING (by rfl)))) (s_cons (s_set (i:=21) sc_split.nd rfl (Or.inl rfl) (e_call c_at hr (by rfl) (a_val (v3 20) (a_val (e_ifE (t_val (v3 7)) (v3 18) (e_glb G_NOTHING (by rfl))) a_nil)))) (s_cons (s_set (i:=22) sc_split.nd rfl (Or.inl rfl) (e_call c_at hr (by rfl) (a_val (v3 20) (a_val (e_ifE (t_val (v3 7)) (e_glb G_NOTHING (by rfl)) (v3 18)) a_nil)))) (s_cons (s_set (i:=23) sc_split.nd rfl (Or.inl rfl) (e_tup (l_cons (v3 5) (l_cons (e_call c_times hr (by rfl) (a_val (v3 6) (a_val (v3 4) a_nil))) (l_cons (e_call c_moved hr (by rfl) (a_val (v3 17) (a_val (v3 22) a_nil))) l_nil))))) (s_one (s_ret (e_tup (l_cons (e_call c_moved hr (by rfl) (a_val (v3 12) (a_val (v3 19) a_nil))) (l_cons (e_call c_moved hr (by rfl) (a_val (v3 16) (a_val (v3 21) a_nil))) (l_cons (v3 23) l_nil))))))))))))))))))))),?_⟩)
 rintro as k hl ⟨s,w,pt,hi,sh,rfl,hx,hs,hl,hk⟩
 refine ⟨⟨rfl,rfl,rfl,trivial,rfl,trivial⟩,at3 (r:=[.val (dR s),.val (.str (if hi=true then "high" else "low")),.val (dR w),.new (.lst (sh.map dS)),.val (dR pt),.no,.no,.no,.no,.no,.no,.no,.no,.no,.no,.no,.no,.no,.no,.no,.no,.no,.no,.no]) rfl ?_⟩
 have big:1000≤sizeLine:=by decide
 obtain ⟨r1,r2,r3,r4⟩:=hx.r
 obtain ⟨h1,h2,h3,h4⟩:=hx.h hi
 obtain ⟨x1,x2,x3,x4⟩:=hx.x hi
 have N0:itsK (.ktup ([0,1].map D.int))=some [.int 0,.int 1]:=rfl
 have lN:Low 0 1:=⟨by decide,by decide⟩
 have z4:intBits 0≤4000:=by decide
 have o4:intBits 1≤4000:=by decide
 have m4:∀ {z:Int} {n:Nat},intBits z≤n→n≤4000→intBits z≤4000:=fun h l=>Nat.le_trans h l
 have ng:∀ {x y:Int},Low x y→Low (-x) y:=fun l=>⟨l.1,by rw [Int.neg_gcd]; exact l.2⟩
 have g1:=fun b=>cL_gl hx hi b hs
 have g2:=fun b=>cV_gl hx hi b (g1 (!spL s hi))
 have n1:∀ b,(cL (spX s w pt hi) b sh).length≤20:=fun b=>Nat.le_trans (cL_len _ _ _) hl
 have n2:∀ b,(cV (spH s w pt hi) b (cL (spX s w pt hi) (!spL s hi) sh)).length≤20:=fun b=>Nat.le_trans (cV_len _ _ _) (n1 _)
 have ca:intBits (if s.1 < 0 then -s.1 else s.1)≤21:=by
  split
  ·exact intBits_neg_le hx.c1
  ·exact hx.c1
 have la:Low (if s.1 < 0 then -s.1 else s.1) s.2:=by
  split
  ·exact ng hx.ls
  ·exact hx.ls
 refine mid4 (fun ρ=>ρ=[.val (dR s),.val (.str (if hi=true then "high" else "low")),.val (dR w),.new (.lst (sh.map dS)),.val (dR pt),.val (dR (spR w pt)),.no,.no,.no,.no,.no,.no,.no,.no,.no,.no,.no,.no,.no,.no,.no,.no,.no,.no]) ?_ (fun N kk=>?_)
 rotate_left
 ·exact ⟨_,rfl,_,rfl,rfl,w.1,w.2,pt.1,pt.2,rfl,hx.lw,hx.lp,m4 hx.c3 (by decide),m4 hx.c4 (by decide),m4 hx.c5 (by decide),m4 hx.c6 (by decide),kk _ rfl⟩
 rintro ρ rfl
 refine mid4 (fun ρ=>ρ=[.val (dR s),.val (.str (if hi=true then "high" else "low")),.val (dR w),.new (.lst (sh.map dS)),.val (dR pt),.val (dR (spR w pt)),.val (dR (if s.1 < 0 then -s.1 else s.1,s.2)),.no,.no,.no,.no,.no,.no,.no,.no,.no,.no,.no,.no,.no,.no,.no,.no,.no]) ?_ (fun N kk=>?_)
 rotate_left
 ·exact ⟨_,rfl,rfl,s.1,s.2,rfl,kk _ rfl⟩
 rintro ρ rfl
 refine mid4 (fun ρ=>ρ=[.val (dR s),.val (.str (if hi=true then "high" else "low")),.val (dR w),.new (.lst (sh.map dS)),.val (dR pt),.val (dR (spR w pt)),.val (dR (if s.1 < 0 then -s.1 else s.1,s.2)),.val (.bl (!hi)),.no,.no,.no,.no,.no,.no,.no,.no,.no,.no,.no,.no,.no,.no,.no,.no]) ?_ (fun N kk=>?_)
 rotate_left
 ·refine ⟨_,rfl,.S,rfl,rfl,by decide,kk _ ?_⟩
  cases hi with
  | true=>rw [show eqD (D.str (if true=true then Str.ofString "high" else Str.ofString "low")) (D.str (Str.ofString "low"))=false from eqS_FL]; rfl
  | false=>rw [show eqD (D.str (if false=true then Str.ofString "high" else Str.ofString "low")) (D.str (Str.ofString "low"))=true from eqS_TL]; rfl
 rintro ρ rfl
 refine mid4 (fun ρ=>ρ=[.val (dR s),.val (.str (if hi=true then "high" else "low")),.val (dR w),.new (.lst (sh.map dS)),.val (dR pt),.val (dR (spR w pt)),.val (dR (if s.1 < 0 then -s.1 else s.1,s.2)),.val (.bl (!hi)),.val (.bl (spL s hi)),.no,.no,.no,.no,.no,.no,.no,.no,.no,.no,.no,.no,.no,.no,.no]) ?_ (fun N kk=>?_)
 rotate_left
 ·refine ⟨_,rfl,_,rfl,_,_,_,.inl rfl,rfl,rfl,_,_,rfl,rfl,.B,rfl,rfl,by decide,kk _ ?_⟩
  rw [eqD_bl]
  rfl
 rintro ρ rfl
 refine mid4 (fun ρ=>ρ=[.val (dR s),.val (.str (if hi=true then "high" else "low")),.val (dR w),.new (.lst (sh.map dS)),.val (dR pt),.val (dR (spR w pt)),.val (dR (if s.1 < 0 then -s.1 else s.1,s.2)),.val (.bl (!hi)),.val (.bl (spL s hi)),.val (dR (spH s w pt hi)),.no,.no,.no,.no,.no,.no,.no,.no,.no,.no,.no,.no,.no,.no]) ?_ (fun N kk=>?_)
 rotate_left
 ·refine ⟨_,rfl,_,rfl,_,rfl,?_⟩
  unfold spH at kk
  cases hi with
  | true =>
   exact iteF ⟨_,rfl,rfl,_,_,_,_,rfl,la,r1,m4 ca (by decide),m4 hx.c2 (by decide),m4 r3 (by decide),m4 r4 (by decide),kk _ rfl⟩
  | false =>
   exact iteT ⟨_,rfl,rfl,_,_,_,_,rfl,la,hx.lp,m4 ca (by decide),m4 hx.c2 (by decide),m4 hx.c5 (by decide),m4 hx.c6 (by decide),kk _ rfl⟩
 rintro ρ rfl
 refine mid4 (fun ρ=>ρ=[.val (dR s),.val (.str (if hi=true then "high" else "low")),.val (dR w),.new (.lst (sh.map dS)),.val (dR pt),.val (dR (spR w pt)),.val (dR (if s.1 < 0 then -s.1 else s.1,s.2)),.val (.bl (!hi)),.val (.bl (spL s hi)),.val (dR (spH s w pt hi)),.val (.lst ((cL (spX s w pt hi) true sh).map dS)),.val (.lst ((cL (spX s w pt hi) false sh).map dS)),.no,.no,.no,.no,.no,.no,.no,.no,.no,.no,.no,.no]) ?_ (fun N kk=>?_)
 rotate_left
 ·have hb0:∀ t∈sh,∀ c∈t.1,BP 1310 c∧PtP c:=fun t ht c hc=>⟨((hs t ht).ps c hc).bp.mono (by decide),((hs t ht).ps c hc).pt⟩
  have hr0:∀ t∈sh,t.1.length≤1000:=fun t ht=>Nat.le_trans (hs t ht).ln (by decide)
  refine ⟨_,rfl,_,rfl,_,rfl,ifB (fun c=>?_) (fun c=>?_)⟩
  ·have ex:spX s w pt hi=pt:=by unfold spX; rw [c]; rfl
   refine ⟨_,rfl,rfl,sh,pt,rfl,hx.lp,Nat.le_trans hx.c5 (by decide),Nat.le_trans hx.c6 (by decide),hb0,hr0,Nat.le_trans hl (by decide),_,rfl,?_⟩
   exact ⟨_,rfl,rfl,_,_,rfl,_,_,rfl,rfl,kk _ (by rw [ex]; rfl)⟩
  ·have ex:spX s w pt hi=spR w pt:=by unfold spX; rw [c]; rfl
   refine ⟨_,rfl,rfl,sh,spR w pt,rfl,r1,Nat.le_trans r3 (by decide),Nat.le_trans r4 (by decide),hb0,hr0,Nat.le_trans hl (by decide),_,rfl,?_⟩
   exact ⟨_,rfl,rfl,_,_,rfl,_,_,rfl,rfl,kk _ (by rw [ex]; rfl)⟩
 rintro ρ rfl
 refine mid4 (fun ρ=>ρ=[.val (dR s),.val (.str (if hi=true then "high" else "low")),.val (dR w),.new (.lst (sh.map dS)),.val (dR pt),.val (dR (spR w pt)),.val (dR (if s.1 < 0 then -s.1 else s.1,s.2)),.val (.bl (!hi)),.val (.bl (spL s hi)),.val (dR (spH s w pt hi)),.val (.lst ((cL (spX s w pt hi) true sh).map dS)),.val (.lst ((cL (spX s w pt hi) false sh).map dS)),.val (.lst ((cL (spX s w pt hi) (spL s hi) sh).map dS)),.val (.lst ((cL (spX s w pt hi) (!spL s hi) sh).map dS)),.no,.no,.no,.no,.no,.no,.no,.no,.no,.no]) ?_ (fun N kk=>?_)
 rotate_left
 ·refine ⟨_,rfl,_,rfl,ifB (fun c=>?_) (fun c=>?_)⟩
  ·exact ⟨_,rfl,_,rfl,by show 2≤sizeLine; decide,_,rfl,rfl,_,_,rfl,_,_,rfl,rfl,kk _ (by rw [c]; rfl)⟩
  ·exact ⟨_,rfl,_,rfl,by show 2≤sizeLine; decide,_,rfl,rfl,_,_,rfl,_,_,rfl,rfl,kk _ (by rw [c]; rfl)⟩
 rintro ρ rfl
 refine mid4 (fun ρ=>ρ=[.val (dR s),.val (.str (if hi=true then "high" else "low")),.val (dR w),.new (.lst (sh.map dS)),.val (dR pt),.val (dR (spR w pt)),.val (dR (if s.1 < 0 then -s.1 else s.1,s.2)),.val (.bl (!hi)),.val (.bl (spL s hi)),.val (dR (spH s w pt hi)),.val (.lst ((cL (spX s w pt hi) true sh).map dS)),.val (.lst ((cL (spX s w pt hi) false sh).map dS)),.val (.lst ((cL (spX s w pt hi) (spL s hi) sh).map dS)),.val (.lst ((cL (spX s w pt hi) (!spL s hi) sh).map dS)),.val (.lst ((cV (spH s w pt hi) false (cL (spX s w pt hi) (!spL s hi) sh)).map dS)),.val (.lst ((cV (spH s w pt hi) true (cL (spX s w pt hi) (!spL s hi) sh)).map dS)),.no,.no,.no,.no,.no,.no,.no,.no]) ?_ (fun N kk=>?_)
 rotate_left
 ·refine ⟨_,rfl,_,rfl,rfl,cL (spX s w pt hi) (!spL s hi) sh,spH s w pt hi,rfl,h1,Nat.le_trans h3 (by decide),Nat.le_trans h4 (by decide),fun t ht c hc=>⟨((g1 _ t ht).ps c hc).bp,((g1 _ t ht).ps c hc).pt⟩,fun t ht=>Nat.le_trans (g1 _ t ht).ln (by decide),Nat.le_trans (n1 _) (by decide),?_⟩
  exact ⟨_,rfl,rfl,_,_,rfl,_,_,rfl,rfl,kk _ rfl⟩
 rintro ρ rfl
 refine mid4 (fun ρ=>ρ=[.val (dR s),.val (.str (if hi=true then "high" else "low")),.val (dR w),.new (.lst (sh.map dS)),.val (dR pt),.val (dR (spR w pt)),.val (dR (if s.1 < 0 then -s.1 else s.1,s.2)),.val (.bl (!hi)),.val (.bl (spL s hi)),.val (dR (spH s w pt hi)),.val (.lst ((cL (spX s w pt hi) true sh).map dS)),.val (.lst ((cL (spX s w pt hi) false sh).map dS)),.val (.lst ((cL (spX s w pt hi) (spL s hi) sh).map dS)),.val (.lst ((cL (spX s w pt hi) (!spL s hi) sh).map dS)),.val (.lst ((cV (spH s w pt hi) false (cL (spX s w pt hi) (!spL s hi) sh)).map dS)),.val (.lst ((cV (spH s w pt hi) true (cL (spX s w pt hi) (!spL s hi) sh)).map dS)),.val (.lst ((cV (spH s w pt hi) (!hi) (cL (spX s w pt hi) (!spL s hi) sh)).map dS)),.val (.lst ((cV (spH s w pt hi) hi (cL (spX s w pt hi) (!spL s hi) sh)).map dS)),.no,.no,.no,.no,.no,.no]) ?_ (fun N kk=>?_)
 rotate_left
 ·refine ⟨_,rfl,_,rfl,ifB (fun c=>?_) (fun c=>?_)⟩
  ·have hF:hi=false:=by cases hi <;> first | rfl | cases c
   exact ⟨_,rfl,_,rfl,by show 2≤sizeLine; decide,_,rfl,rfl,_,_,rfl,_,_,rfl,rfl,kk _ (by subst hF; rfl)⟩
  ·have hT:hi=true:=by cases hi <;> first | rfl | cases c
   exact ⟨_,rfl,_,rfl,by show 2≤sizeLine; decide,_,rfl,rfl,_,_,rfl,_,_,rfl,rfl,kk _ (by subst hT; rfl)⟩
 rintro ρ rfl
 refine mid4 (fun ρ=>ρ=[.val (dR s),.val (.str (if hi=true then "high" else "low")),.val (dR w),.new (.lst (sh.map dS)),.val (dR pt),.val (dR (spR w pt)),.val (dR (if s.1 < 0 then -s.1 else s.1,s.2)),.val (.bl (!hi)),.val (.bl (spL s hi)),.val (dR (spH s w pt hi)),.val (.lst ((cL (spX s w pt hi) true sh).map dS)),.val (.lst ((cL (spX s w pt hi) false sh).map dS)),.val (.lst ((cL (spX s w pt hi) (spL s hi) sh).map dS)),.val (.lst ((cL (spX s w pt hi) (!spL s hi) sh).map dS)),.val (.lst ((cV (spH s w pt hi) false (cL (spX s w pt hi) (!spL s hi) sh)).map dS)),.val (.lst ((cV (spH s w pt hi) true (cL (spX s w pt hi) (!spL s hi) sh)).map dS)),.val (.lst ((cV (spH s w pt hi) (!hi) (cL (spX s w pt hi) (!spL s hi) sh)).map dS)),.val (.lst ((cV (spH s w pt hi) hi (cL (spX s w pt hi) (!spL s hi) sh)).map dS)),.val (dR (-(spH s w pt hi).1,(spH s w pt hi).2)),.no,.no,.no,.no,.no]) ?_ (fun N kk=>?_)
 rotate_left
 ·exact ⟨_,rfl,rfl,(spH s w pt hi).1,(spH s w pt hi).2,rfl,kk _ rfl⟩
 rintro ρ rfl
 refine mid4 (fun ρ=>ρ=[.val (dR s),.val (.str (if hi=true then "high" else "low")),.val (dR w),.new (.lst (sh.map dS)),.val (dR pt),.val (dR (spR w pt)),.val (dR (if s.1 < 0 then -s.1 else s.1,s.2)),.val (.bl (!hi)),.val (.bl (spL s hi)),.val (dR (spH s w pt hi)),.val (.lst ((cL (spX s w pt hi) true sh).map dS)),.val (.lst ((cL (spX s w pt hi) false sh).map dS)),.val (.lst ((cL (spX s w pt hi) (spL s hi) sh).map dS)),.val (.lst ((cL (spX s w pt hi) (!spL s hi) sh).map dS)),.val (.lst ((cV (spH s w pt hi) false (cL (spX s w pt hi) (!spL s hi) sh)).map dS)),.val (.lst ((cV (spH s w pt hi) true (cL (spX s w pt hi) (!spL s hi) sh)).map dS)),.val (.lst ((cV (spH s w pt hi) (!hi) (cL (spX s w pt hi) (!spL s hi) sh)).map dS)),.val (.lst ((cV (spH s w pt hi) hi (cL (spX s w pt hi) (!spL s hi) sh)).map dS)),.val (dR (-(spH s w pt hi).1,(spH s w pt hi).2)),.val (dP (stA s w pt hi)),.no,.no,.no,.no]) ?_ (fun N kk=>?_)
 rotate_left
 ·refine ⟨_,rfl,_,rfl,ifB (fun c=>?_) (fun c=>?_)⟩
  ·refine ⟨_,rfl,_,rfl,ifB (fun e=>?_) (fun e=>?_)⟩
   ·have hF:hi=false:=by cases hi <;> first | rfl | cases e
    exact ⟨rfl,_,_,0,1,0,1,rfl,N0,N0,lN,lN,z4,o4,z4,o4,kk _ (by unfold stA; rw [c,hF]; rfl)⟩
   ·have hT:hi=true:=by cases hi <;> first | rfl | cases e
    exact ⟨_,rfl,rfl,_,_,0,1,-(spH s w pt hi).1,(spH s w pt hi).2,rfl,N0,rfl,lN,ng h1,z4,o4,m4 (intBits_neg_le h3) (by decide),m4 h4 (by decide),kk _ (by rw [show stA s w pt hi=_ from by unfold stA; rw [c,if_pos hT]]; rfl)⟩
  ·refine ⟨_,rfl,rfl,(spR w pt).1,(spR w pt).2,rfl,?_⟩
   dsimp only [fzR]
   refine ⟨_,rfl,_,rfl,ifB (fun e=>?_) (fun e=>?_)⟩
   ·have hF:hi=false:=by cases hi <;> first | rfl | cases e
    exact ⟨rfl,_,_,-(spR w pt).1,(spR w pt).2,0,1,rfl,rfl,N0,ng r1,lN,m4 (intBits_neg_le r3) (by decide),m4 r4 (by decide),z4,o4,kk _ (by unfold stA; rw [c,hF]; rfl)⟩
   ·have hT:hi=true:=by cases hi <;> first | rfl | cases e
    exact ⟨_,rfl,rfl,_,_,-(spR w pt).1,(spR w pt).2,-(spH s w pt hi).1,(spH s w pt hi).2,rfl,rfl,rfl,ng r1,ng h1,m4 (intBits_neg_le r3) (by decide),m4 r4 (by decide),m4 (intBits_neg_le h3) (by decide),m4 h4 (by decide),kk _ (by rw [show stA s w pt hi=_ from by unfold stA; rw [c,if_pos hT]]; rfl)⟩
 rintro ρ rfl
 refine mid4 (fun ρ=>ρ=[.val (dR s),.val (.str (if hi=true then "high" else "low")),.val (dR w),.new (.lst (sh.map dS)),.val (dR pt),.val (dR (spR w pt)),.val (dR (if s.1 < 0 then -s.1 else s.1,s.2)),.val (.bl (!hi)),.val (.bl (spL s hi)),.val (dR (spH s w pt hi)),.val (.lst ((cL (spX s w pt hi) true sh).map dS)),.val (.lst ((cL (spX s w pt hi) false sh).map dS)),.val (.lst ((cL (spX s w pt hi) (spL s hi) sh).map dS)),.val (.lst ((cL (spX s w pt hi) (!spL s hi) sh).map dS)),.val (.lst ((cV (spH s w pt hi) false (cL (spX s w pt hi) (!spL s hi) sh)).map dS)),.val (.lst ((cV (spH s w pt hi) true (cL (spX s w pt hi) (!spL s hi) sh)).map dS)),.val (.lst ((cV (spH s w pt hi) (!hi) (cL (spX s w pt hi) (!spL s hi) sh)).map dS)),.val (.lst ((cV (spH s w pt hi) hi (cL (spX s w pt hi) (!spL s hi) sh)).map dS)),.val (dR (-(spH s w pt hi).1,(spH s w pt hi).2)),.val (dP (stA s w pt hi)),.val (if spL s hi=true then dR (-pt.1,pt.2) else .ktup ([0,1].map D.int)),.no,.no,.no]) ?_ (fun N kk=>?_)
 rotate_left
 ·refine ⟨_,rfl,_,rfl,ifB (fun c=>?_) (fun c=>?_)⟩
  ·exact ⟨_,rfl,rfl,pt.1,pt.2,rfl,kk _ (by rw [if_pos c]; rfl)⟩
  ·exact kk _ (by rw [c]; rfl)
 rintro ρ rfl
 have asd:∃ a b:Int,itsK (if spL s hi=true then dR (-pt.1,pt.2) else .ktup ([0,1].map D.int))=some [.int a,.int b]∧Low a b∧intBits a≤4000∧intBits b≤4000∧(if spL s hi=true then (-pt.1,pt.2) else (0,1))=(a,b):=by
  by_cases c:spL s hi=true
  ·rw [if_pos c,if_pos c]; exact ⟨-pt.1,pt.2,rfl,ng hx.lp,m4 (intBits_neg_le hx.c5) (by decide),m4 hx.c6 (by decide),rfl⟩
  ·rw [if_neg c,if_neg c]; exact ⟨0,1,rfl,lN,z4,o4,rfl⟩
 obtain ⟨aa,ab,i1,i2,i3,i4,i5⟩:=asd
 refine mid4 (fun ρ=>ρ=[.val (dR s),.val (.str (if hi=true then "high" else "low")),.val (dR w),.new (.lst (sh.map dS)),.val (dR pt),.val (dR (spR w pt)),.val (dR (if s.1 < 0 then -s.1 else s.1,s.2)),.val (.bl (!hi)),.val (.bl (spL s hi)),.val (dR (spH s w pt hi)),.val (.lst ((cL (spX s w pt hi) true sh).map dS)),.val (.lst ((cL (spX s w pt hi) false sh).map dS)),.val (.lst ((cL (spX s w pt hi) (spL s hi) sh).map dS)),.val (.lst ((cL (spX s w pt hi) (!spL s hi) sh).map dS)),.val (.lst ((cV (spH s w pt hi) false (cL (spX s w pt hi) (!spL s hi) sh)).map dS)),.val (.lst ((cV (spH s w pt hi) true (cL (spX s w pt hi) (!spL s hi) sh)).map dS)),.val (.lst ((cV (spH s w pt hi) (!hi) (cL (spX s w pt hi) (!spL s hi) sh)).map dS)),.val (.lst ((cV (spH s w pt hi) hi (cL (spX s w pt hi) (!spL s hi) sh)).map dS)),.val (dR (-(spH s w pt hi).1,(spH s w pt hi).2)),.val (dP (stA s w pt hi)),.val (if spL s hi=true then dR (-pt.1,pt.2) else .ktup ([0,1].map D.int)),.val (dP (stB s w pt hi)),.no,.no]) ?_ (fun N kk=>?_)
 rotate_left
 ·refine ⟨_,rfl,_,rfl,_,rfl,ifB (fun e=>?_) (fun e=>?_)⟩
  ·have hF:hi=false:=by cases hi <;> first | rfl | cases e
   exact ⟨_,rfl,rfl,_,_,aa,ab,-(spH s w pt hi).1,(spH s w pt hi).2,rfl,i1,rfl,i2,ng h1,i3,i4,m4 (intBits_neg_le h3) (by decide),m4 h4 (by decide),kk _ (by rw [show stB s w pt hi=_ from by unfold stB; rw [i5,if_neg (by rw [hF]; exact Bool.false_ne_true)]]; rfl)⟩
  ·have hT:hi=true:=by cases hi <;> first | rfl | cases e
   exact ⟨rfl,_,_,aa,ab,0,1,rfl,i1,N0,i2,lN,i3,i4,z4,o4,kk _ (by rw [show stB s w pt hi=_ from by unfold stB; rw [i5,if_pos hT]]; rfl)⟩
 rintro ρ rfl
 refine mid4 (fun ρ=>ρ=[.val (dR s),.val (.str (if hi=true then "high" else "low")),.val (dR w),.new (.lst (sh.map dS)),.val (dR pt),.val (dR (spR w pt)),.val (dR (if s.1 < 0 then -s.1 else s.1,s.2)),.val (.bl (!hi)),.val (.bl (spL s hi)),.val (dR (spH s w pt hi)),.val (.lst ((cL (spX s w pt hi) true sh).map dS)),.val (.lst ((cL (spX s w pt hi) false sh).map dS)),.val (.lst ((cL (spX s w pt hi) (spL s hi) sh).map dS)),.val (.lst ((cL (spX s w pt hi) (!spL s hi) sh).map dS)),.val (.lst ((cV (spH s w pt hi) false (cL (spX s w pt hi) (!spL s hi) sh)).map dS)),.val (.lst ((cV (spH s w pt hi) true (cL (spX s w pt hi) (!spL s hi) sh)).map dS)),.val (.lst ((cV (spH s w pt hi) (!hi) (cL (spX s w pt hi) (!spL s hi) sh)).map dS)),.val (.lst ((cV (spH s w pt hi) hi (cL (spX s w pt hi) (!spL s hi) sh)).map dS)),.val (dR (-(spH s w pt hi).1,(spH s w pt hi).2)),.val (dP (stA s w pt hi)),.val (if spL s hi=true then dR (-pt.1,pt.2) else .ktup ([0,1].map D.int)),.val (dP (stB s w pt hi)),.val (dP (stC s w pt hi)),.no]) ?_ (fun N kk=>?_)
 rotate_left
 ·refine ⟨_,rfl,_,rfl,_,rfl,ifB (fun e=>?_) (fun e=>?_)⟩
  ·have hF:hi=false:=by cases hi <;> first | rfl | cases e
   exact ⟨rfl,_,_,aa,ab,0,1,rfl,i1,N0,i2,lN,i3,i4,z4,o4,kk _ (by rw [show stC s w pt hi=_ from by unfold stC; rw [i5,if_neg (by rw [hF]; exact Bool.false_ne_true)]]; rfl)⟩
  ·have hT:hi=true:=by cases hi <;> first | rfl | cases e
   exact ⟨_,rfl,rfl,_,_,aa,ab,-(spH s w pt hi).1,(spH s w pt hi).2,rfl,i1,rfl,i2,ng h1,i3,i4,m4 (intBits_neg_le h3) (by decide),m4 h4 (by decide),kk _ (by rw [show stC s w pt hi=_ from by unfold stC; rw [i5,if_pos hT]]; rfl)⟩
 rintro ρ rfl
 have sg1:=hx.stA hi
 have sg2:=hx.stB hi
 have sg3:=hx.stC hi
 refine mid4 (fun ρ=>ρ=[.val (dR s),.val (.str (if hi=true then "high" else "low")),.val (dR w),.new (.lst (sh.map dS)),.val (dR pt),.val (dR (spR w pt)),.val (dR (if s.1 < 0 then -s.1 else s.1,s.2)),.val (.bl (!hi)),.val (.bl (spL s hi)),.val (dR (spH s w pt hi)),.val (.lst ((cL (spX s w pt hi) true sh).map dS)),.val (.lst ((cL (spX s w pt hi) false sh).map dS)),.val (.lst ((cL (spX s w pt hi) (spL s hi) sh).map dS)),.val (.lst ((cL (spX s w pt hi) (!spL s hi) sh).map dS)),.val (.lst ((cV (spH s w pt hi) false (cL (spX s w pt hi) (!spL s hi) sh)).map dS)),.val (.lst ((cV (spH s w pt hi) true (cL (spX s w pt hi) (!spL s hi) sh)).map dS)),.val (.lst ((cV (spH s w pt hi) (!hi) (cL (spX s w pt hi) (!spL s hi) sh)).map dS)),.val (.lst ((cV (spH s w pt hi) hi (cL (spX s w pt hi) (!spL s hi) sh)).map dS)),.val (dR (-(spH s w pt hi).1,(spH s w pt hi).2)),.val (dP (stA s w pt hi)),.val (if spL s hi=true then dR (-pt.1,pt.2) else .ktup ([0,1].map D.int)),.val (dP (stB s w pt hi)),.val (dP (stC s w pt hi)),.val (.tup [dR (spR w pt),dR (hgt s pt),.lst ((spC s w pt hi sh).map dS)])]) ?_ (fun N kk=>?_)
 rotate_left
 ·refine ⟨_,rfl,_,rfl,_,rfl,rfl,_,_,pt.1,pt.2,rfl,la,hx.lp,m4 ca (by decide),m4 hx.c2 (by decide),m4 hx.c5 (by decide),m4 hx.c6 (by decide),?_⟩
  dsimp only [fzR]
  exact ⟨_,rfl,_,rfl,rfl,cV (spH s w pt hi) hi (cL (spX s w pt hi) (!spL s hi) sh),stC s w pt hi,rfl,Nat.le_trans (n2 _) (by decide),g2 _,sg3,by show 3≤sizeLine; decide,kk _ rfl⟩
 rintro ρ rfl
 refine ⟨_,rfl,_,rfl,rfl,cL (spX s w pt hi) (spL s hi) sh,stA s w pt hi,rfl,Nat.le_trans (n1 _) (by decide),fun x hm=>(g1 _ x hm).mono (by decide) (by decide),sg1,?_⟩
 dsimp only [fzR]
 refine ⟨_,rfl,_,rfl,rfl,cV (spH s w pt hi) (!hi) (cL (spX s w pt hi) (!spL s hi) sh),stB s w pt hi,rfl,Nat.le_trans (n2 _) (by decide),g2 _,sg2,?_⟩
 dsimp only [fzR]
 exact ⟨_,rfl,by show 3≤sizeLine; decide,hk⟩
theorem sc_law:FnScope ["_law_script", "_law_cell_here", "_law_bag_here", "_law_slope_here", "_law_hand", "_law_wide", "_law_sheet_here", "_law_many", "_law_part_here", "_law_lent", "_law_found"] ["_law_script"] (defScope s_law):=⟨rfl,rfl,rfl,by decide +kernel,rfl,by decide +kernel,by decide +kernel⟩
theorem ok_law {P:Program} {w:World} {K:PySem.W.Frag} {mg:Str→Option Value} {base:Heap} {f:Addr} {fd:FuncData} (B:Blts mg) (F:Fun K "law" "law" s_law f fd) (c_law_cell:Cal P w K mg base "_law_cell" ["_law_script", "_law_k"] 1 (Con K 2 F_cell)) (c_law_bag:Cal P w K mg base "_law_bag" ["_law_cell_here"] 1 (Con K 1 F_bag)) (c_law_slope:Cal P w K mg base "_law_slope" ["_law_bag_here"] 5 (Con K 1 F_slopeT)) (c_law_draw:Cal P w K mg base "_law_draw" ["_law_bag_here", "_law_many"] 1 (Con K 2 (F_draw 400))) (c_law_size:Cal P w K mg base "_law_size" ["_law_bag_here"] 4 (Con K 1 F_sizeT)) (c_law_sheet:Cal P w K mg base "_law_sheet" ["_law_bag_here", "_law_ring", "_law_cuts"] 6 (Con K 3 F_sheetT)) (c_law_corner:Cal P w K mg base "_law_corner" ["_law_slope_here", "_law_hand", "_law_wide"] 6 (Con K 3 F_cornT)) (c_law_product:Cal P w K mg base "_law_product" ["_law_one", "_law_other"] 4 (Con K 2 F_productT)) (c_law_copied:Cal P w K mg base "_law_copied" ["_law_sheet_here"] 2 (Con K 1 F_copiedT)) (c_split:Cal P w K mg base "split" ["slope", "hand", "wide", "sheet", "part"] 8 (Con K 5 F_splitW)) (c_law_right:Cal P w K mg base "_law_right" ["_law_found", "_law_slope_here", "_law_hand", "_law_wide", "_law_sheet_here", "_law_part_here"] 8 (Con K 6 F_rightT)) :
  FnOk P w K mg base CX0 9 f fd ["_law_script"] (spLaw K):=by
 refine FnOk.imp (sp:=Con K 1 F_law) ?_ (fun vs H Q E h=>law_con h)
 refine law_def3 (lv:=8) F sc_law rfl (fun cdv A outer s H E hr=>⟨_,(s_cons (s_for PassesOwn.never rfl (i_list (o_e (o_cat (o_e (o_lst (l_cons (e_call c_law_cell hr (by rfl) (a_val (v3 0) (a_val e_int a_nil))) l_nil))) (o_e (o_slice (v3 0) (p_some e_int) (p_some e_int)))))) (g_name (i:=1) sc_law.nd rfl (Or.inl rfl)) (s_cons (s_setN (i:=2) sc_law.nd rfl (Or.inl rfl) (n_call c_law_bag hr (by rfl) (a_val (v3 1) a_nil))) (s_cons (s_set (i:=3) sc_law.nd rfl (Or.inl rfl) (e_call c_law_slope hr (by rfl) (a_bag 2 a_nil))) (s_cons (s_set (i:=4) sc_law.nd rfl (Or.inl rfl) (e_ix (o_e (o_lst (l_cons e_str (l_cons e_str l_nil)))) (e_call c_law_draw hr (by rfl) (a_bag 2 (a_val e_int a_nil))) (fun _ _=>rfl))) (s_cons (s_set (i:=5) sc_law.nd rfl (Or.inl rfl) (e_call c_law_size hr (by rfl) (a_bag 2 a_nil))) (s_cons (s_set (i:=6) sc_law.nd rfl (Or.inl rfl) (e_call c_law_sheet hr (by rfl) (a_bag 2 (a_val (e_call c_law_corner hr (by rfl) (a_val (v3 3) (a_val (v3 4) (a_val (v3 5) a_nil)))) (a_val e_int a_nil))))) (s_cons (s_set (i:=7) sc_law.nd rfl (Or.inl rfl) (e_add e_int (e_call c_law_draw hr (by rfl) (a_bag 2 (a_val e_int a_nil))))) (s_cons (s_set (i:=8) sc_law.nd rfl (Or.inl rfl) (e_call c_law_product hr (by rfl) (a_val (v3 5) (a_val (e_tup (l_cons (e_add e_int (e_call c_law_draw hr (by rfl) (a_bag 2 (a_val (e_sub (v3 7) e_int) a_nil)))) (l_cons (v3 7) l_nil))) a_nil)))) (s_cons (s_set (i:=9) sc_law.nd rfl (Or.inl rfl) (e_call c_law_copied hr (by rfl) (a_val (v3 6) a_nil))) (z_start (i:=10) (I:=[10]) (by decide) sc_law.nd rfl (Or.inl rfl) (d_call c_split hr (by rfl) (a_val (v3 3) (a_val (v3 4) (a_val (v3 5) (a_val (v3 9) (a_val (v3 8) a_nil)))))) (z_if (w_t (w_or (t_ne (hr.units) (v3 9) (v3 6) (nomark _)) (w_or1 (t_not (t_val (e_call c_law_right hr (by rfl) (a_val (v3 10) (a_val (v3 3) (a_val (v3 4) (a_val (v3 5) (a_val (v3 6) (a_val (v3 8) a_nil)))))))))))) (s_one (s_ret e_bl)) (z_split rfl (Or.inl rfl) (s_one (s_if (t_not (t_val (e_call c_law_right hr (by rfl) (a_val (e_call c_split hr (by rfl) (a_val (v3 3) (a_val (v3 4) (a_val (v3 5) (a_val (v3 9) (a_val (v3 8) a_nil)))))) (a_val (v3 3) (a_val (v3 4) (a_val (v3 5) (a_val (v3 6) (a_val (v3 8) a_nil))))))))) (s_one (s_ret e_bl)) s_nil)))))))))))))) (s_one (s_ret e_bl))),?_⟩)
 rintro as k hl ⟨ns,rfl,h63,hk⟩
 refine at3 (r:=[.val (.scr ns),.no,.no,.no,.no,.no,.no,.no,.no,.no,.no]) rfl ?_
 walk_at "w"
 refine ⟨ns,0,rfl,by decide,fun z=>?_⟩
 walk_at "w"
 refine ⟨law_len h63,_,rfl,?_⟩
 refine forR_ints (fun ρ=>∃ v1 v2 v3 v4 v5 v6 v7 v8 v9 v10,ρ=[.val (.scr ns),v1,v2,v3,v4,v5,v6,v7,v8,v9,v10]) ⟨_,_,_,_,_,_,_,_,_,_,rfl⟩ law_items ?_ ?_
 rotate_left
 ·rintro ρ ⟨v1,v2,v3,v4,v5,v6,v7,v8,v9,v10,rfl⟩
  exact hk
 rintro c ρ ⟨v1,v2,v3,v4,v5,v6,v7,v8,v9,v10,rfl⟩ N kk
 have m:∀ {z:Int} {a b:Nat},intBits z≤a→a≤b→intBits z≤b:=fun h g=>Nat.le_trans h g
 refine ⟨_,rfl,rfl,c,rfl,rfl,?_⟩
 refine ⟨rfl,rfl,rfl,fun s ls s0 c1 c2=>?_⟩
 dsimp only [fzR]
 refine ⟨by show 2≤sizeLine; decide,?_⟩
 walk_at "w"
 intro h h0 h1
 obtain ⟨hi,eh⟩:∃ hi:Bool,atI [D.str "low", D.str "high"] h=some (.str (if hi=true then "high" else "low")):=by
  obtain rfl | rfl:h=0∨h=1:=by omega
  ·exact ⟨false,rfl⟩
  ·exact ⟨true,rfl⟩
 refine ⟨_,_,_,.inr rfl,rfl,eh,?_⟩
 refine ⟨rfl,rfl,rfl,fun w lw w0 c3 c4=>?_⟩
 dsimp only [fzR]
 obtain ⟨cv,gp,cl⟩:=corn70 ls lw s0 w0 c1 c2 c3 c4 hi
 refine ⟨rfl,_,rfl,_,rfl,_,rfl,rfl,s,w,hi,rfl,ls,lw,s0,w0,m c1 (by decide),m c2 (by decide),m c3 (by decide),m c4 (by decide),?_⟩
 dsimp only [fzR]
 refine ⟨rfl,cornP s hi w,rfl,cv,gp,cl,fun sh hs hl bal=>?_⟩
 dsimp only [fzR]
 walk_at "w"
 intro d d0 d1
 walk_at "w"
 intro e e0 e1
 walk_at "w"
 have hx:=part_ok ls lw s0 w0 c1 c2 c3 c4 (n:=1 + e) (m:=2 + d) (by omega) (by omega) (by omega)
 have b3:∀ z:Int,0≤z→z≤6→intBits z≤1000:=fun z z0 z1=>Nat.le_trans (intBits_le_iff.mpr (show z.natAbs < 2 ^ 3 by show z.natAbs < 8; omega)) (by decide)
 refine ⟨w,(1 + e,2 + d),rfl,lw.1,by show 0 < 2 + d; omega,m c3 (by decide),m c4 (by decide),b3 _ (by show 0≤1 + e; omega) (by show 1 + e≤6; omega),b3 _ (by show 0≤2 + d; omega) (by show 2 + d≤6; omega),?_⟩
 dsimp only [fzR]
 generalize nrat (w.1 * (1 + e)) (w.2 * (2 + d))=pt at hx ⊢
 refine ⟨_,rfl,rfl,sh,rfl,by omega,?_⟩
 dsimp only [fzR]
 refine ⟨by show 10 < 11; decide,?_⟩
 refine ⟨_,rfl,_,rfl,_,rfl,_,rfl,_,rfl,rfl,s,w,pt,hi,sh,rfl,hx,hs,by omega,?_⟩
 refine ⟨_,rfl,?_⟩
 refine ⟨_,rfl,_,rfl,shS,has_S sh,has_S sh,by decide,_,rfl,neIf (fun h=>absurd rfl h) (fun _=>?_)⟩
 refine ⟨_,rfl,_,rfl,_,rfl,_,rfl,_,rfl,_,rfl,rfl,s,w,pt,hi,sh,rfl,hx,hs,hl,bal,?_⟩
 dsimp only [fzR]
 refine ⟨_,rfl,?_⟩
 refine ⟨rfl,⟨_,_,_,_,_,rfl⟩,?_⟩
 refine ⟨_,rfl,_,rfl,_,rfl,_,rfl,_,rfl,rfl,s,w,pt,hi,sh,rfl,hx,hs,by omega,?_⟩
 dsimp only [fzR]
 refine ⟨_,rfl,_,rfl,_,rfl,_,rfl,_,rfl,rfl,s,w,pt,hi,sh,rfl,hx,hs,hl,bal,?_⟩
 dsimp only [fzR]
 exact ⟨_,rfl,iteF (kk _ ⟨_,_,_,_,_,_,_,_,_,_,rfl⟩)⟩
theorem all_mk {l:PySem.W.OpenLaw} {w:World} {K:PySem.W.Frag} {h:Heap} {mg:Str→Option Value} {fa:Addr} (Y:Tab tabs K) (X:K.In h) (G:h.Ns mainGlobals mg) (hfa:mg "law" = some (.ref fa))
  : ∃ fd:FuncData,(∀ (s:Shared) (v:Value),BindsTo s fd ⟨[v],[]⟩ [("_law_script", v)])∧∀ base:Heap,K.In base→base.Ns mainGlobals mg→FnOk l.prog w K mg base CX0 9 fa fd ["_law_script"] (spLaw K):=by
 obtain ⟨⟨x_greatest_divisor,x_plus,x_minus,x_times,x_against,x_unsigned,x_point,x_at,x_slid,x_crossed,x_hand_of,x_meet,x_cut_ring,x_cut_sheet,x_cut_upright,x_cut_level,x_moved,x_split,x_law_cell,x_law_bag,x_law_draw,x_law_measure,x_law_low,x_law_spot,x_law_whole,x_law_line,x_law_count,x_law_part,x_law_left,x_law_is_spot,x_law_is_bulging,x_law_between,x_law_cut,x_law_sheet,x_law_first,x_law_kept,x_law_lies,x_law_copied,x_law_product,x_law_less,x_law_pin,x_law_box,x_law_is_box,x_law_is_low,x_law_size,x_law_high,x_law_corner,x_law_slope,x_law_right,x_law,_⟩,⟨z_len,z_abs,z_int,z_bool,z_tuple,z_isinstance,z_range,z_all,z_sum,z_list,z_ValueError,z_zip,z_str,z_enumerate,z_set,z_max,z_min,z_sorted,_⟩,⟨y_NOTHING,_⟩,⟨_⟩⟩:=Y
 have g_greatest_divisor:=x_greatest_divisor.fnd (ps:=["one", "other"]) X G fun _ _ F=>F.binds fun _ _ _ _ _ _ us hl=>match us,hl with | [_,_],_=>rfl
 have g_plus:=x_plus.fnd (ps:=["one", "other"]) X G fun _ _ F=>F.binds fun _ _ _ _ _ _ us hl=>match us,hl with | [_,_],_=>rfl
 have g_minus:=x_minus.fnd (ps:=["one", "other"]) X G fun _ _ F=>F.binds fun _ _ _ _ _ _ us hl=>match us,hl with | [_,_],_=>rfl
 have g_times:=x_times.fnd (ps:=["one", "other"]) X G fun _ _ F=>F.binds fun _ _ _ _ _ _ us hl=>match us,hl with | [_,_],_=>rfl
 have g_against:=x_against.fnd (ps:=["one"]) X G fun _ _ F=>F.binds fun _ _ _ _ _ _ us hl=>match us,hl with | [_],_=>rfl
 have g_unsigned:=x_unsigned.fnd (ps:=["one"]) X G fun _ _ F=>F.binds fun _ _ _ _ _ _ us hl=>match us,hl with | [_],_=>rfl
 have g_point:=x_point.fnd (ps:=["a", "b", "n"]) X G fun _ _ F=>F.binds fun _ _ _ _ _ _ us hl=>match us,hl with | [_,_,_],_=>rfl
 have g_at:=x_at.fnd (ps:=["x", "y"]) X G fun _ _ F=>F.binds fun _ _ _ _ _ _ us hl=>match us,hl with | [_,_],_=>rfl
 have g_slid:=x_slid.fnd (ps:=["p", "step"]) X G fun _ _ F=>F.binds fun _ _ _ _ _ _ us hl=>match us,hl with | [_,_],_=>rfl
 have g_crossed:=x_crossed.fnd (ps:=["one", "other"]) X G fun _ _ F=>F.binds fun _ _ _ _ _ _ us hl=>match us,hl with | [_,_],_=>rfl
 have g_hand_of:=x_hand_of.fnd (ps:=["line", "p"]) X G fun _ _ F=>F.binds fun _ _ _ _ _ _ us hl=>match us,hl with | [_,_],_=>rfl
 have g_meet:=x_meet.fnd (ps:=["p", "q", "r", "s"]) X G fun _ _ F=>F.binds fun _ _ _ _ _ _ us hl=>match us,hl with | [_,_,_,_],_=>rfl
 have g_cut_ring:=x_cut_ring.fnd (ps:=["ring", "p", "q"]) X G fun _ _ F=>F.binds fun _ _ _ _ _ _ us hl=>match us,hl with | [_,_,_],_=>rfl
 have g_cut_sheet:=x_cut_sheet.fnd (ps:=["sheet", "p", "q"]) X G fun _ _ F=>F.binds fun _ _ _ _ _ _ us hl=>match us,hl with | [_,_,_],_=>rfl
 have g_cut_upright:=x_cut_upright.fnd (ps:=["sheet", "place"]) X G fun _ _ F=>F.binds fun _ _ _ _ _ _ us hl=>match us,hl with | [_,_],_=>rfl
 have g_cut_level:=x_cut_level.fnd (ps:=["sheet", "height"]) X G fun _ _ F=>F.binds fun _ _ _ _ _ _ us hl=>match us,hl with | [_,_],_=>rfl
 have g_moved:=x_moved.fnd (ps:=["sheet", "step"]) X G fun _ _ F=>F.binds fun _ _ _ _ _ _ us hl=>match us,hl with | [_,_],_=>rfl
 have g_split:=x_split.fnd (ps:=["slope", "hand", "wide", "sheet", "part"]) X G fun _ _ F=>F.binds fun _ _ _ _ _ _ us hl=>match us,hl with | [_,_,_,_,_],_=>rfl
 have g_law_cell:=x_law_cell.fnd (ps:=["_law_script", "_law_k"]) X G fun _ _ F=>F.binds fun _ _ _ _ _ _ us hl=>match us,hl with | [_,_],_=>rfl
 have g_law_bag:=x_law_bag.fnd (ps:=["_law_cell_here"]) X G fun _ _ F=>F.binds fun _ _ _ _ _ _ us hl=>match us,hl with | [_],_=>rfl
 have g_law_draw:=x_law_draw.fnd (ps:=["_law_bag_here", "_law_many"]) X G fun _ _ F=>F.binds fun _ _ _ _ _ _ us hl=>match us,hl with | [_,_],_=>rfl
 have g_law_measure:=x_law_measure.fnd (ps:=["_law_one", "_law_other"]) X G fun _ _ F=>F.binds fun _ _ _ _ _ _ us hl=>match us,hl with | [_,_],_=>rfl
 have g_law_low:=x_law_low.fnd (ps:=["_law_top", "_law_bottom"]) X G fun _ _ F=>F.binds fun _ _ _ _ _ _ us hl=>match us,hl with | [_,_],_=>rfl
 have g_law_spot:=x_law_spot.fnd (ps:=["_law_x", "_law_y", "_law_bottom"]) X G fun _ _ F=>F.binds fun _ _ _ _ _ _ us hl=>match us,hl with | [_,_,_],_=>rfl
 have g_law_whole:=x_law_whole.fnd (ps:=["_law_found"]) X G fun _ _ F=>F.binds fun _ _ _ _ _ _ us hl=>match us,hl with | [_],_=>rfl
 have g_law_line:=x_law_line.fnd (ps:=["_law_p", "_law_q"]) X G fun _ _ F=>F.binds fun _ _ _ _ _ _ us hl=>match us,hl with | [_,_],_=>rfl
 have g_law_count:=x_law_count.fnd (ps:=["_law_tally", "_law_rings", "_law_number"]) X G fun _ _ F=>F.binds fun _ _ _ _ _ _ us hl=>match us,hl with | [_,_,_],_=>rfl
 have g_law_part:=x_law_part.fnd (ps:=["_law_rings", "_law_others"]) X G fun _ _ F=>F.binds fun _ _ _ _ _ _ us hl=>match us,hl with | [_,_],_=>rfl
 have g_law_left:=x_law_left.fnd (ps:=["_law_p", "_law_q", "_law_r"]) X G fun _ _ F=>F.binds fun _ _ _ _ _ _ us hl=>match us,hl with | [_,_,_],_=>rfl
 have g_law_is_spot:=x_law_is_spot.fnd (ps:=["_law_p"]) X G fun _ _ F=>F.binds fun _ _ _ _ _ _ us hl=>match us,hl with | [_],_=>rfl
 have g_law_is_bulging:=x_law_is_bulging.fnd (ps:=["_law_ring"]) X G fun _ _ F=>F.binds fun _ _ _ _ _ _ us hl=>match us,hl with | [_],_=>rfl
 have g_law_between:=x_law_between.fnd (ps:=["_law_p", "_law_q", "_law_part_here", "_law_many"]) X G fun _ _ F=>F.binds fun _ _ _ _ _ _ us hl=>match us,hl with | [_,_,_,_],_=>rfl
 have g_law_cut:=x_law_cut.fnd (ps:=["_law_bag_here", "_law_ring"]) X G fun _ _ F=>F.binds fun _ _ _ _ _ _ us hl=>match us,hl with | [_,_],_=>rfl
 have g_law_sheet:=x_law_sheet.fnd (ps:=["_law_bag_here", "_law_ring", "_law_cuts"]) X G fun _ _ F=>F.binds fun _ _ _ _ _ _ us hl=>match us,hl with | [_,_,_],_=>rfl
 have g_law_first:=x_law_first.fnd (ps:=["_law_piece"]) X G fun _ _ F=>F.binds fun _ _ _ _ _ _ us hl=>match us,hl with | [_],_=>rfl
 have g_law_kept:=x_law_kept.fnd (ps:=["_law_olds", "_law_news"]) X G fun _ _ F=>F.binds fun _ _ _ _ _ _ us hl=>match us,hl with | [_,_],_=>rfl
 have g_law_lies:=x_law_lies.fnd (ps:=["_law_sheet_here", "_law_ring"]) X G fun _ _ F=>F.binds fun _ _ _ _ _ _ us hl=>match us,hl with | [_,_],_=>rfl
 have g_law_copied:=x_law_copied.fnd (ps:=["_law_sheet_here"]) X G fun _ _ F=>F.binds fun _ _ _ _ _ _ us hl=>match us,hl with | [_],_=>rfl
 have g_law_product:=x_law_product.fnd (ps:=["_law_one", "_law_other"]) X G fun _ _ F=>F.binds fun _ _ _ _ _ _ us hl=>match us,hl with | [_,_],_=>rfl
 have g_law_less:=x_law_less.fnd (ps:=["_law_one", "_law_other"]) X G fun _ _ F=>F.binds fun _ _ _ _ _ _ us hl=>match us,hl with | [_,_],_=>rfl
 have g_law_pin:=x_law_pin.fnd (ps:=["_law_x", "_law_y"]) X G fun _ _ F=>F.binds fun _ _ _ _ _ _ us hl=>match us,hl with | [_,_],_=>rfl
 have g_law_box:=x_law_box.fnd (ps:=["_law_wide", "_law_high_here"]) X G fun _ _ F=>F.binds fun _ _ _ _ _ _ us hl=>match us,hl with | [_,_],_=>rfl
 have g_law_is_box:=x_law_is_box.fnd (ps:=["_law_found"]) X G fun _ _ F=>F.binds fun _ _ _ _ _ _ us hl=>match us,hl with | [_],_=>rfl
 have g_law_is_low:=x_law_is_low.fnd (ps:=["_law_found"]) X G fun _ _ F=>F.binds fun _ _ _ _ _ _ us hl=>match us,hl with | [_],_=>rfl
 have g_law_size:=x_law_size.fnd (ps:=["_law_bag_here"]) X G fun _ _ F=>F.binds fun _ _ _ _ _ _ us hl=>match us,hl with | [_],_=>rfl
 have g_law_high:=x_law_high.fnd (ps:=["_law_slope_here", "_law_wide"]) X G fun _ _ F=>F.binds fun _ _ _ _ _ _ us hl=>match us,hl with | [_,_],_=>rfl
 have g_law_corner:=x_law_corner.fnd (ps:=["_law_slope_here", "_law_hand", "_law_wide"]) X G fun _ _ F=>F.binds fun _ _ _ _ _ _ us hl=>match us,hl with | [_,_,_],_=>rfl
 have g_law_slope:=x_law_slope.fnd (ps:=["_law_bag_here"]) X G fun _ _ F=>F.binds fun _ _ _ _ _ _ us hl=>match us,hl with | [_],_=>rfl
 have g_law_right:=x_law_right.fnd (ps:=["_law_found", "_law_slope_here", "_law_hand", "_law_wide", "_law_sheet_here", "_law_part_here"]) X G fun _ _ F=>F.binds fun _ _ _ _ _ _ us hl=>match us,hl with | [_,_,_,_,_,_],_=>rfl
 obtain ⟨f0,fd0,m0,F0⟩:=x_law
 have e:=hfa.symm.trans (PySem.W.mg_of X G m0)
 cases e
 have B:Blts mg:=⟨PySem.W.mg_none_of X G z_len,PySem.W.mg_none_of X G z_abs,PySem.W.mg_none_of X G z_int,PySem.W.mg_none_of X G z_bool,PySem.W.mg_none_of X G z_tuple,PySem.W.mg_none_of X G z_isinstance,PySem.W.mg_none_of X G z_range,PySem.W.mg_none_of X G z_all,PySem.W.mg_none_of X G z_sum,PySem.W.mg_none_of X G z_list,PySem.W.mg_none_of X G z_ValueError,PySem.W.mg_none_of X G z_zip,PySem.W.mg_none_of X G z_str,PySem.W.mg_none_of X G z_enumerate,PySem.W.mg_none_of X G z_set,PySem.W.mg_none_of X G z_max,PySem.W.mg_none_of X G z_min,PySem.W.mg_none_of X G z_sorted⟩
 have G_NOTHING:=y_NOTHING.gtup X G
 refine ⟨fd0,fun s v=>?_,fun base _ _=>?_⟩
 ·obtain ⟨_,_,_,_,_,_,_,_,_,rfl,_⟩:=F0.ex
  exact .of_eq rfl
 have q_law_cell:=ok_law_cell (P:=l.prog) (w:=w) (base:=base) B  g_law_cell
 have q_bagB:=ok_bagB (P:=l.prog) (w:=w) (base:=base) B  g_law_bag
 have q_drawB:=ok_drawB (P:=l.prog) (w:=w) (base:=base) B  g_law_draw
 have q_law_measure:=ok_law_measure (P:=l.prog) (w:=w) (base:=base) B  g_law_measure
 have q_lowT:=ok_lowT (P:=l.prog) (w:=w) (base:=base) B  g_law_low q_law_measure
 have q_spotB:=ok_spotB (P:=l.prog) (w:=w) (base:=base) B  g_law_spot q_law_measure
 have q_law_whole:=ok_law_whole (P:=l.prog) (w:=w) (base:=base) B  g_law_whole
 have q_lineT:=ok_lineT (P:=l.prog) (w:=w) (base:=base) B  g_law_line q_law_measure
 have q_countT:=ok_countT (P:=l.prog) (w:=w) (base:=base) B  g_law_count q_lineT
 have q_partT:=ok_partT (P:=l.prog) (w:=w) (base:=base) B  g_law_part q_countT
 have q_leftT:=ok_leftT (P:=l.prog) (w:=w) (base:=base) B  g_law_left
 have q_isspotT:=ok_isspotT (P:=l.prog) (w:=w) (base:=base) B  g_law_is_spot q_law_whole q_law_measure
 have q_bulgT:=ok_bulgT (P:=l.prog) (w:=w) (base:=base) B  g_law_is_bulging q_isspotT q_leftT
 have q_btwT:=ok_btwT (P:=l.prog) (w:=w) (base:=base) B  g_law_between q_spotB
 have q_cutT:=ok_cutT (P:=l.prog) (w:=w) (base:=base) B  g_law_cut q_drawB q_btwT
 have q_sheetT:=ok_sheetT (P:=l.prog) (w:=w) (base:=base) B  g_law_sheet q_drawB q_cutT q_spotB
 have q_firstT:=ok_firstT (P:=l.prog) (w:=w) (base:=base) B  g_law_first q_spotB
 have q_keptT:=ok_keptT (P:=l.prog) (w:=w) (base:=base) B  g_law_kept q_firstT q_partT
 have q_liesT:=ok_liesT (P:=l.prog) (w:=w) (base:=base) B  g_law_lies q_bulgT q_isspotT q_partT
 have q_copiedT:=ok_copiedT (P:=l.prog) (w:=w) (base:=base) B  g_law_copied
 have q_productT:=ok_productT (P:=l.prog) (w:=w) (base:=base) B  g_law_product q_lowT
 have q_lessT:=ok_lessT (P:=l.prog) (w:=w) (base:=base) B  g_law_less q_lowT
 have q_pinT:=ok_pinT (P:=l.prog) (w:=w) (base:=base) B  g_law_pin q_spotB
 have q_boxT:=ok_boxT (P:=l.prog) (w:=w) (base:=base) B  g_law_box q_pinT
 have q_islowT:=ok_islowT (P:=l.prog) (w:=w) (base:=base) B  g_law_is_low q_law_whole q_law_measure
 have q_isboxT:=ok_isboxT (P:=l.prog) (w:=w) (base:=base) B  g_law_is_box q_islowT q_liesT q_boxT
 have q_sizeT:=ok_sizeT (P:=l.prog) (w:=w) (base:=base) B  g_law_size q_drawB q_lowT
 have q_highT:=ok_highT (P:=l.prog) (w:=w) (base:=base) B  g_law_high q_productT
 have q_cornT:=ok_cornT (P:=l.prog) (w:=w) (base:=base) B  g_law_corner q_boxT q_highT
 have q_slopeT:=ok_slopeT (P:=l.prog) (w:=w) (base:=base) B  g_law_slope q_sizeT q_drawB
 have q_rightT:=ok_rightT (P:=l.prog) (w:=w) (base:=base) B  g_law_right q_lessT q_isboxT q_highT q_liesT q_cornT q_keptT
 have q_greatest_divisor:=ok_greatest_divisor (P:=l.prog) (w:=w) (base:=base) B  g_greatest_divisor
 have q_crossedW:=ok_crossedW (P:=l.prog) (w:=w) (base:=base) B  g_crossed
 have q_hand_of:=ok_hand_of (P:=l.prog) (w:=w) (base:=base) B  g_hand_of
 have q_point:=ok_point (P:=l.prog) (w:=w) (base:=base) B  g_point q_greatest_divisor
 have q_meetW:=ok_meetW (P:=l.prog) (w:=w) (base:=base) B  g_meet q_crossedW q_point
 have q_cut_ringW:=ok_cut_ringW (P:=l.prog) (w:=w) (base:=base) B  g_cut_ring q_crossedW q_hand_of q_meetW
 have q_cut_sheetW:=ok_cut_sheetW (P:=l.prog) (w:=w) (base:=base) B  g_cut_sheet q_cut_ringW
 have q_slidW:=ok_slidW (P:=l.prog) (w:=w) (base:=base) B  g_slid q_greatest_divisor
 have q_movedW:=ok_movedW (P:=l.prog) (w:=w) (base:=base) B  g_moved q_slidW
 have q_atK:=ok_atK (P:=l.prog) (w:=w) (base:=base) B  g_at q_greatest_divisor
 have q_uprightW:=ok_uprightW (P:=l.prog) (w:=w) (base:=base) B  g_cut_upright q_cut_sheetW q_atK
 have q_levelW:=ok_levelW (P:=l.prog) (w:=w) (base:=base) B  g_cut_level q_cut_sheetW q_atK
 have q_against:=ok_against (P:=l.prog) (w:=w) (base:=base) B  g_against
 have q_plus:=ok_plus (P:=l.prog) (w:=w) (base:=base) B  g_plus q_greatest_divisor
 have q_minus:=ok_minus (P:=l.prog) (w:=w) (base:=base) B  g_minus q_plus q_against
 have q_unsigned:=ok_unsigned (P:=l.prog) (w:=w) (base:=base) B  g_unsigned
 have q_times:=ok_times (P:=l.prog) (w:=w) (base:=base) B  g_times q_greatest_divisor
 have q_splitW:=ok_splitW (P:=l.prog) (w:=w) (base:=base) B G_NOTHING g_split q_minus q_unsigned q_times q_uprightW q_levelW q_against q_atK q_movedW
 exact ok_law B F0 q_law_cell q_bagB q_slopeT q_drawB q_sizeT q_sheetT q_cornT q_productT q_copiedT q_splitW q_rightT
end Cut
open PySem PySem.W PyProof.Rows
set_option maxRecDepth 100000 in
set_option maxHeartbeats 0 in
theorem PySem.Challenge.cw_slidecut_k38_corner_pieces_split_holds : PySem.Challenge.rw_slidecut_k38_corner_pieces_split.Holds := by
 refine holds_law Cut.said fun said => holds_open (XP := XL PySem.Challenge.pw_slidecut_k38_corner_pieces_split []) (YP := L3.saysH Cut.tabs) Cut.left (L3.ofH Cut.tabs) (L3.keepsH Cut.tabs) (fun s e => xl_of s (Bool.and_eq_true_iff.mp e).1) XL.keeps (by rfl) (by rfl) (by rfl) (fun s e => recFacts_of (Bool.and_eq_true_iff.mp e).2) (by rfl) said (by decide +kernel) ⟨rfl, rfl, rfl, rfl, rfl, by decide +kernel⟩ ?hw ?hc
 case hw => w_witness2
 case hc => exact L3.walkH (k := 9) rfl rfl ⟨rfl, by decide, by decide⟩ fun w K mg fa h Y X G hmg => Cut.all_mk Y X G hmg
#print axioms PySem.Challenge.cw_slidecut_k38_corner_pieces_split_holds