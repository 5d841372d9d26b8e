import PyProof.Rows.All
import Wide.All
import OpenK.AllK
import Wide.FinOn
import Lean
import PyProof.EqAt
import PyProof.EqKinds
import PyProof.TupleCall
import PyProof.AttrMissHeap
import PyProof.Cells
import PyProof.AutoListH
import PyProof.AutoSeq1
import PyProof.SeqI3
import PyProof.Rows.SortWalk
import KE.KSortTup
import PyProof.DictItemsLoops
import PyProof.Rows.Range3
import PyProof.DictRoadsH
import PyProof.DictKinds
import PyProof.DictIter
import PyProof.DictWalks
import PyProof.NeKinds
import PyProof.ExcBaseAll.ValueError
import PyProof.ZipIter
import PyProof.ListCopy
import PyProof.CollectWalk
import KE.KIntText
import KE.KxPart
import PyProof.SliceStr2
import PyProof.Rows.StrFirst
import PyProof.StrLawsFirst
import KE.KxText
import PyProof.StrLawsIn
import PyProof.StrBlockI
import PyProof.Rows.StrNews
import PyProof.EnumMake
import PyProof.EnumFor
import PyProof.EnumStmt
import PyProof.Rows.SetFrom
import PyProof.MinMaxWalk
import PyProof.WalkInts
import PyProof.FactsAll.tuple_1
import PyProof.FactsAll.tuple_2
import PySem.Challenge.RW_slidecut_k46_whole_there_and_back
open Nat renaming le_trans->Gg,le_refl->YK,mod_eq_of_lt->ZW,ne_of_lt->Z0,gcd->Z1,lt_of_lt_of_le->Z7,zero_le->aaa,zero_add->aav,lt_irrefl->aaC,mod_lt->aa1,le_succ->aa8,add_mod_right->abf,mul_add->abk,gcd_dvd_left->abt,ne_of_gt->abF,gcd_dvd_right->abM,dvd_trans->abN,gcd_mul_left->abO,lt_or_ge->abZ,mul_le_mul_left->ab5,le_of_lt->ab9,gcd_comm->acf,eq_of_mul_eq_mul_left->ach,le_of_dvd->ack,le_of_ble_eq_true->acm,mod_self->acw,add_assoc->acB,max_self->acG,pow_succ->acH,le_max_left->acK,le_max_right->acL,gcd_mul_right->acW,lt_of_le_of_lt->ade
open Or renaming inl->Sz,inr->Zh
open Int renaming gcd->YJ,ne_of_gt->YM,mul_pos->Ze,mul_ne_zero->ZN,mul_zero->ZO,mul_neg_of_pos_of_neg->ZP,mul_comm->ZQ,dvd_trans->Z2,le_of_lt->Z4,mul_eq_zero->aab,mul_nonneg->aac,eq_of_mul_eq_mul_right->aaj,gcd_comm->aam,dvd_mul_of_dvd_right->aao,natAbs_mul->aau,zero_mul->aaw,lt_trichotomy->aax,neg_mul_neg->aay,emod_nonneg->aaA,pos_of_mul_pos_right->aaG,mul_neg_of_neg_of_pos->aaJ,emod_lt_of_pos->aaL,mul_assoc->aaN,mul_pos_of_neg_of_neg->aa3,neg_dvd->aa9,mul_fdiv_cancel_left->aa',neg_mul->aba,ofNat_dvd_left->abb,mul_ediv_cancel'->abi,gcd_dvd_right->abr,natAbs_dvd_natAbs->abu,pos_of_mul_pos_left->aby,fdiv_eq_ediv_of_nonneg->abB,neg_gcd->abD,mul_one->abG,gcd_pos_of_ne_zero_right->abK,gcd_dvd_left->abL,lt_or_eq_of_le->abV,mul_nonneg_of_nonpos_of_nonpos->abW,mul_neg->abY,toNat_of_nonneg->ab0,toNat->ab7,gcd_mul_left->acg,dvd_coe_gcd->acr,dvd_sub->acs,add_comm->acu,one_mul->acC,sub_zero->acE,fdiv_eq_ediv_of_dvd->acM,eq_ofNat_of_zero_le->acU,gcd_zero_right->acV,eq_of_mul_eq_mul_left->ac3,gcd_pos_of_ne_zero_left->ac4,natAbs_natCast->ac5,mul_ediv_cancel_left->adg
open List renaming length_map->YL,mem_cons_self->Zd,mem_cons_of_mem->Zf,length_append->Zg,mem_cons->ZA,length_cons->ZC,map_append->ZD,map_cons->ZE,append_nil->ZF,mem_singleton->ZG,replicate->ZI,mem_map->ZJ,mem_append->ZK,getElem?_map->ZL,size_toArray->ZM,length->ZS,getElem?_eq_getElem->ZT,append_assoc->ZU,map_map->ZV,range->ZX,Nodup->ZZ,sum_cons->Z3,nil_append->Z5,forall_mem_nil->Z6,mem_append_right->Z9,getElem?_eq_none->Z',forall_mem_cons->aae,getElem?_append_right->aaf,mem_of_getElem?->aag,cons_append->aah,getElem?_append_left->aai,length_singleton->aal,map_nil->aaq,mem_range->aar,length_take->aat,mem_append_left->aaD,getElem?_set_ne->aaE,length_replicate->aaF,drop_eq_getElem_cons->aaH,map_congr_left->aaK,getElem?_replicate->aaM,getElem?_of_mem->aaO,drop_length->aaP,length_nil->aaQ,mem_filter->aaU,getElem?_set_self->aaV,length_drop->aaX,set_set->aaZ,not_mem_nil->aa2,sum_nil->aa6,getElem?_eq_some_iff->aa7,ext_getElem?->abc,singleton_sublist->abg,flatten_cons->abj,eq_nil_or_concat->abl,concat_eq_append->abm,sum_append->abn,map->abo,length_set->abq,filter_append->abz,nodup_cons->abI,length_range->abQ,getElem?_range->abR,length_filter_le->abX,filter_cons->ab1,isEmpty_map->ab8,filterMap_cons->ab',of_mem_zip->acb,take_of_length_le->aco,take_succ_cons->acp,drop_zero->acq,getElem_mem->acv,dropLast_concat_getLast->acx,exists_mem_of_ne_nil->acy,mem_of_mem_take->acD,dropLast_concat->acF,mem_filterMap->acN,eraseIdx_cons_succ->acR,eraseIdxIfInBounds_toArray->acS,getElem?_eq_none_iff->acY,eq_nil_of_length_eq_zero->acZ,all_eq_true->ac0,sublist_append_right->ac7,length_pos_iff->ac8,filter_cons_of_pos->ac9,filter_cons_of_neg->ac',getElem?_cons_succ->adf,isEmpty_iff->adh,getElem_take->adk,take_append_drop->adl,mem_of_mem_drop->adm,append_cancel_left->adn
open Option.some renaming inj->ZH,injEq->abT
open Bool renaming false_ne_true->ZR,false_eq_true->aan,and_eq_true->aaY,not_true->abh,eq_iff_iff->acn,beq_eq_decide_eq->acT,and_eq_true_iff->ado
open Rat renaming mul_pos->ZY,le_of_lt->aad,mul_le_mul_of_nonneg_right->aaz,intCast_mul->aaI,div_def->aa5,inv_pos->abA,le_of_mul_le_mul_right->abC,div_mul_cancel->ab2,mul_lt_mul_of_pos_right->ab3,intCast_neg->ab4,mul_le_mul_of_nonneg_left->ab6,intCast_add->acz,div_lt_iff->acI,neg_mul->acJ
open Ne renaming symm->Z8
open Classical renaming byContradiction->aak,propDecidable->aa0
open PySem.W renaming kia_one->aap,kitOne->aca,kitx_list->acO,kitx_dict->acP
open False renaming elim->aas
open Prod renaming ext->aaB
open List.cons renaming inj->aaR,injEq->abx
open Sum renaming inl->aaS,inr->aaT
open PySem renaming mem_of_lookup->aaW,Env->abd,natAbs_fdiv_le->aci
open List.Sublist renaming append->aa4,refl->abU,cons_cons->ac6
open Prod.mk renaming injEq->abe
open True renaming intro->abp
open PySem.F renaming plainAttrs_list->abv,slot_list_extend->ac1,type_list_extend->ac2,slot_dict_get->adb,slot_list_pop->adi,type_list_pop->adj
open Option renaming map_some->abw,getD_none->abJ,isSome_iff_exists->acQ,isNone_iff_eq_none->acX,isSome_map->ada
open Array renaming length_toList->abE,getElem?_toList->ace,forIn_toList->acA
open PyProof.Rows renaming callWith_type1->abH,envOfC->abP,slot_tuple_getitem->acd
open ForInStep renaming yield->abS
open PySem.Builtin.Int renaming intBits->acj
set_option Elab.async false
set_option linter.all false
namespace L3
open PySem PySem.W
def oy(h:Heap)(name:Str):Option (Option Value):=match h.get? mainGlobals with
 | some ⟨_,_,.dict es _,_⟩=>(match es.toList.find? (·.key.isStr name)with
   | some e=>some (some e.val)
   | none=>if es.toList.any (·.refKey)then none else some none)
 | _=>none
def xT(h:Heap)(cd:Value)(q:Str):Bool:=match cd with
 | .ref c=>(match h.get? c with
   | some ⟨_,_,.fields vs,_⟩=>(match vs.toList with|_::.str n _::_=>n==q|_=>false)
   | _=>false)
 | _=>false
def uh(h:Heap)(x:Str):Option (Str×Str×Arguments×FuncBody×Scope×Addr×List (Str×Addr)×Value×Addr×Bool):=match oy h x with
 | some (some (.ref f))=>(match h.get? f with
  | some ⟨_,_,.func fd,_⟩=>some (fd.name,fd.qualname,fd.params,fd.body,fd.scope,fd.globals,fd.closure,fd.defaults,fd.builtins,xT h fd.code x)
  | _=>none)
 | _=>none
def ui(x:Str)(st:Stmt):Option (Str×Str×Arguments×FuncBody×Scope×Addr×List (Str×Addr)×Value×Addr×Bool):=match st with
 | .FunctionDef _ a b _ _ _ sc _ _ _=>some (x,x,a,.stmts b,sc,mainGlobals,[],.none,builtinsNs,true)
 | _=>some (x,x,⟨[],[],none,[],[],none,[]⟩,.stmts [],{ kind:=.function,names:=[],isGenerator:=false,isCoroutine:=false },mainGlobals,[],.none,builtinsNs,true)
def uj(h:Heap)(x:Str):Option (Str×Int×Int):=match oy h x with
 | some (some (.ref p))=>(match h.get? p with
  | some ⟨.type "tuple",_,.seq its _,_⟩=>(match its.toList with|[.int i _,.int j _]=>some (x,i,j)|_=>none)
  | _=>none)
 | _=>none
def uk(h:Heap)(x:Str):Option (Str×(Int ⊕ Str)):=match oy h x with
 | some (some (.int i _))=>some (x,.inl i)
 | some (some (.str s _))=>some (x,.inr s)
 | _=>none
abbrev c5(x:Str)(s:Stmt):Str×Stmt:=(x,s)
abbrev JP(x:Str)(i j:Int):Str×Int×Int:=(x,i,j)
structure m1 where
 fs:List (Str×Stmt)
 bs:List Str
 ts:List (Str×Int×Int)
 cs:List (Str×(Int ⊕ Str))
abbrev Seen:Type:=List (Option (Str×Str×Arguments×FuncBody×Scope×Addr×List (Str×Addr)×Value×Addr×Bool))×List (Option (Option Value))×List (Option (Str×Int×Int))×List (Option (Str×(Int ⊕ Str)))
def ry(t:m1)(s:Shared):Seen:=(t.fs.map fun p=>uh s.heap p.1,t.bs.map fun b=>oy s.heap b,t.ts.map fun p=>uj s.heap p.1,t.cs.map fun p=>uk s.heap p.1)
def rz(t:m1)(_:World):Seen:=(t.fs.map fun p=>ui p.1 p.2,t.bs.map fun _=>some none,t.ts.map fun p=>some p,t.cs.map fun p=>some p)
theorem map_two{α β γ:Type}{E:Option α}{F:α->β×γ}{a:β×γ}(aa:E.map (fun s=>(F s).1)=some a.1)(ab:E.map (fun s=>(F s).2)=some a.2):E.map F=some a:=by
 cases E with
 | none=>cases aa
 | some x =>
  have ai:=ZH aa;have av:=ZH ab;exact congrArg some (aaB ai av)
theorem JQ{p q:Program}{loose:List Str}{Xt:Shared->Bool}{α:Type}{Yf:Shared->α}{Ya:World->α}{N:Nat}(aa:∀w:World,(openEnds treeTable p w N).map (fun s=>(openSeen q loose (importedModules p.main.body) Xt true s).1)=some (openGood q loose).1)(ab:∀w:World,(openEnds treeTable p w N).map (fun s=>(openSeen q loose (importedModules p.main.body) Xt true s).2)=some (openGood q loose).2)(aK:∀w:World,(openEnds treeTable p w N).map Yf=some (Ya w)):LeftO p q loose Xt Yf Ya N :=
 fun w=>map_two (F:=fun s=>(openSeen q loose (importedModules p.main.body) Xt true s,Yf s)) (a:=(openGood q loose,Ya w)) (map_two (aa w) (ab w)) (aK w)
end L3
namespace Cut
open PySem L3
def top(i:Nat):Stmt:=PySem.Challenge.pw_slidecut_k46_whole_there_and_back.main.body.getD i (.Pass ⟨0,0,0,0⟩)
abbrev xU:Stmt:=top 6
abbrev um:Stmt:=top 7
abbrev xV:Stmt:=top 8
abbrev xW:Stmt:=top 9
abbrev xX:Stmt:=top 10
abbrev xY:Stmt:=top 11
abbrev xZ:Stmt:=top 12
abbrev x1:Stmt:=top 13
abbrev x2:Stmt:=top 14
abbrev x3:Stmt:=top 16
abbrev x4:Stmt:=top 17
abbrev x5:Stmt:=top 18
abbrev x6:Stmt:=top 19
abbrev x7:Stmt:=top 20
abbrev x8:Stmt:=top 21
abbrev x9:Stmt:=top 23
abbrev x':Stmt:=top 24
abbrev ya:Stmt:=top 25
abbrev yb:Stmt:=top 26
abbrev yc:Stmt:=top 27
abbrev pW:Stmt:=top 28
abbrev yd:Stmt:=top 29
abbrev ye:Stmt:=top 30
abbrev yf:Stmt:=top 32
abbrev yg:Stmt:=top 33
abbrev yh:Stmt:=top 34
abbrev yi:Stmt:=top 35
abbrev yj:Stmt:=top 36
abbrev yk:Stmt:=top 38
abbrev yl:Stmt:=top 39
abbrev ym:Stmt:=top 40
abbrev yn:Stmt:=top 41
abbrev yo:Stmt:=top 42
abbrev yp:Stmt:=top 43
abbrev yq:Stmt:=top 44
abbrev yr:Stmt:=top 45
abbrev yt:Stmt:=top 46
abbrev yu:Stmt:=top 47
abbrev yv:Stmt:=top 48
abbrev yw:Stmt:=top 49
abbrev yx:Stmt:=top 50
abbrev yy:Stmt:=top 51
abbrev yz:Stmt:=top 52
abbrev yA:Stmt:=top 53
abbrev yB:Stmt:=top 54
abbrev yC:Stmt:=top 55
abbrev yD:Stmt:=top 56
abbrev yE:Stmt:=top 58
abbrev yF:Stmt:=top 59
abbrev yG:Stmt:=top 60
abbrev yH:Stmt:=top 61
abbrev yI:Stmt:=top 62
abbrev yJ:Stmt:=top 63
abbrev yK:Stmt:=top 64
abbrev yL:Stmt:=top 65
abbrev yM:Stmt:=top 66
def tabs:m1:=⟨[c5 "greatest_divisor" xU,c5 "plus" um,c5 "minus" xV,c5 "times" xW,c5 "over" xX,c5 "under" xY,c5 "against" xZ,c5 "least_whole" x1,c5 "most_whole" x2,c5 "point" x3,c5 "at" x4,c5 "slid" x5,c5 "crossed" x6,c5 "hand_of" x7,c5 "meet" x8,c5 "cut_ring" x9,c5 "cut_sheet" x',c5 "cut_upright" ya,c5 "cut_level" yb,c5 "moved" yc,c5 "slices" pW,c5 "columns_of" yd,c5 "layers_of" ye,c5 "piled" yf,c5 "in_columns" yg,c5 "in_layers" yh,c5 "in_three" yi,c5 "widened" yj,c5 "_law_cell" yk,c5 "_law_bag" yl,c5 "_law_draw" ym,c5 "_law_measure" yn,c5 "_law_low" yo,c5 "_law_spot" yp,c5 "_law_whole" yq,c5 "_law_line" yr,c5 "_law_count" yt,c5 "_law_part" yu,c5 "_law_left" yv,c5 "_law_is_spot" yw,c5 "_law_is_bulging" yx,c5 "_law_between" yy,c5 "_law_cut" yz,c5 "_law_sheet" yA,c5 "_law_first" yB,c5 "_law_kept" yC,c5 "_law_lies" yD,c5 "_law_product" yE,c5 "_law_less" yF,c5 "_law_pin" yG,c5 "_law_box" yH,c5 "_law_is_box" yI,c5 "_law_is_low" yJ,c5 "_law_size" yK,c5 "_law_is_due" yL,c5 "law" yM],["len","abs","int","bool","tuple","isinstance","range","all","sum","list","ValueError","zip","str","enumerate","set","max","min","sorted","dict"],[JP "NOTHING" 0 1],[]⟩
open PySem.W in
set_option maxRecDepth 100000 in
set_option maxHeartbeats 0 in
theorem said:(PySem.Challenge.rw_slidecut_k46_whole_there_and_back).wellSaid=true:=by kernel_rfl
open PySem.W in
set_option maxRecDepth 100000 in
set_option maxHeartbeats 0 in
theorem JR:∀w:World,(openEnds treeTable (PySem.Challenge.rw_slidecut_k46_whole_there_and_back).row.prog w 20000).map (fun s=>(openSeen PySem.Challenge.pw_slidecut_k46_whole_there_and_back [] (importedModules (PySem.Challenge.rw_slidecut_k46_whole_there_and_back).row.prog.main.body) (fun s=>xlAt PySem.Challenge.pw_slidecut_k46_whole_there_and_back [] s&&recOk (RowW.records (OpenRow.toRowW (PySem.Challenge.rw_slidecut_k46_whole_there_and_back).row)) s) true s).1)=some (openGood PySem.Challenge.pw_slidecut_k46_whole_there_and_back []).1:=fun w=>by kernel_rfl
open PySem.W in
set_option maxRecDepth 100000 in
set_option maxHeartbeats 0 in
theorem JS:∀w:World,(openEnds treeTable (PySem.Challenge.rw_slidecut_k46_whole_there_and_back).row.prog w 20000).map (fun s=>(openSeen PySem.Challenge.pw_slidecut_k46_whole_there_and_back [] (importedModules (PySem.Challenge.rw_slidecut_k46_whole_there_and_back).row.prog.main.body) (fun s=>xlAt PySem.Challenge.pw_slidecut_k46_whole_there_and_back [] s&&recOk (RowW.records (OpenRow.toRowW (PySem.Challenge.rw_slidecut_k46_whole_there_and_back).row)) s) true s).2)=some (openGood PySem.Challenge.pw_slidecut_k46_whole_there_and_back []).2:=fun w=>by kernel_rfl
open PySem.W in
set_option maxRecDepth 100000 in
set_option maxHeartbeats 0 in
theorem JT:∀w:World,(openEnds treeTable (PySem.Challenge.rw_slidecut_k46_whole_there_and_back).row.prog w 20000).map (ry tabs)=some (rz tabs w):=fun w=>by kernel_rfl
open PySem.W in
set_option maxRecDepth 100000 in
set_option maxHeartbeats 0 in
theorem left:LeftO (PySem.Challenge.rw_slidecut_k46_whole_there_and_back).row.prog PySem.Challenge.pw_slidecut_k46_whole_there_and_back [] (fun s=>xlAt PySem.Challenge.pw_slidecut_k46_whole_there_and_back [] s&&recOk (RowW.records (OpenRow.toRowW (PySem.Challenge.rw_slidecut_k46_whole_there_and_back).row)) s) (ry tabs) (rz tabs) 20000:=JQ (p:=(PySem.Challenge.rw_slidecut_k46_whole_there_and_back).row.prog) (q:=PySem.Challenge.pw_slidecut_k46_whole_there_and_back) (loose:=[]) (Xt:=(fun s=>xlAt PySem.Challenge.pw_slidecut_k46_whole_there_and_back [] s&&recOk (RowW.records (OpenRow.toRowW (PySem.Challenge.rw_slidecut_k46_whole_there_and_back).row)) s)) (Yf:=ry tabs) (Ya:=rz tabs) (N:=20000) JR JS JT
end Cut
set_option Elab.async false
set_option linter.all false
set_option maxRecDepth 100000
namespace L2
open PySem PySem.Spec PyProof.Rows
abbrev Key:=Sum Int Str
def CW:Key->Value->Bool
 | .inl k,v=>Value.isInt k v
 | .inr x,v=>Value.isStrOf x v
def JU(w:World):Key->Int
 | .inl k=>hashInt k
 | .inr x=>hashStr w x
theorem l4:∀{k:Key}{v:Value},CW k v=true->(∃i t,k=aaS i/\v=Value.int i t)∨(∃x t,k=aaT x/\v=Value.str x t)
 | .inl i,v,h=>by
  obtain⟨t,e⟩:=Value.isInt_shape (k:=i) (v:=v) h;exact .inl ⟨i,t,rfl,e⟩
 | .inr x,v,h=>by
  obtain⟨t,e⟩:=Value.isStrOf_shape (x:=x) (v:=v) h;exact .inr ⟨x,t,rfl,e⟩
theorem JV(a b:Int):decide ((aaS a:Key)=aaS b)=(a==b):=by
 by_cases e:a=b
 ·subst e;simp
 ·have h:¬(aaS a:Key)=aaS b:=fun q=>e (Sum.inl.inj q);rw[decide_eq_false h];exact(beq_eq_false_iff_ne.mpr e).symm
theorem JW(a b:Str):decide ((aaT a:Key)=aaT b)=decide (a=b):=by
 by_cases e:a=b
 ·subst e;simp
 ·have h:¬(aaT a:Key)=aaT b:=fun q=>e (Sum.inr.inj q);rw[decide_eq_false h,decide_eq_false e]
theorem JX(a:Int)(b:Str):decide ((aaS a:Key)=aaT b)=false:=decide_eq_false (fun q=>nomatch q)
theorem JY(a:Str)(b:Int):decide ((aaT a:Key)=aaS b)=false:=decide_eq_false (fun q=>nomatch q)
def yN(prog:Program)(w:World):PySem.KeyKind prog w Key where
 is:=CW
 hash:=JU w
 inj:=fun v a b ay af=>by
  rcases l4 ay with⟨i,t,rfl,rfl⟩|⟨x,t,rfl,rfl⟩
  ·rcases l4 af with⟨j,u,rfl,e⟩|⟨y,u,rfl,e⟩
   ·injection e with ai _;rw[ai]
   ·exact nomatch e
  ·rcases l4 af with⟨j,u,rfl,e⟩|⟨y,u,rfl,e⟩
   ·exact nomatch e
   ·injection e with ai _;rw[ai]
 byValue:=fun k v h=>by
  rcases l4 h with⟨i,t,rfl,rfl⟩|⟨x,t,rfl,rfl⟩<;>rfl
 pyHash:=fun aP h=>by
  rcases l4 aP with⟨i,t,rfl,rfl⟩|⟨x,t,rfl,rfl⟩
  ·exact wpAny_pyHash_int h
  ·exact wpAny_pyHash_str h
 eqBool:=fun bF aP h=>by
  rcases l4 bF with⟨i,t,rfl,rfl⟩|⟨x,t,rfl,rfl⟩
  ·rcases l4 aP with⟨j,u,rfl,rfl⟩|⟨y,u,rfl,rfl⟩
   ·rw[JV]at h;exact wpAny_eqBool_int h
   ·rw[JX]at h;exact SeqAt.EqAt.int_str i t y u _ _ _ _ h
  ·rcases l4 aP with⟨j,u,rfl,rfl⟩|⟨y,u,rfl,rfl⟩
   ·rw[JY]at h;exact SeqAt.EqAt.str_int x t j u _ _ _ _ h
   ·rw[JW]at h;exact wpAny_eqBool_str h
 «strs» :=fun k x t v h=>by
  rcases l4 h with⟨i,u,rfl,e⟩|⟨y,u,rfl,e⟩
  ·exact nomatch e
  ·injection e with ai _
   subst ai
   cases v<;>rfl
inductive V where
 | non|bl (b:Bool)|int (i:Int)|str (x:Str)|byt (b:Array UInt8)|flt (b:UInt64)|ref (a:Addr)|ty (n:String)
 deriving DecidableEq
def RelV:V->Value->Prop
 | .non,u=>u=Value.none
 | .bl b,u=>u=Value.bool b
 | .int i,u=>∃t,u=Value.int i t
 | .str x,u=>∃t,u=Value.str x t
 | .byt b,u=>∃t,u=Value.bytes b t
 | .flt b,u=>∃t,u=Value.float b t
 | .ref a,u=>u=Value.ref a
 | .ty n,u=>u=Value.type n
abbrev Vals:List V->List Value->Prop:=Paired RelV
theorem Vals.length{xs:List V}{us:List Value}(r:Vals xs us):xs.length=us.length:=Paired.length r
theorem Vals.get:∀{xs:List V}{us:List Value}{i:Nat}{x:V},Vals xs us->xs[i]?=some x->∃u,us[i]?=some u/\RelV x u
 | _,_,_,_,.nil,e=>by simp at e
 | _,_,0,_,.cons r _,e=>by simp at e;subst e;exact⟨_,rfl,r⟩
 | _,_,i+1,x,.cons _ t,e=>by
  obtain⟨u,aa,ab⟩:=Vals.get (i:=i) (x:=x) t (by simpa using e);exact⟨u,by simpa using aa,ab⟩
theorem Vals.set{x:V}{u:Value}(r:RelV x u):∀{xs:List V}{us:List Value}(i:Nat),Vals xs us->Vals (xs.set i x) (us.set i u)
 | _,_,_,.nil=>.nil
 | _,_,0,.cons _ t=>.cons r t
 | _,_,i+1,.cons q t=>.cons q (Vals.set r i t)
theorem Vals.append:∀{xs ys:List V}{us ws:List Value},Vals xs us->Vals ys ws->Vals (xs++ys) (us++ws)
 | _,_,_,_,.nil,s=>s
 | _,_,_,_,.cons r t,s=>.cons r (Vals.append t s)
theorem Vals.take:∀{xs:List V}{us:List Value}(n:Nat),Vals xs us->Vals (xs.take n) (us.take n)
 | _,_,0,_=>.nil
 | _,_,_+1,.nil=>.nil
 | _,_,n+1,.cons r t=>.cons r (Vals.take n t)
theorem Vals.drop:∀{xs:List V}{us:List Value}(n:Nat),Vals xs us->Vals (xs.drop n) (us.drop n)
 | _,_,0,r=>r
 | _,_,_+1,.nil=>.nil
 | _,_,n+1,.cons _ t=>Vals.drop n t
def m2:Option V->Option Value->Prop
 | some v,some u=>RelV v u
 | none,none=>True
 | _,_=>False
def yO{κ:Type}:List (κ×V)->List (κ×Value)->Prop:=Paired fun(p:κ×V)(q:κ×Value)=>p.1=q.1/\RelV p.2 q.2
def kV:Key->V
 | .inl i=>.int i
 | .inr x=>.str x
inductive eS where
 | lst (xs:List V)
 | tup (xs:List V)
 | dK (kvs:List (Key×V))|dT (kvs:List (List Key×V))
 | set (S:Int->Bool) (n:Nat)
 | ins (C d5:Addr) (fs:List (Str×V))
 | own (x:Addr)
 | xd (fs:List (Str×V))
 | met (f x:Addr)
 | rng (lo aB:Int)
 | frz (o:Obj) (u:eS)
 | tbl (ps:Array Value)
 | ext (φ:Heap->Prop)
abbrev ao:=Addr->Option eS
def upd(H:ao)(a:Addr)(o:eS):ao:=fun b=>if b=a then some o else H b
theorem ei{H:ao}{a:Addr}{o:eS}:upd H a o a=some o:=by unfold upd;rw[if_pos rfl]
theorem dM{H:ao}{a b:Addr}{o:eS}(h:b≠a):upd H a o b=H b:=by unfold upd;rw[if_neg h]
theorem m3{H:ao}{a b:Addr}{o:eS}(h:H a=some o)(h':H b=none):a≠b:=by
 intro e;subst e;rw[h]at h';cases h'
section
variable(P:Program)(w:World)
def fQ(H:ao)(h:Heap)(a:Addr):eS->Prop
 | .lst xs=>xs.length<=sizeLine/\∃(its:List Value)(n:Nat),Vals xs its/\h.get? a=some { cls:=.type "list",data:=.seq its.toArray n }
 | .tup xs=>xs.length<=sizeLine/\∃its:List Value,Vals xs its/\IsTup h a its.toArray
 | .dK kvs=>kvs.length<=sizeLine/\(a==sysModules)=false/\∃vs,yO kvs vs/\h.DictOf (yN P w) a vs
 | .dT kvs=>kvs.length<=sizeLine/\(a==sysModules)=false/\∃xs:List (List Key×Addr×Value),
   Paired (fun(p:List Key×V)(q:List Key×Addr×Value)=>p.1=q.1/\H q.2.1=some (.tup (p.1.map kV))/\RelV p.2 q.2.2) kvs xs /\
   ∃o es br,h.get? a=some o/\o.ExactDict/\o.data=.dict es br/\es.toList=xs.map (entryOfKey (tupleKind (yN P w)))/\(xs.map (·.1)).Nodup
 | .set S n=>h.SetOf (intKind P w) a S n
 | .ins C d5 fs=>H d5=some (.own a)/\fs.length<=1000/\d5≠a/\h.get? a=some (PySem.W.instObj C d5) /\
   ∃fp,h.Ns1 d5 fp/\(∀f,m2 (fs.lookup f) (fp f))/\PySem.Within fp (fs.map (·.1))
 | .own _=>∃o,h.get? a=some o
 | .xd fs=>∃fp,h.Ns1 a fp/\∀f,m2 (fs.lookup f) (fp f)
 | .rng lo aB=>∃t u v,h.get? a=some { cls:=.type "range",data:=.fields #[.int lo t,.int aB u,.int 1 v] }
 | .frz o u=>h.get? a=some o/\fQ H h a u
 | .tbl ps=>h.get? a=some { cls:=.none,data:=.fields ps }
 | .met f x=>h.get? a=some (PySem.W.methodObj (.ref f) (.ref x))
 | .ext φ=>φ h/\(∃o,h.get? a=some o)/\∀aa ab:Heap,φ aa->(∀o,aa.get? a=some o->ab.get? a=some o)->φ ab
def ej(H:ao)(h:Heap):Prop:=∀a o,H a=some o->fQ P w H h a o
end
section
variable{P:Program}{w:World}{H H':ao}{h h':Heap}{a:Addr}{o:eS}
theorem fQ.lt(x:fQ P w H h a o):a<h.objs.size:=by
 cases o with
 | lst xs=>obtain⟨_,_,_,_,e⟩:=x;exact Heap.lt_size e
 | tup xs=>obtain⟨_,_,_,p⟩:=x;exact p.lt
 | dK kvs=>obtain⟨_,_,_,_,o,_,_,e,_⟩:=x;exact Heap.lt_size e
 | dT kvs=>obtain⟨_,_,_,_,o,_,_,e,_⟩:=x;exact Heap.lt_size e
 | set S n=>obtain⟨o,_,_,_,e,_⟩:=x;exact Heap.lt_size e
 | ins C d5 fs=>obtain⟨_,_,_,e,_⟩:=x;exact Heap.lt_size e
 | own y=>obtain⟨_,e⟩:=x;exact Heap.lt_size e
 | xd fs=>obtain⟨_,⟨_,_,_,e,_⟩,_⟩:=x;exact Heap.lt_size e
 | rng lo aB=>obtain⟨_,_,_,e⟩:=x;exact Heap.lt_size e
 | frz cI u=>obtain⟨e,_⟩:=x;exact Heap.lt_size e
 | tbl ps=>exact Heap.lt_size (show h.get? a=some _ from x)
 | met f y=>exact Heap.lt_size (show h.get? a=some _ from x)
 | ext φ=>obtain⟨_,⟨_,e⟩,_⟩:=x;exact Heap.lt_size e
theorem Paired.mapP{α β:Type}{F G:α->β->Prop}:∀{CX:List α}{l₂:List β},Paired F CX l₂->(∀a b,F a b->G a b)->Paired G CX l₂
 | _,_,.nil,_=>.nil
 | _,_,.cons r t,f=>.cons (f _ _ r) (Paired.mapP t f)
theorem fQ.stay(x:fQ P w H h a o)(k:∀b u,(b=a∨H b=some (.own a))->h.get? b=some u->h'.get? b=some u)(aE:∀b,H b=some (.own a)->H' b=some (.own a))(bt:∀b xs,H b=some (.tup xs)->H' b=some (.tup xs)):fQ P w H' h' a o:=by
 induction o with
 | lst xs=>obtain⟨z,its,n,r,e⟩:=x;exact⟨z,its,n,r,k _ _ (.inl rfl) e⟩
 | tup xs=>obtain⟨z,its,r,cI,e,c⟩:=x;exact⟨z,its,r,cI,k _ _ (.inl rfl) e,c⟩
 | dK kvs=>obtain⟨z,y,vs,r,cI,es,br,e,c⟩:=x;exact⟨z,y,vs,r,cI,es,br,k _ _ (.inl rfl) e,c⟩
 | dT kvs =>
  obtain⟨z,y,xs,r,cI,es,br,e,c⟩:=x;exact⟨z,y,xs,Paired.mapP r fun p q z=>⟨z.1,bt _ _ z.2.1,z.2.2⟩,cI,es,br,k _ _ (.inl rfl) e,c⟩
 | set S n=>obtain⟨cI,es,br,t,e,c⟩:=x;exact⟨cI,es,br,t,k _ _ (.inl rfl) e,c⟩
 | ins C d5 fs =>
  obtain⟨d,z,ne,e,fp,⟨od,es,br,av,c⟩,r⟩:=x;exact⟨aE _ d,z,ne,k _ _ (.inl rfl) e,fp,⟨od,es,br,k _ _ (.inr d) av,c⟩,r⟩
 | own y=>obtain⟨cI,e⟩:=x;exact⟨cI,k _ _ (.inl rfl) e⟩
 | xd fs=>obtain⟨fp,⟨od,es,br,e,c⟩,r⟩:=x;exact⟨fp,⟨od,es,br,k _ _ (.inl rfl) e,c⟩,r⟩
 | rng lo aB=>obtain⟨t,u,v,e⟩:=x;exact⟨t,u,v,k _ _ (.inl rfl) e⟩
 | frz cI u c0=>obtain⟨e,q⟩:=x;exact⟨k _ _ (.inl rfl) e,c0 q⟩
 | tbl ps =>
  have e:h.get? a=some { cls:=.none,data:=.fields ps }:=x;show h'.get? a=some { cls:=.none,data:=.fields ps }
  exact k a _ (.inl rfl) e
 | met f y =>
  have e:h.get? a=some (PySem.W.methodObj (.ref f) (.ref y)):=x;show h'.get? a=some (PySem.W.methodObj (.ref f) (.ref y))
  exact k a _ (.inl rfl) e
 | ext φ=>obtain⟨p,⟨o,e⟩,st⟩:=x;exact⟨st _ _ p fun o q=>k _ _ (.inl rfl) q,⟨o,k _ _ (.inl rfl) e⟩,st⟩
theorem ej.lt(x:ej P w H h)(e:H a=some o):a<h.objs.size:=(x a o e).lt
theorem ej.fresh(x:ej P w H h)(e:h.objs.size<=a):H a=none:=by
 cases q:H a with
 | none=>rfl
 | some u=>exact absurd (Z7 (x.lt q) e) (aaC _)
theorem ej.kept(x:ej P w H h)(k:∀b u,h.get? b=some u->h'.get? b=some u):ej P w H h':=fun a o e =>
 (x a o e).stay (fun b u _ q=>k b u q) (fun _ q=>q) fun _ _ q=>q
theorem ej.laid(x:ej P w H h)(k:∀b u,h.get? b=some u->h'.get? b=some u)(ag:h.objs.size<=a)(new:fQ P w (upd H a o) h' a o):ej P w (upd H a o) h':=fun b u e=>by
 have aN:=x.fresh ag;by_cases af:b=a
 ·subst af;rw[ei]at e;cases e;exact new
 ·rw[dM af]at e;exact(x b u e).stay (fun c v _ q=>k c v q) (fun c q=>by rw[dM (m3 q aN)];exact q) fun c xs q=>by rw[dM (m3 q aN)];exact q
end
def uo(H:ao)(a:Addr)(u:eS):Prop:=H a=some u∨∃o,H a=some (.frz o u)
theorem uo.ok{P:Program}{w:World}{H:ao}{h:Heap}{a:Addr}{u:eS}(r:uo H a u)(x:ej P w H h):fQ P w H h a u:=by
 rcases r with r|⟨o,r⟩
 ·exact x a u r
 ·obtain⟨_,q⟩:=x a _ r;exact q
def uq:Option eS->Prop
 | some (.lst _)=>True
 | some (.dK _)=>True
 | some (.dT _)=>True
 | some (.set _ _)=>True
 | some (.ins _ _ _)=>True
 | some (.ext _)=>True
 | _=>False
section
variable{P:Program}{w:World}{H:ao}{h h':Heap}{x e:Addr}{e3:eS}
theorem ej.write(ok:ej P w H h)(f3:uq (H x))(he:e=x∨H e=some (.own x))(k:∀b u,b≠e->h.get? b=some u->h'.get? b=some u)(pX:∃u,h'.get? e=some u)(new:fQ P w (upd H x e3) h' x e3):ej P w (upd H x e3) h':=fun b u q=>by
 have CY:∀c y,H c=some (.own y)->c≠x:=fun c y r z=>by subst z;rw[r]at f3;exact f3
 have JZ:∀c xs,H c=some (.tup xs)->c≠x:=fun c xs r z=>by subst z;rw[r]at f3;exact f3
 by_cases af:b=x
 ·subst af;rw[ei]at q;cases q;exact new
 ·rw[dM af]at q;by_cases oz:b=e
  ·have gk:H b=some (.own x):=by
    rcases he with z|z
    ·exact absurd (oz.trans z) af
    ·rw[oz];exact z
   rw[q]at gk;cases gk;obtain⟨v,aP⟩:=pX;exact⟨v,by rw[oz];exact aP⟩
  ·refine(ok b u q).stay (fun c v hc r=>k c v ?_ r) (fun c r=>by rw[dM (CY c b r)];exact r) fun c xs r=>by rw[dM (JZ c xs r)];exact r
   rcases hc with rfl|hc
   ·exact oz
   ·rintro rfl;rcases he with z|z
    ·exact CY c b hc z
    ·rw[hc]at z;cases z;exact af rfl
end
structure fq (fs ex:List Addr) (H H':ao) (h h':Heap):Prop where
 keep:∀b o,h.get? b=some o->H b=none->b∉fs->b∉ex->h'.get? b=some o
 slot:∀b o,h.get? b=some o->H b=none->b∈fs->b∉ex->∃sl,h'.get? b=some { o with slots:=sl }
 free:∀b o,h.get? b=some o->H b=none->b∉ex->H' b=none
 there:∀b o,h.get? b=some o->b∉ex->∃e3,h'.get? b=some e3
 tups:∀b xs,H b=some (.tup xs)->H' b=some (.tup xs)
 frzs:∀b o u,H b=some (.frz o u)->H' b=some (.frz o u)
 tbls:∀b ps,H b=some (.tbl ps)->∃more,H' b=some (.tbl (ps++more))
section
variable{fs J0 ex YG:List Addr}{H H1 aZ:ao}{h aa ab h':Heap}{a x e:Addr}{o:eS}
theorem fq.any(u:fq fs ex H H1 h aa){b:Addr}{cI:Obj}(q:h.get? b=some cI)(n:H b=none)(aC:b∉ex):∃sl,aa.get? b=some { cI with slots:=sl }:=by
 by_cases af:b∈fs
 ·exact u.slot b cI q n af aC
 ·exact⟨cI.slots,u.keep b cI q n af aC⟩
theorem fq.kept(k:∀b u,h.get? b=some u->h'.get? b=some u):fq fs ex H H h h' :=
 ⟨fun b cI q _ _ _=>k b cI q,fun b cI q _ _ _=>⟨cI.slots,k b cI q⟩,fun _ _ _ n _=>n,fun b cI q _=>⟨cI,k b cI q⟩,fun _ _ q=>q,fun _ _ _ q=>q,fun _ ps q=>⟨#[],by rw[q];simp⟩⟩
theorem fq.refl:fq fs ex H H h h:=fq.kept fun _ _ q=>q
theorem fq.laid(k:∀b u,h.get? b=some u->h'.get? b=some u)(ag:h.objs.size<=a)(aN:H a=none):fq fs ex H (upd H a o) h h' where
 keep:=fun b u q _ _ _=>k b u q
 slot:=fun b u q _ _ _=>⟨u.slots,k b u q⟩
 free:=fun b u q n _=>by rw[dM (Z0 (Z7 (Heap.lt_size q) ag))];exact n
 there:=fun b u q _=>⟨u,k b u q⟩
 tups:=fun b xs q=>by rw[dM (m3 q aN)];exact q
 frzs:=fun b u xs q=>by rw[dM (m3 q aN)];exact q
 tbls:=fun b ps q=>⟨#[],by rw[dM (m3 q aN),q];simp⟩
theorem fq.write(f3:uq (H x))(he:e=x∨H e=some (.own x))(k:∀b u,b≠e->h.get? b=some u->h'.get? b=some u)(pX:∃u,h'.get? e=some u):fq fs ex H (upd H x o) h h':=by
 have aC:∀b,H b=none->b≠x:=fun b n z=>by subst z;rw[n]at f3;exact f3
 have af:∀b,H b=none->b≠e:=fun b n z=>by
  subst z;rcases he with r|r
  ·exact aC b n r
  ·rw[n]at r;cases r
 have hm:∀b u,H b=some u->¬uq (some u)->b≠x:=fun b u q nm z=>by subst z;rw[q]at f3;exact nm f3
 refine⟨fun b u q n _ _=>k b u (af b n) q,fun b u q n _ _=>⟨u.slots,k b u (af b n) q⟩,fun b u q n _=>by rw[dM (aC b n)];exact n,fun b u q _=>?_,
  fun b xs q=>by rw[dM (hm b _ q fun z=>z)];exact q,fun b u xs q=>by rw[dM (hm b _ q fun z=>z)];exact q,fun b ps q=>⟨#[],by rw[dM (hm b _ q fun z=>z),q];simp⟩⟩
 by_cases oz:b=e
 ·subst oz;exact pX
 ·exact⟨u,k b u oz q⟩
end
def ur(h:Heap)(H:ao):List Addr:=(ZX h.objs.size).filter fun a=>(H a).isSome
def l5(h:Heap)(H:ao):Heap:=PySem.W.hideAll h (ur h H)
theorem J1(h:Heap)(H:ao):(l5 h H).objs.size=h.objs.size:=PySem.W.hideAll_size _ _
theorem J2{h:Heap}{H:ao}{b:Addr}{o:Obj}(e:h.get? b=some o)(n:H b=none):(l5 h H).get? b=some o :=
 PySem.W.hideAll_get _ e fun hm=>by
  have q:(H b).isSome=true:=(aaU.mp hm).2;rw[n]at q;simp at q
theorem J3{h:Heap}{H:ao}{b:Addr}{o:Obj}(e:(l5 h H).get? b=some o):h.get? b=some o/\H b=none:=by
 have aU:h.get? b=some o:=PySem.W.of_hideAll (ur h H) e;refine⟨aU,?_⟩;cases q:H b with
 | none=>rfl
 | some x =>
  have hm:b∈ur h H:=aaU.mpr ⟨aar.mpr (Heap.lt_size aU),by simp[q]⟩;have z:(l5 h H).get? b=none:=PySem.W.hideAll_none (ur h H) hm;rw[z]at e;cases e
structure Mod (K:PySem.W.Frag) (mg:Str->Option Value) (base:Heap):Prop where
 kin:K.In base
 glob:base.Ns mainGlobals mg
 blt:∃gn,base.Ns builtinsNs gn/\∀x:Str,x≠"__name__"->gn x=bootBuiltins x
 nolimit:base.NoLimit
structure aM where
 prog:Program
 w:World
 K:PySem.W.Frag
 mg:Str->Option Value
 base:Heap
 A:Around
 N:List Str
 s₀:Shared
 H₀:ao
 env:Env
 outer:List Env
 stack:List Env
 ex:List Addr
 fn:Str->Bool
 calm:Bool
 pn:List (Addr×Obj)
 xe:Value->Shared->Prop
def jD(l:List Env):List Addr:=l.filterMap (·.frame)
abbrev aM.fs(X:aM):List Addr:=jD X.outer
def gF(sc:Scope)(x:Str):Prop:=sc.names.lookup x=some .local∨sc.names.lookup x=some .cell∨sc.names.lookup x=some .free
def Loc(sc:Scope)(x:Str):Prop:=sc.names.lookup x=some .local∨sc.names.lookup x=some .cell
def Look(env:Env)(h:Heap)(m:Str->Option Value)(x:Str)(u:Value):Prop :=
 (env.kindOf x=some .local/\m x=some u)∨((env.kindOf x=some .cell∨env.kindOf x=some .free)/\∃c,env.cells.lookup x=some c/\h.IsCell c (some u))
structure aM.Ok (X:aM):Prop where
 mod:Mod X.K X.mg X.base
 kind:X.env.scope.kind=.function
 glob:X.env.globals=mainGlobals
 blt:X.env.builtins=builtinsNs
 above:X.s₀.heap.objs.size<=X.env.locals
 inj:∀x y c,X.env.cells.lookup x=some c->X.env.cells.lookup y=some c->x=y
 has:∀x,(X.env.kindOf x=some .cell∨X.env.kindOf x=some .free)->∃c,X.env.cells.lookup x=some c
 cab:∀x c,X.fn x=true->X.env.cells.lookup x=some c->X.s₀.heap.objs.size<=c
 hd:X.calm=true->X.A.handled=none
 frames:X.A.frames=some X.stack
 stk:X.stack=X.outer∨(X.stack=X.env::X.outer/\X.env.frame=some X.env.locals)
 exf:∀b∈X.ex,b≠X.env.locals/\∀x c,X.env.cells.lookup x=some c->c≠b
 bs:∀b o,X.base.get? b=some o->X.s₀.heap.get? b=some o/\X.H₀ b=none
 bsz:X.base.objs.size<=X.s₀.heap.objs.size
 noex:∀b o,X.base.get? b=some o->b∉X.ex
 exfs:∀b∈X.ex,b∉X.fs
 funs:X.s₀.heap.FunFrames X.base X.outer
 frf:∀b∈X.fs,X.H₀ b=none
structure Inv (X:aM) (pins:List (Addr×Obj)) (σ:List (Option V)) (H:ao) (s:Shared):Prop where
 ok:X.Ok
 os:s.os=X.s₀.os
 bare:AllBare s.gens
 base:fq X.fs X.ex X.H₀ H X.s₀.heap s.heap
 loc:∃m,s.heap.Ns X.env.locals m/\∀(i:Nat)(x:Str)(v:V),X.N[i]?=some x->σ[i]?=some (some v)->gF X.env.scope x->∃u,RelV v u/\Look X.env s.heap m x u
 cell:∀x c,X.env.cells.lookup x=some c->∃v,s.heap.IsCell c v
 free:H X.env.locals=none
 freeC:∀x c,X.env.cells.lookup x=some c->H c=none
 pin:∀p∈X.pn++pins,s.heap.get? p.1=some p.2/\H p.1=none/\p.1≠X.env.locals/\p.1∉X.fs/\∀v,p.2.data≠.cell v
 hok:ej X.prog X.w H s.heap
 len:σ.length=X.N.length
section
variable{X:aM}{pins:List (Addr×Obj)}{σ:List (Option V)}{H H':ao}{s:Shared}{h':Heap}
theorem aM.Ok.nofr(ok:X.Ok){b:Addr}{o:Obj}(e:X.base.get? b=some o):b∉X.fs:=fun af=>by
 have:=(ok.funs.mem af).1;rw[e]at this;cases this
theorem Inv.bs(I:Inv X pins σ H s):∀b o,X.base.get? b=some o->s.heap.get? b=some o/\H b=none:=fun b o e =>
 ⟨I.base.keep b o (I.ok.bs b o e).1 (I.ok.bs b o e).2 (I.ok.nofr e) (I.ok.noex b o e),I.base.free b o (I.ok.bs b o e).1 (I.ok.bs b o e).2 (I.ok.noex b o e)⟩
theorem Inv.bk(I:Inv X pins σ H s):∀b o,X.base.get? b=some o->s.heap.get? b=some o:=fun b o e=>(I.bs b o e).1
theorem Inv.mod(I:Inv X pins σ H s):Mod X.K X.mg X.base:=I.ok.mod
theorem Inv.kIn(I:Inv X pins σ H s):X.K.In s.heap:=I.ok.mod.kin.keeps I.bk
theorem Inv.lt(I:Inv X pins σ H s):X.env.locals<s.heap.objs.size:=let⟨_,aN,_⟩:=I.loc;aN.lt
theorem Inv.sz(I:Inv X pins σ H s):X.s₀.heap.objs.size<=s.heap.objs.size:=Gg I.ok.above (ab9 I.lt)
theorem Inv.nofs(I:Inv X pins σ H s){a:Addr}(h:s.heap.objs.size<=a):a∉X.fs:=fun af=>by
 obtain⟨_,o,aE,_⟩:=I.ok.funs.mem af;exact absurd (Z7 (Heap.lt_size aE) (Gg I.sz h)) (aaC _)
theorem Inv.cne(I:Inv X pins σ H s):∀x c,X.env.cells.lookup x=some c->c≠X.env.locals:=fun x c e z=>by
 obtain⟨v,o,aE,hd⟩:=I.cell x c e;obtain⟨m,⟨e3,es,br,oA,m4,_⟩,_⟩:=I.loc;rw[z,oA]at aE;cases aE;rw[m4]at hd;cases hd
theorem Inv.funs(I:Inv X pins σ H s):s.heap.FunFrames X.base X.outer:=by
 have all:∀(l:List Env),(∀b∈jD l,b∈X.fs)->X.s₀.heap.FunFrames X.base l->s.heap.FunFrames X.base l:=by
  intro l;induction l with
  | nil=>intro _ _;trivial
  | cons env r c0 =>
   intro aq aj;obtain⟨ah,⟨L,o,hf,aN,aE,hd⟩,ak⟩:=aj;have eT:L∈X.fs:=aq L (by unfold jD;rw[ab',hf];exact Zd);obtain⟨sl,e⟩:=I.base.slot L o aE (I.ok.frf L eT) eT fun z=>I.ok.exfs L z eT;exact⟨ah,⟨L,_,hf,aN,e,hd⟩,c0 (fun b af=>aq b (by unfold jD;rw[ab',hf];exact Zf _ af)) ak⟩
 exact all X.outer (fun _ af=>af) I.ok.funs
theorem Inv.stack(I:Inv X pins σ H s):s.heap.FunFrames X.base X.stack:=by
 rcases I.ok.stk with e|⟨e,hf⟩
 ·rw[e];exact I.funs
 ·rw[e];obtain⟨m,aN,_⟩:=I.loc;refine .cons (by rw[I.ok.kind];decide) hf aN ?_ I.funs;exact Heap.get?_none_of_le (Gg I.ok.bsz I.ok.above)
theorem Inv.stkSub(I:Inv X pins σ H s):∀b∈jD X.stack,b∈X.env.locals::X.fs:=fun b af=>by
 rcases I.ok.stk with e|⟨e,hf⟩
 ·rw[e]at af;exact Zf _ af
 ·rw[e]at af;unfold jD at af;rw[ab',hf]at af;exact af
theorem Inv.stkFree(I:Inv X pins σ H s):∀b∈jD X.stack,H b=none:=fun b af=>by
 rcases ZA.mp (I.stkSub b af)with e|af
 ·rw[e];exact I.free
 ·obtain⟨_,o,aE,_⟩:=I.ok.funs.mem af;exact I.base.free b o aE (I.ok.frf b af) fun z=>I.ok.exfs b z af
theorem Inv.step{g':Array GenState}{t':Nat}{d':Drawn}{ch:List Addr}(I:Inv X pins σ H s)(k7:∀b∈ch,(b∈X.ex∨X.s₀.heap.objs.size<=b)/\b≠X.env.locals/\(∀x c,X.env.cells.lookup x=some c->c≠b)/\∀p∈X.pn++pins,p.1≠b)(keep:∀b o,b≠X.env.locals->b∉X.fs->b∉ch->s.heap.get? b=some o->H b=none->h'.get? b=some o)(slot:∀b o,b≠X.env.locals->b∈X.fs->b∉ch->s.heap.get? b=some o->H b=none->∃sl,h'.get? b=some { o with slots:=sl })(free:∀b o,b∉ch->s.heap.get? b=some o->H b=none->H' b=none)(there:∀b o,b∉ch->s.heap.get? b=some o->∃e3,h'.get? b=some e3)(tups:∀b xs,H b=some (.tup xs)->H' b=some (.tup xs))(frzs:∀b o u,H b=some (.frz o u)->H' b=some (.frz o u))(tbls:∀b ps,H b=some (.tbl ps)->∃more,H' b=some (.tbl (ps++more)))(ns:∀m,s.heap.Ns X.env.locals m->h'.Ns X.env.locals m)(hok:ej X.prog X.w H' h')(aD:AllBare g'):
  Inv X pins σ H' { s with heap:=h',gens:=g',drawn:=d',toks:=t' }:=by
 have CZ:∀b o,X.s₀.heap.get? b=some o->b≠X.env.locals:=fun b o e=>Z0 (Z7 (Heap.lt_size e) I.ok.above)
 have uu:∀b o,X.s₀.heap.get? b=some o->b∉X.ex->b∉ch:=fun b o e aC af=>by
  rcases(k7 b af).1 with z|z
  ·exact aC z
  ·exact absurd (Z7 (Heap.lt_size e) z) (aaC _)
 have cellK:∀x c,X.env.cells.lookup x=some c->∀v,s.heap.IsCell c v->h'.IsCell c v:=fun x c e v ⟨o,aE,hd⟩=>by
  have rA:c∉ch:=fun z=>(k7 c z).2.2.1 x c e rfl;by_cases hc:c∈X.fs
  ·obtain⟨sl,q⟩:=slot c o (I.cne x c e) hc rA aE (I.freeC x c e);exact⟨_,q,hd⟩
  ·exact⟨o,keep c o (I.cne x c e) hc rA aE (I.freeC x c e),hd⟩
 refine⟨I.ok,I.os,aD,⟨fun b o e n af aC=>?_,fun b o e n af aC=>?_,fun b o e n aC=>?_,fun b o e aC=>?_,fun b xs e=>tups b xs (I.base.tups b xs e),fun b o xs e=>frzs b o xs (I.base.frzs b o xs e),fun b ps e=>?_⟩,?_,fun x c e=>?_,?_,fun x c e=>?_,fun p ag=>?_,hok,I.len⟩
 ·exact keep b o (CZ b o e) af (uu b o e aC) (I.base.keep b o e n af aC) (I.base.free b o e n aC)
 ·obtain⟨sl,ai⟩:=I.base.slot b o e n af aC;obtain⟨J4,av⟩:=slot b _ (CZ b o e) af (uu b o e aC) ai (I.base.free b o e n aC);exact⟨J4,av⟩
 ·obtain⟨e3,ai⟩:=I.base.there b o e aC;exact free b e3 (uu b o e aC) ai (I.base.free b o e n aC)
 ·obtain⟨e3,ai⟩:=I.base.there b o e aC;exact there b e3 (uu b o e aC) ai
 ·obtain⟨bw,ai⟩:=I.base.tbls b ps e;obtain⟨b3,av⟩:=tbls b _ ai;exact⟨bw++b3,by rw[av,Array.append_assoc]⟩
 ·obtain⟨m,aN,aj⟩:=I.loc;refine⟨m,ns m aN,fun i x v ai av bC=>?_⟩;obtain⟨u,r,l⟩:=aj i x v ai av bC;refine⟨u,r,?_⟩;rcases l with l|⟨k,c,e,z⟩
  ·exact .inl l
  ·exact .inr ⟨k,c,e,cellK x c e _ z⟩
 ·obtain⟨v,z⟩:=I.cell x c e;exact⟨v,cellK x c e v z⟩
 ·obtain⟨m,⟨o,_,_,aE,_⟩,_⟩:=I.loc;exact free _ o (fun z=>(k7 _ z).2.1 rfl) aE I.free
 ·obtain⟨v,o,aE,hd⟩:=I.cell x c e;exact free c o (fun z=>(k7 c z).2.2.1 x c e rfl) aE (I.freeC x c e)
 ·obtain⟨e,n,ne,pY,d⟩:=I.pin p ag;have rA:p.1∉ch:=fun z=>(k7 p.1 z).2.2.2 p ag rfl;exact⟨keep p.1 p.2 ne pY rA e n,free p.1 p.2 rA e n,ne,pY,d⟩
theorem Inv.un{t':Nat}(I:Inv X pins σ H s)(u:fq X.fs [] H H' s.heap h')(hok:ej X.prog X.w H' h'):Inv X pins σ H' { s with heap:=h',toks:=t' }:=by
 obtain⟨m,⟨o,es,br,aE,r⟩,_⟩:=id I.loc;obtain⟨sl,eT⟩:=u.any aE I.free (by simp)
 exact I.step (g':=s.gens) (d':=s.drawn) (ch:=[]) (fun _ z=>nomatch z) (fun b o _ af _ e n=>u.keep b o e n af (by simp)) (fun b o _ af _ e n=>u.slot b o e n af (by simp)) (fun b o _ e n=>u.free b o e n (by simp)) (fun b o _ e=>u.there b o e (by simp)) u.tups u.frzs u.tbls (fun m' hm=>by
  obtain⟨e3,oB,jc,oA,d0⟩:=hm;rw[aE]at oA;cases oA
  exact⟨_,oB,jc,eT,d0⟩) hok I.bare
theorem Inv.call{g':Array GenState}{t':Nat}{d':Drawn}{ch:List Addr}(I:Inv X pins σ H s)(u:fq (jD X.stack) ch H H' s.heap h')(hok:ej X.prog X.w H' h')(aD:AllBare g')(k7:∀b∈ch,(b∈X.ex∨X.s₀.heap.objs.size<=b)/\b≠X.env.locals/\(∀x c,X.env.cells.lookup x=some c->c≠b)/\∀p∈X.pn++pins,p.1≠b):
  Inv X pins σ H' { s with heap:=h',gens:=g',drawn:=d',toks:=t' }:=by
 obtain⟨m,⟨o,es,br,aE,r⟩,_⟩:=id I.loc;obtain⟨sl,eT⟩:=u.any aE I.free fun z=>(k7 _ z).2.1 rfl
 exact I.step (ch:=ch) k7 (fun b o eT af hc e n=>u.keep b o e n (fun z=>(ZA.mp (I.stkSub b z)).elim eT af) hc) (fun b o _ _ hc e n=>u.any e n hc) (fun b o hc e n=>u.free b o e n hc) (fun b o hc e=>u.there b o e hc) u.tups u.frzs u.tbls (fun m' hm=>by
  obtain⟨e3,oB,jc,oA,d0⟩:=hm;rw[aE]at oA;cases oA
  exact⟨_,oB,jc,eT,d0⟩) hok aD
theorem Inv.turned{t':Nat}{it:Addr}(I:Inv X pins σ H s)(k:∀b o,b≠it->s.heap.get? b=some o->h'.get? b=some o)(aN:H it=none)(eT:it≠X.env.locals)(aa:it∈X.ex∨X.s₀.heap.objs.size<=it)(ab:∀x c,X.env.cells.lookup x=some c->c≠it)(aK:∀p∈X.pn++pins,p.1≠it):Inv X pins σ H { s with heap:=h',toks:=t' }:=by
 have oC:∀b u,H b=some u->b≠it:=fun b u e z=>by rw[z,aN]at e;cases e
 refine I.step (g':=s.gens) (d':=s.drawn) (ch:=[it]) (fun b af=>?_) (fun b o _ _ hc e _=>k b o (fun z=>hc (by simp[z])) e) (fun b o _ _ hc e _=>⟨o.slots,k b o (fun z=>hc (by simp[z])) e⟩) (fun _ _ _ _ n=>n)
  (fun b o hc e=>⟨o,k b o (fun z=>hc (by simp[z])) e⟩) (fun _ _ e=>e) (fun _ _ _ e=>e) (fun b ps e=>⟨#[],by rw[e];simp⟩) (fun m hm=>?_) (fun b u e=>?_) I.bare
 ·have e:b=it:=by simpa using af
  subst e;exact⟨aa,eT,ab,aK⟩
 ·obtain⟨o,es,br,aE,r⟩:=hm;exact⟨o,es,br,k _ o (Z8 eT) aE,r⟩
 ·refine(I.hok b u e).stay (fun c v hc q=>k c v ?_ q) (fun _ q=>q) fun _ _ q=>q;rcases hc with z|z
  ·rw[z];exact oC b u e
  ·exact oC c _ z
theorem Inv.tok(I:Inv X pins σ H s)(t:Nat):Inv X pins σ H { s with toks:=t }:=I.un (h':=s.heap) (t':=t) fq.refl I.hok
theorem Inv.kept{t':Nat}(I:Inv X pins σ H s)(k:∀b u,s.heap.get? b=some u->h'.get? b=some u):Inv X pins σ H { s with heap:=h',toks:=t' }:=I.un (fq.kept k) (I.hok.kept k)
theorem Inv.laid{a:Addr}{o:eS}{t':Nat}(I:Inv X pins σ H s)(k:∀b u,s.heap.get? b=some u->h'.get? b=some u)(ag:s.heap.objs.size<=a)(new:fQ X.prog X.w (upd H a o) h' a o):
  Inv X pins σ (upd H a o) { s with heap:=h',toks:=t' }:=I.un (fq.laid k ag (I.hok.fresh ag)) (I.hok.laid k ag new)
theorem Inv.write{x e:Addr}{o:eS}{t':Nat}(I:Inv X pins σ H s)(f3:uq (H x))(he:e=x∨H e=some (.own x))(k:∀b u,b≠e->s.heap.get? b=some u->h'.get? b=some u)(pX:∃u,h'.get? e=some u)(new:fQ X.prog X.w (upd H x o) h' x o):Inv X pins σ (upd H x o) { s with heap:=h',toks:=t' }:=I.un (fq.write f3 he k pX) (I.hok.write f3 he k pX new)
theorem Inv.pins_of{C0:List (Addr×Obj)}(I:Inv X pins σ H s)(h:∀p∈C0,s.heap.get? p.1=some p.2/\H p.1=none/\p.1≠X.env.locals/\p.1∉X.fs/\∀v,p.2.data≠.cell v):Inv X C0 σ H s :=
 ⟨I.ok,I.os,I.bare,I.base,I.loc,I.cell,I.free,I.freeC,fun p ag=>(ZK.mp ag).elim (fun z=>I.pin p (aaD _ z)) (h p),I.hok,I.len⟩
theorem C1{N:List Str}(bI:N.Nodup){i j:Nat}{x:Str}(a:N[i]?=some x)(b:N[j]?=some x):i=j:=by
 obtain⟨aa,ai⟩:=aa7.mp a;obtain⟨ab,av⟩:=aa7.mp b;exact(List.getElem_inj bI).mp (ai.trans av.symm)
theorem J5{M:Model}{A:Around}{E:Value->Shared->Prop}{i:Nat}{x:Str}{v:V}{u:Value}{Q:Unit->Shared->Prop}(I:Inv X pins σ H s)(bI:X.N.Nodup)(aB:X.N[i]?=some x)(aC:Loc X.env.scope x)(r:RelV v u)(h:∀s',Inv X pins (σ.set i (some v)) H s'->(∃a,Heap.SameBut a s.heap s'.heap/\(a=X.env.locals∨X.env.cells.lookup x=some a))->Q () s')(hf:X.fn x=true∨X.env.scope.names.lookup x=some .local:=by first|exact .inl rfl|exact .inr rfl|assumption):wpAny M A (storeName X.env x u) Q E s:=by
 obtain⟨m,aN,aj⟩:=id I.loc;have J6:(X.env.scope.kind==.class||(X.env.scope.kind==.module&&X.env.locals != X.env.globals))=false:=by rw[I.ok.kind];rfl
 have C2:i<σ.length:=by rw[I.len];exact(aa7.mp aB).1
 have cne:=I.cne
 have tracked:∀{a:Addr}{h':Heap},(∃o,s.heap.get? a=some o/\H a=none)->Heap.SameBut a s.heap h'->ej X.prog X.w H h':=fun{a h'} ay aq b cI e=>by
  obtain⟨_,_,C3⟩:=ay;refine(I.hok b cI e).stay (fun c k8 hc q=>(aq.2 c ?_).trans q) (fun _ q=>q) fun _ _ q=>q;rintro rfl;rcases hc with rfl|hc
  ·rw[C3]at e;cases e
  ·rw[C3]at hc;cases hc
 rcases aC with ah|ah
 ·refine wpAny_storeName_local ah aN (fun h' J7 aq=>?_) J6;obtain⟨J8,_,_,J9,_⟩:=id aN;refine h _ ⟨I.ok,I.os,I.bare,⟨fun b o e n af aC=>?_,fun b o e n af aC=>?_,I.base.free,fun b o e aC=>?_,I.base.tups,I.base.frzs,I.base.tbls⟩,⟨_,J7,fun j y rB ai av bC=>?_⟩,fun y c e=>?_,I.free,I.freeC,fun p ag=>?_,tracked ⟨J8,J9,I.free⟩ aq,by simpa using I.len⟩ ⟨_,aq,.inl rfl⟩
  ·exact(aq.2 b (Z0 (Z7 (Heap.lt_size e) I.ok.above))).trans (I.base.keep b o e n af aC)
  ·obtain⟨sl,ai⟩:=I.base.slot b o e n af aC;exact⟨sl,(aq.2 b (Z0 (Z7 (Heap.lt_size e) I.ok.above))).trans ai⟩
  ·obtain⟨e3,ai⟩:=I.base.there b o e aC;exact⟨e3,(aq.2 b (Z0 (Z7 (Heap.lt_size e) I.ok.above))).trans ai⟩
  ·by_cases bZ:j=i
   ·subst bZ;rw[aB]at ai;cases ai;rw[aaV C2]at av;cases av;exact⟨u,r,.inl ⟨ah,by simp⟩⟩
   ·rw[aaE (Z8 bZ)]at av;obtain⟨ek,d0,q⟩:=aj j y rB ai av bC;refine⟨ek,d0,?_⟩;rcases q with⟨k,e⟩|⟨k,c,e,z⟩
    ·refine .inl ⟨k,?_⟩;have:y≠x:=fun e=>bZ (C1 bI ai (e▸aB));simp[this,e]
    ·exact .inr ⟨k,c,e,z.sameBut aq (cne y c e)⟩
  ·obtain⟨k8,z⟩:=I.cell y c e;exact⟨k8,z.sameBut aq (cne y c e)⟩
  ·obtain⟨e,n,ne,pY,d⟩:=I.pin p ag;exact⟨(aq.2 p.1 ne).trans e,n,ne,pY,d⟩
 ·have yP:X.fn x=true:=by
   rcases hf with z|z
   ·exact z
   ·rw[z]at ah;cases ah
  obtain⟨c,hc⟩:=I.ok.has x (.inl ah);obtain⟨k8,z⟩:=I.cell x c hc;refine wpAny_storeName_cell I.ok.kind ah hc z (fun h' uv aq=>?_);obtain⟨oc,C4,J'⟩:=id z;refine h { s with heap:=h' } ⟨I.ok,I.os,I.bare,⟨fun b o e n af aC=>?_,fun b o e n af aC=>?_,I.base.free,fun b o e aC=>?_,I.base.tups,I.base.frzs,I.base.tbls⟩,⟨m,aN.sameBut aq (Z8 (cne x c hc)),fun j y rB ai av bC=>?_⟩,fun y eU e=>?_,I.free,I.freeC,fun p ag=>?_,tracked ⟨oc,C4,I.freeC x c hc⟩ aq,by simpa using I.len⟩ ⟨c,aq,.inr hc⟩
  ·exact(aq.2 b (Z0 (Z7 (Heap.lt_size e) (I.ok.cab x c yP hc)))).trans (I.base.keep b o e n af aC)
  ·obtain⟨sl,ai⟩:=I.base.slot b o e n af aC;exact⟨sl,(aq.2 b (Z0 (Z7 (Heap.lt_size e) (I.ok.cab x c yP hc)))).trans ai⟩
  ·obtain⟨e3,ai⟩:=I.base.there b o e aC;exact⟨e3,(aq.2 b (Z0 (Z7 (Heap.lt_size e) (I.ok.cab x c yP hc)))).trans ai⟩
  ·by_cases bZ:j=i
   ·subst bZ;rw[aB]at ai;cases ai;rw[aaV C2]at av;cases av;exact⟨u,r,.inr ⟨.inl ah,c,hc,uv⟩⟩
   ·rw[aaE (Z8 bZ)]at av;obtain⟨ek,d0,q⟩:=aj j y rB ai av bC;refine⟨ek,d0,?_⟩;rcases q with q|⟨k,eU,e,el⟩
    ·exact .inl q
    ·refine .inr ⟨k,eU,e,el.sameBut aq ?_⟩;rintro rfl;exact bZ (C1 bI ai (I.ok.inj _ _ _ e hc▸aB))
  ·by_cases C5:eU=c
   ·subst C5;exact⟨_,uv⟩
   ·obtain⟨c7,aT⟩:=I.cell y eU e;exact⟨c7,aT.sameBut aq C5⟩
  ·obtain⟨e,n,ne,pY,d⟩:=I.pin p ag;refine⟨(aq.2 p.1 ?_).trans e,n,ne,pY,d⟩;intro q;rw[q,C4]at e;have gk:oc=p.2:=ZH e;exact d k8 (by rw[<-gk];exact J')
theorem pZ{M:Model}{A:Around}{E:Value->Shared->Prop}{i:Nat}{x:Str}{v:V}{u:Value}{Q:Unit->Shared->Prop}(I:Inv X pins σ H s)(bI:X.N.Nodup)(aB:X.N[i]?=some x)(aC:Loc X.env.scope x)(r:RelV v u)(h:∀s',Inv X pins (σ.set i (some v)) H s'->Q () s')(hf:X.fn x=true∨X.env.scope.names.lookup x=some .local:=by first|exact .inl rfl|exact .inr rfl|assumption):wpAny M A (storeName X.env x u) Q E s :=
 J5 I bI aB aC r (fun s' m5 _=>h s' m5) hf
theorem Inv.call'{s':Shared}{ch:List Addr}(I:Inv X pins σ H s)(aE:s'.os=s.os)(u:fq (jD X.stack) ch H H' s.heap s'.heap)(hok:ej X.prog X.w H' s'.heap)(aD:AllBare s'.gens)(k7:∀b∈ch,(b∈X.ex∨X.s₀.heap.objs.size<=b)/\b≠X.env.locals/\(∀x c,X.env.cells.lookup x=some c->c≠b)/\∀p∈X.pn++pins,p.1≠b):Inv X pins σ H' s':=by
 obtain⟨h',g',d',t',e3⟩:=s';have e:e3=s.os:=aE;subst e;exact I.call (g':=g') (t':=t') (d':=d') u hok aD k7
end
abbrev fB:=Value->Option Addr->ao->Prop
abbrev St:=List (Option V)
abbrev cO:=V->ao->Prop
abbrev TE:=St->ao->cO->Prop
abbrev TT:=St->ao->(Bool->ao->Prop)->Prop
abbrev eV:=St->ao->(List V->ao->Prop)->Prop
structure Ends where
 nx:St->ao->Prop
 rt:cO
 bk:St->ao->Prop:=fun _ _=>False
 ct:St->ao->Prop:=fun _ _=>False
abbrev fR:=Ends->St->ao->Prop
def hl(X:aM)(pins:List (Addr×Obj))(σ:St)(Q:cO)(u:Value)(s':Shared):Prop:=∃v H',Inv X pins σ H' s'/\RelV v u/\Q v H'
def uw(X:aM)(pins:List (Addr×Obj))(σ:St)(Q:Bool->ao->Prop)(b:Bool)(s':Shared):Prop:=∃H',Inv X pins σ H' s'/\Q b H'
def Ka(X:aM)(pins:List (Addr×Obj))(σ:St)(Q:List V->ao->Prop)(us:List Value)(s':Shared):Prop:=∃vs H',Inv X pins σ H' s'/\Vals vs us/\Q vs H'
def p0(X:aM)(pins:List (Addr×Obj))(D:Ends)(f:Flow)(s':Shared):Prop :=
 match f with
 | .next=>∃a' H',Inv X pins a' H' s'/\D.nx a' H'
 | .brk=>∃a' H',Inv X pins a' H' s'/\D.bk a' H'
 | .cont=>∃a' H',Inv X pins a' H' s'/\D.ct a' H'
 | .ret u=>∃v a' H',Inv X pins a' H' s'/\RelV v u/\D.rt v H'
def b0(X:aM)(e:Expr)(t:TE):Prop :=
 ∀(pins:List (Addr×Obj))(s:Shared)(σ:St)(H:ao)(Q:cO),Inv X pins σ H s->t σ H Q->wpAny (model X.prog X.w) X.A (eval e X.env) (hl X pins σ Q) X.xe s
def h9(X:aM)(e:Expr)(t:TT):Prop :=
 ∀(pins:List (Addr×Obj))(s:Shared)(σ:St)(H:ao)(Q:Bool->ao->Prop),Inv X pins σ H s->t σ H Q->wpAny (model X.prog X.w) X.A (isTrue e X.env (eval e X.env)) (uw X pins σ Q) X.xe s
def l6(X:aM)(e:Expr)(t:TT):Prop :=
 ∀(whole:Sem Value)(pins:List (Addr×Obj))(s:Shared)(σ:St)(H:ao)(Q:Bool->ao->Prop),Inv X pins σ H s->t σ H Q->wpAny (model X.prog X.w) X.A (isTrue e X.env whole) (uw X pins σ Q) X.xe s
theorem l6.pt{X:aM}{e:Expr}{t:TT}(h:l6 X e t):h9 X e t:=h _
def hn(X:aM)(es:List Expr)(t:eV):Prop :=
 ∀(pos:Pos)(pins:List (Addr×Obj))(s:Shared)(σ:St)(H:ao)(Q:List V->ao->Prop),Inv X pins σ H s->t σ H Q->wpAny (model X.prog X.w) X.A (spliced (backTo pos (starEach es X.env))) (Ka X pins σ Q) X.xe s
def ia(X:aM)(st:Stmt)(t:fR):Prop :=
 ∀(pins:List (Addr×Obj))(s:Shared)(σ:St)(H:ao)(D:Ends),Inv X pins σ H s->t D σ H->wpAny (model X.prog X.w) X.A (exec st X.env) (p0 X pins D) X.xe s
def ib(X:aM)(st:List Stmt)(t:fR):Prop :=
 ∀(pins:List (Addr×Obj))(s:Shared)(σ:St)(H:ao)(D:Ends),Inv X pins σ H s->t D σ H->wpAny (model X.prog X.w) X.A (execs st X.env) (p0 X pins D) X.xe s
theorem ck{α:Type}{t:Sem α}{Q yQ:α->Shared->Prop}{M:Model}{A:Around}{E:Value->Shared->Prop}{s:Shared}(h:wpAny M A t Q E s)(gV:∀a s,Q a s->yQ a s):wpAny M A t yQ E s:=wpAny_mono h gV fun _ _ x=>x
section
variable{X:aM}
def yR(i:Nat):TE:=fun σ H Q=>∃v,σ[i]?=some (some v)/\Q v H
def p1(v:V):TE:=fun _ H Q=>Q v H
theorem ic{i:Nat}{x:Str}{pos:Pos}(bI:X.N[i]?=some x)(aP:gF X.env.scope x)(hd:(x==("__debug__":Str))=false:=by decide)(dz:(x==("__classdict__":Str))=false:=by decide):b0 X (.Name x pos) (yR i):=by
 intro pins s σ H Q I h;obtain⟨v,e,h⟩:=h;obtain⟨m,aN,aj⟩:=I.loc;obtain⟨u,r,l⟩:=aj i x v bI e aP;have fin:hl X pins σ Q u s:=⟨v,H,I,r,h⟩;rcases l with⟨ah,hm⟩|⟨ah,c,hc,oD⟩
 ·exact wpAny_Name (wpAny_loadName_local I.ok.kind ah aN hm fin) hd
 ·rcases ah with ah|ah
  ·exact wpAny_Name (wpAny_loadName_cell I.ok.kind ah hc oD fin) hd
  ·exact wpAny_Name (wpAny_loadName_free I.ok.kind ah hc oD fin dz) hd
theorem eI{i j pos}:b0 X (.Constant (.int i) j pos) (p1 (.int i)):=fun _ _ _ H _ I h=>wpAny_Constant_int ⟨.int i,H,I.tok _,⟨_,rfl⟩,h⟩
theorem Kb{b j pos}:b0 X (.Constant (.bool b) j pos) (p1 (.bl b)):=fun _ _ _ H _ I h=>Constant_bool ⟨.bl b,H,I,rfl,h⟩
def eJ(X:aM)(x:Str):Prop:=X.env.kindOf x=some .globalImplicit
theorem C6{E:Value->Shared->Prop}{pins:List (Addr×Obj)}{s:Shared}{σ:St}{H:ao}{x:Str}{u:Value}{pos:Pos}{Q:Value->Shared->Prop}(I:Inv X pins σ H s)(aD:eJ X x)(hm:X.mg x=some u)(h:Q u s)(hd:(x==("__debug__":Str))=false:=by decide):wpAny (model X.prog X.w) X.A (eval (.Name x pos) X.env) Q E s :=
 Calls.Name_function_global I.ok.kind aD (Calls.loadGlobal_global (by rw[I.ok.glob];exact I.mod.glob.keeps I.bk) hm h) hd
theorem p2{E:Value->Shared->Prop}{pins:List (Addr×Obj)}{s:Shared}{σ:St}{H:ao}{x:Str}{u:Value}{pos:Pos}{Q:Value->Shared->Prop}(I:Inv X pins σ H s)(aD:eJ X x)(hm:X.mg x=none)(aP:bootBuiltins x=some u)(h:Q u s)(aN:x≠"__name__":=by decide)(hd:(x==("__debug__":Str))=false:=by decide):wpAny (model X.prog X.w) X.A (eval (.Name x pos) X.env) Q E s:=by
 obtain⟨gn,aa,ab⟩:=I.mod.blt;exact Calls.Name_function_global I.ok.kind aD (Calls.loadGlobal_builtin (by rw[I.ok.glob];exact I.mod.glob.keeps I.bk) hm (by rw[I.ok.blt];exact aa.keeps I.bk) ((ab x aN).trans aP) h) hd
theorem C7{x:Str}{v:V}{u:Value}{pos:Pos}(aD:eJ X x)(hm:X.mg x=some u)(r:RelV v u)(hd:(x==("__debug__":Str))=false:=by decide):b0 X (.Name x pos) (p1 v):=
 fun _ _ _ H _ I h=>C6 I aD hm ⟨v,H,I,r,h⟩ hd
theorem l7{x:Str}{v:V}{u:Value}{pos:Pos}(aD:eJ X x)(hm:X.mg x=none)(aP:bootBuiltins x=some u)(r:RelV v u)(aN:x≠"__name__":=by decide)(hd:(x==("__debug__":Str))=false:=by decide):b0 X (.Name x pos) (p1 v):=
 fun _ _ _ H _ I h=>p2 I aD hm aP ⟨v,H,I,r,h⟩ aN hd
variable{a b:Expr}{bT tb:TE}{pos:Pos}
def rC(t:TE):TT:=fun σ H Q=>t σ H fun x H1=>∃c,x=.bl c/\Q c H1
theorem Kc{e:Expr}{t:TE}(h:b0 X e t)(he:∀whole,isTrue e X.env whole=(do let v <-whole;standAt e.pos;holding [v] (truthy v)):=by intro _;rfl):h9 X e (rC t):=by
 intro pins s σ H Q I hw;refine isTrue_plain (ck (h pins s σ H _ I hw) fun v s1 ⟨x,H1,bf,au,aW⟩=>?_) (he _);obtain⟨d,rfl,q⟩:=aW;cases au;exact wpAny_truthy_bool ⟨H1,bf,q⟩
variable{jE ux:TT}{rest:List Expr}
def C8(t u:TT):TT:=fun σ H Q=>t σ H fun c H1=>if c=true then u σ H1 Q else Q false H1
def C9(t u:TT):TT:=fun σ H Q=>t σ H fun c H1=>if c=true then Q true H1 else u σ H1 Q
def C'(t:TT):TT:=fun σ H Q=>t σ H fun c H1=>Q (!c) H1
theorem Kd(ay:h9 X a jE):l6 X (.BoolOp .And [a] pos) jE:=by
 intro wh pins s σ H Q I h;refine isTrue_and (ck (ay pins s σ H Q I h) fun c s1 e=>?_);cases c with
 | true=>exact isTrue_and_nil e
 | false=>exact e
theorem Ke(ay:h9 X a jE):l6 X (.BoolOp .Or [a] pos) jE:=by
 intro wh pins s σ H Q I h;refine isTrue_or (ck (ay pins s σ H Q I h) fun c s1 e=>?_);cases c with
 | false=>exact isTrue_or_nil e
 | true=>exact e
theorem Kf(ay:h9 X a jE)(af:l6 X (.BoolOp .And (b::rest) pos) ux):l6 X (.BoolOp .And (a::b::rest) pos) (C8 jE ux):=by
 intro wh pins s σ H Q I h;refine isTrue_and (ck (ay pins s σ H _ I h) fun c s1 ⟨H1,bf,aW⟩=>?_);cases c with
 | true=>exact af wh pins s1 σ H1 Q bf aW
 | false=>exact⟨H1,bf,aW⟩
theorem Kg(ay:h9 X a jE)(af:l6 X (.BoolOp .Or (b::rest) pos) ux):l6 X (.BoolOp .Or (a::b::rest) pos) (C9 jE ux):=by
 intro wh pins s σ H Q I h;refine isTrue_or (ck (ay pins s σ H _ I h) fun c s1 ⟨H1,bf,aW⟩=>?_);cases c with
 | true=>exact⟨H1,bf,aW⟩
 | false=>exact af wh pins s1 σ H1 Q bf aW
theorem Kh(ay:h9 X a jE):h9 X (.UnaryOp .Not a pos) (C' jE):=by
 intro pins s σ H Q I h;exact isTrue_not (ay pins s σ H (fun c H1=>Q (!c) H1) I h)
def Ki(bT tb:TE):TE:=fun σ H Q=>bT σ H fun x H1=>∃c,x=.bl c/\if c=true then tb σ H1 Q else Q (.bl false) H1
def Kj(bT tb:TE):TE:=fun σ H Q=>bT σ H fun x H1=>∃c,x=.bl c/\if c=true then Q (.bl true) H1 else tb σ H1 Q
def Kk(bT:TE):TE:=fun σ H Q=>bT σ H fun x H1=>∃c,x=.bl c/\Q (.bl (!c)) H1
theorem Kl{op}{t:TE}(h:b0 X a t):b0 X (.BoolOp op [a] pos) t:=fun pins s σ H Q I hw=>BoolOp_one (h pins s σ H Q I hw)
theorem Km(ay:b0 X a bT)(af:b0 X (.BoolOp .And (b::rest) pos) tb):b0 X (.BoolOp .And (a::b::rest) pos) (Ki bT tb):=by
 intro pins s σ H Q I h;refine BoolOp_and (ck (ay pins s σ H _ I h) fun v s1 ⟨x,H1,bf,au,aW⟩=>?_);obtain⟨c,rfl,aW⟩:=aW;cases au;refine wpAny_truthy_bool ?_;cases c with
 | true=>exact af pins s1 σ H1 Q bf aW
 | false=>exact⟨.bl false,H1,bf,rfl,aW⟩
theorem Kn(ay:b0 X a bT)(af:b0 X (.BoolOp .Or (b::rest) pos) tb):b0 X (.BoolOp .Or (a::b::rest) pos) (Kj bT tb):=by
 intro pins s σ H Q I h;refine BoolOp_or (ck (ay pins s σ H _ I h) fun v s1 ⟨x,H1,bf,au,aW⟩=>?_);obtain⟨c,rfl,aW⟩:=aW;cases au;refine wpAny_truthy_bool ?_;cases c with
 | false=>exact af pins s1 σ H1 Q bf aW
 | true=>exact⟨.bl true,H1,bf,rfl,aW⟩
theorem Ko(ay:b0 X a bT):b0 X (.UnaryOp .Not a pos) (Kk bT):=by
 intro pins s σ H Q I h;refine UnaryOp_ (ck (ay pins s σ H _ I h) fun v s1 ⟨x,H1,bf,au,aW⟩=>?_);obtain⟨c,rfl,aW⟩:=aW;cases au;exact not_of (wpAny_truthy_bool ⟨.bl (!c),H1,bf,rfl,aW⟩)
def Kp(t:TT)(bT tb:TE):TE:=fun σ H Q=>t σ H fun c H1=>if c=true then bT σ H1 Q else tb σ H1 Q
theorem Kq{c:Expr}(hc:h9 X c jE)(ay:b0 X a bT)(af:b0 X b tb):b0 X (.IfExp c a b pos) (Kp jE bT tb):=by
 intro pins s σ H Q I h;refine wpAny_IfExp (ck (hc pins s σ H _ I h) fun d s1 ⟨H1,bf,aW⟩=>?_);cases d with
 | true=>exact ay pins s1 σ H1 Q bf aW
 | false=>exact af pins s1 σ H1 Q bf aW
end
def cJ(K:PySem.W.Frag)(H:ao)(a:Addr)(xs:List V):Prop :=
 uo H a (.lst xs) ∨
  ∃(o:Obj)(its:Array Value)(n:Nat),K.lookup a=some o/\o.cls=.type "list"/\o.dict=none/\o.data=.seq its n/\its.size<=sizeLine/\Vals xs its.toList
def en(K:PySem.W.Frag)(H:ao)(a:Addr)(xs:List V):Prop :=
 uo H a (.tup xs) ∨
  ∃(o:Obj)(its:Array Value)(n:Nat),K.lookup a=some o/\o.cls=.type "tuple"/\o.data=.seq its n/\its.size<=sizeLine/\Vals xs its.toList
def Kr:Value->Option V
 | .none=>some .non
 | .bool b=>some (.bl b)
 | .int i _=>some (.int i)
 | .str x _=>some (.str x)
 | .bytes b _=>some (.byt b)
 | .float b _=>some (.flt b)
 | .ref a=>some (.ref a)
 | .type n=>some (.ty n)
 | _=>none
theorem RelV.abs{x:V}{u:Value}(r:RelV x u):Kr u=some x:=by
 cases x with
 | non=>cases r;rfl
 | bl _=>cases r;rfl
 | int _=>obtain⟨t,rfl⟩:=r;rfl
 | str _=>obtain⟨t,rfl⟩:=r;rfl
 | byt _=>obtain⟨t,rfl⟩:=r;rfl
 | flt _=>obtain⟨t,rfl⟩:=r;rfl
 | ref _=>cases r;rfl
 | ty _=>cases r;rfl
theorem RelV.inj{x y:V}{u:Value}(r:RelV x u)(q:RelV y u):x=y:=ZH (r.abs.symm.trans q.abs)
theorem Vals.inj:∀{xs ys:List V}{us:List Value},Vals xs us->Vals ys us->xs=ys
 | _,_,_,.nil,.nil=>rfl
 | _,_,_,.cons r t,.cons d0 t'=>by rw[r.inj d0,Vals.inj t t']
section
variable{X:aM}{pins:List (Addr×Obj)}{σ:St}{H:ao}{s:Shared}{a:Addr}{xs ys:List V}
theorem cJ.of{K:PySem.W.Frag}(h:H a=some (.lst xs)):cJ K H a xs:=.inl (.inl h)
theorem en.of{K:PySem.W.Frag}(h:H a=some (.tup xs)):en K H a xs:=.inl (.inl h)
theorem Inv.list(I:Inv X pins σ H s)(h:cJ X.K H a xs):∃its:List Value,Vals xs its/\PlainL s.heap a its.toArray/\xs.length<=sizeLine:=by
 rcases h with h|⟨o,its,n,ah,hc,hd,aq,bb,r⟩
 ·obtain⟨z,its,n,r,e⟩:=h.ok I.hok;exact⟨its,r,⟨_,n,e,rfl,rfl,rfl⟩,z⟩
 ·refine⟨its.toList,r,⟨o,n,I.kIn a o ah,hc,hd,by simpa using aq⟩,?_⟩;have e:=r.length;simp only[abE]at e;omega
theorem Inv.tuple(I:Inv X pins σ H s)(h:en X.K H a xs):∃its:List Value,Vals xs its/\IsTup s.heap a its.toArray/\xs.length<=sizeLine:=by
 rcases h with h|⟨o,its,n,ah,hc,aq,bb,r⟩
 ·obtain⟨z,its,r,p⟩:=h.ok I.hok;exact⟨its,r,p,z⟩
 ·refine⟨its.toList,r,⟨o,I.kIn a o ah,hc,n,by simpa using aq⟩,?_⟩;have e:=r.length;simp only[abE]at e;omega
theorem Inv.list_inj(I:Inv X pins σ H s)(h:cJ X.K H a xs)(h':cJ X.K H a ys):xs=ys:=by
 obtain⟨its,r,⟨o,n,e,_,_,d⟩,_⟩:=I.list h;obtain⟨its',d0,⟨e3,n',aU,_,_,d'⟩,_⟩:=I.list h';rw[e]at aU;cases aU;rw[d]at d';injection d' with bN _
 have:its=its':=by simpa using congrArg Array.toList bN
 subst this;exact r.inj d0
theorem Inv.tuple_inj(I:Inv X pins σ H s)(h:en X.K H a xs)(h':en X.K H a ys):xs=ys:=by
 obtain⟨its,r,⟨o,e,_,n,d⟩,_⟩:=I.tuple h;obtain⟨its',d0,⟨e3,aU,_,n',d'⟩,_⟩:=I.tuple h';rw[e]at aU;cases aU;rw[d]at d';injection d' with bN _
 have:its=its':=by simpa using congrArg Array.toList bN
 subst this;exact r.inj d0
end
abbrev aM.wish(X:aM)(E:Value->Shared->Prop):aM:={ X with xe:=E }
abbrev aM.nox(X:aM):aM:=X.wish fun _ _=>False
theorem aM.Ok.wish{X:aM}(ok:X.Ok)(E:Value->Shared->Prop):(X.wish E).Ok :=
 ⟨ok.mod,ok.kind,ok.glob,ok.blt,ok.above,ok.inj,ok.has,ok.cab,ok.hd,ok.frames,ok.stk,ok.exf,ok.bs,ok.bsz,ok.noex,ok.exfs,ok.funs,ok.frf⟩
theorem aM.Ok.unwish{X:aM}{E:Value->Shared->Prop}(ok:(X.wish E).Ok):X.Ok :=
 ⟨ok.mod,ok.kind,ok.glob,ok.blt,ok.above,ok.inj,ok.has,ok.cab,ok.hd,ok.frames,ok.stk,ok.exf,ok.bs,ok.bsz,ok.noex,ok.exfs,ok.funs,ok.frf⟩
section
variable{X:aM}{pins:List (Addr×Obj)}{σ:St}{H:ao}{s:Shared}{E:Value->Shared->Prop}
theorem Inv.wish(I:Inv X pins σ H s)(E:Value->Shared->Prop):Inv (X.wish E) pins σ H s:=⟨I.ok.wish E,I.os,I.bare,I.base,I.loc,I.cell,I.free,I.freeC,I.pin,I.hok,I.len⟩
theorem Inv.unwish(I:Inv (X.wish E) pins σ H s):Inv X pins σ H s:=⟨I.ok.unwish,I.os,I.bare,I.base,I.loc,I.cell,I.free,I.freeC,I.pin,I.hok,I.len⟩
theorem p0.unwish{D:Ends}{f:Flow}{s':Shared}(h:p0 (X.wish E) pins D f s'):p0 X pins D f s':=by
 cases f with
 | next=>obtain⟨a',H',I,q⟩:=h;exact⟨a',H',I.unwish,q⟩
 | brk=>obtain⟨a',H',I,q⟩:=h;exact⟨a',H',I.unwish,q⟩
 | cont=>obtain⟨a',H',I,q⟩:=h;exact⟨a',H',I.unwish,q⟩
 | ret u=>obtain⟨v,a',H',I,r,q⟩:=h;exact⟨v,a',H',I.unwish,r,q⟩
theorem ib.nox{st:List Stmt}{t:fR}(h:ib X.nox st t):ib X st t:=fun pins s σ H D I hw =>
 wpAny_mono (h pins s σ H D (I.wish _) hw) (fun _ _ q=>q.unwish) fun _ _ z=>aas z
end
section
variable{X:aM}{st:Stmt}{rest:List Stmt}{t u:fR}{e:Expr}{cD:TE}{pos:Pos}
def Ks:fR:=fun D σ H=>D.nx σ H
def Kt(t u:fR):fR:=fun D σ H=>t { D with nx:=u D } σ H
theorem uy:ib X [] Ks:=fun _ _ σ H _ I h=>wpAny_execs_nil ⟨σ,H,I,h⟩
theorem m6(aa:ia X st t)(ab:ib X rest u):ib X (st::rest) (Kt t u):=by
 intro pins s σ H D I h;refine wpAny_execs_cons (ck (aa pins s σ H { D with nx:=u D } I h) fun f s1 q=>?_);cases f with
 | next =>
  obtain⟨a',H',m5,q⟩:=q;exact ab pins s1 a' H' D m5 q
 | ret v=>exact q
 | brk=>exact q
 | cont=>exact q
theorem oE(aa:ia X st t):ib X [st] t:=by
 intro pins s σ H D I h;refine wpAny_execs_cons (ck (aa pins s σ H D I h) fun f s1 q=>?_);cases f with
 | next=>exact wpAny_execs_nil q
 | ret v=>exact q
 | brk=>exact q
 | cont=>exact q
theorem Inv.quiet{pins:List (Addr×Obj)}{σ:St}{H:ao}{s:Shared}(I:Inv X pins σ H s):interactive X.env=false:=by simp[interactive,I.ok.kind]
def Ku(cD:TE):fR:=fun D σ H=>cD σ H fun _ H1=>D.nx σ H1
theorem uz(he:b0 X e cD)(aq:swapsWith e none pos.line X.env=pure false:=by rfl):ia X (.Expr e pos) (Ku cD):=by
 intro pins s σ H D I h;exact wpAny_Expr_any (ck (he pins s σ H _ I h) fun v s1 ⟨x,H1,bf,au,aW⟩=>⟨σ,H1,bf,aW⟩) I.quiet aq
def Kv(cD:TE):fR:=fun D σ H=>cD σ H D.rt
theorem l8(he:b0 X e cD):ia X (.Return (some e) pos) (Kv cD):=by
 intro pins s σ H D I h;exact wpAny_Return_some (ck (he pins s σ H _ I h) fun v s1 ⟨x,H1,bf,au,aW⟩=>⟨x,σ,H1,bf,au,aW⟩)
def Kw(c:TT)(t u:fR):fR:=fun D σ H=>c σ H fun b H1=>if b=true then t D σ H1 else u D σ H1
theorem uA{c:Expr}{a b:List Stmt}{tc:TT}(hc:h9 X c tc)(ay:ib X a t)(af:ib X b u):ia X (.If c a b pos) (Kw tc t u):=by
 intro pins s σ H D I h;refine wpAny_If (ck (hc pins s σ H _ I h) fun d s1 ⟨H1,bf,aW⟩=>?_);cases d with
 | true=>exact ay pins s1 σ H1 D bf aW
 | false=>exact af pins s1 σ H1 D bf aW
def Dc:fR:=fun _ _ _=>False
theorem Kx:ia X st Dc:=fun _ _ _ _ _ _ h=>h.elim
end
abbrev gq:=V->St->ao->(St->ao->Prop)->Prop
abbrev kf:=List V->St->ao->(St->ao->Prop)->Prop
def iK(X:aM)(target:Expr)(t:gq):Prop :=
 ∀(pins:List (Addr×Obj))(s:Shared)(σ:St)(H:ao)(v:V)(u:Value)(Q:St->ao->Prop),Inv X pins σ H s->RelV v u->t v σ H Q ->
  wpAny (model X.prog X.w) X.A (assign target X.env u) (fun _ s'=>∃a' H',Inv X pins a' H' s'/\Q a' H') X.xe s
def oF(X:aM)(ts:List Expr)(t:kf):Prop :=
 ∀(pins:List (Addr×Obj))(s:Shared)(σ:St)(H:ao)(vs:List V)(us:List Value)(Q:St->ao->Prop),Inv X pins σ H s->Vals vs us->t vs σ H Q ->
  wpAny (model X.prog X.w) X.A (assignInOrder ((assignEach ts X.env).map (·.2)) us) (fun _ s'=>∃a' H',Inv X pins a' H' s'/\Q a' H') X.xe s
abbrev yS:=V->V->V->ao->(ao->Prop)->Prop
def Dd(X:aM)(t:yS):Prop :=
 ∀(pins:List (Addr×Obj))(s:Shared)(σ:St)(H:ao)(o i v:V)(kg hD u:Value)(Q:ao->Prop),Inv X pins σ H s->RelV o kg->RelV i hD->RelV v u->t o i v H Q ->
  wpAny (model X.prog X.w) X.A (setItem kg hD u) (fun _ s'=>∃H',Inv X pins σ H' s'/\Q H') X.xe s
abbrev uB:=V->V->ao->cO->Prop
def De(X:aM)(op:Operator)(t:uB):Prop :=
 ∀(pins:List (Addr×Obj))(s:Shared)(σ:St)(H:ao)(x y:V)(v u:Value)(Q:cO),Inv X pins σ H s->RelV x v->RelV y u->t x y H Q ->
  wpAny (model X.prog X.w) X.A (inplaceOp op v u) (hl X pins σ Q) X.xe s
section
variable{X:aM}{pos:Pos}
def uC(i:Nat):gq:=fun v σ H Q=>Q (σ.set i (some v)) H
theorem yT{i:Nat}{x:Str}(bI:X.N.Nodup)(aB:X.N[i]?=some x)(aC:Loc X.env.scope x)(hf:X.fn x=true∨X.env.scope.names.lookup x=some .local:=by first|exact .inl rfl|exact .inr rfl|assumption):iK X (.Name x pos) (uC i):=by
 intro pins s σ H v u Q I r h;exact wpAny_assign_Name (pZ I bI aB aC r (fun s' m5=>⟨_,H,m5,h⟩) hf)
def Ky:kf:=fun vs σ H Q=>vs=[]/\Q σ H
def Kz(t:gq)(u:kf):kf:=fun vs σ H Q=>∃v r,vs=v::r/\t v σ H fun a' H'=>u r a' H' Q
theorem Df:oF X [] Ky:=by
 intro pins s σ H vs us Q I r h;obtain⟨e,h⟩:=h;subst e;cases r;exact assignInOrder_nil ⟨σ,H,I,h⟩
theorem Dg{e:Expr}{es:List Expr}{t:gq}{u:kf}(aa:iK X e t)(ab:oF X es u)(aq:(assignEach (e::es) X.env).map (·.2)=assign e X.env::(assignEach es X.env).map (·.2):=by rfl):oF X (e::es) (Kz t u):=by
 intro pins s σ H vs us Q I r h;obtain⟨v,YH,ai,h⟩:=h;subst ai;cases r with
 | cons r hE =>
  rw[aq];refine assignInOrder_cons (ck (aa pins s σ H _ _ _ I r h) fun _ s1 ⟨f5,H1,bf,aW⟩=>?_);exact ab pins s1 f5 H1 _ _ Q bf hE aW
def KA(K:PySem.W.Frag)(n:Nat)(t:kf):gq:=fun v σ H Q=>∃a xs,v=.ref a/\en K H a xs/\xs.length=n/\t xs σ H Q
theorem Dh{es:List Expr}{k:Nat}{t:kf}{n:Nat}(hc:X.calm=true)(h:oF X es t)(aN:(assignEach es X.env).length=n:=by rfl)(l9:(assignEach es X.env).findIdx? (·.1)=none:=by rfl):iK X (.Tuple es k pos) (KA X.K n t):=by
 intro pins s σ H v u Q I r hw;obtain⟨a,xs,ai,aA,aj,hw⟩:=hw;subst ai;cases r;obtain⟨its,cb,bt,bb⟩:=I.tuple aA;refine assign_Tuple_tuple (I.ok.hd hc) bt (by simp[aN,<-aj,cb.length]) l9 fun h' aC=>?_;have bf:Inv X pins σ H { s with heap:=h' }:=I.kept (t':=s.toks) fun b o e=>aC b o (Z0 (Heap.lt_size e)) e;exact h pins _ σ H xs _ Q bf (by simpa using cb) hw
def KC(to hF:TE)(t:yS):gq:=fun v σ H Q=>to σ H fun o H1=>hF σ H1 fun i aZ=>t o i v aZ fun cP=>Q σ cP
theorem yU{o i:Expr}{to hF:TE}{t:yS}(aE:b0 X o to)(aB:b0 X i hF)(aq:Dd X t)(ay:∀v,assign (.Subscript o i pos) X.env v=(do
   let kg <-holding [v] (eval o X.env)
   let hD <-holding [v,kg] (eval i X.env)
   standAt pos
   holding [v,kg,hD] (setItem kg hD v)
   release [v,kg,hD] []):=by intro _;rfl):iK X (.Subscript o i pos) (KC to hF t):=by
 intro pins s σ H v u Q I r h;rw[ay];refine wpAny_bind (wpAny_holding (ck (aE pins s σ H _ I h) fun kg s1 ⟨x,H1,bf,au,aW⟩=>?_));refine wpAny_bind (wpAny_holding (ck (aB pins s1 σ H1 _ bf aW) fun hD s2 ⟨y,aZ,ec,aG,bS⟩=>?_));refine wpAny_bind (wpAny_standAt (wpAny_bind (wpAny_holding (ck (aq pins s2 σ aZ x y v kg hD u _ ec au aG r bS) fun _ s3 ⟨cP,de,fC⟩=>?_))));exact wpAny_release ⟨σ,cP,de,fC⟩
def yV(cD:TE)(g:gq):fR:=fun D σ H=>cD σ H fun x H1=>g x σ H1 D.nx
theorem uD{bG e:Expr}{cD:TE}{g:gq}(he:b0 X e cD)(aD:iK X bG g)(aq:swapsWithSole [bG] e pos.line X.env=pure false:=by rfl)(hw:swappedStores [bG] e X.env=pure none:=by rfl)(aa:(assignEach [bG] X.env).map (·.2)=[assign bG X.env]:=by rfl):ia X (.Assign [bG] e pos) (yV cD g):=by
 intro pins s σ H D I h;refine wpAny_Assign_stores (ck (he pins s σ H _ I h) fun v s1 ⟨x,H1,bf,au,aW⟩=>?_) aq hw;rw[aa];exact ck (aD pins s1 σ H1 x v _ bf au aW) fun _ s2 q=>q
theorem p3{i:Nat}{x:Str}{e:Expr}{cD:TE}{pos':Pos}(bI:X.N.Nodup)(aB:X.N[i]?=some x)(aC:Loc X.env.scope x)(he:b0 X e cD)(aq:swapsWith e (some (.Name x pos')) pos.line X.env=pure false:=by rfl)(hf:X.fn x=true∨X.env.scope.names.lookup x=some .local:=by first|exact .inl rfl|exact .inr rfl|assumption):
  ia X (.Assign [.Name x pos'] e pos) (yV cD (uC i)):=by
 intro pins s σ H D I h;refine wpAny_Assign_Name (ck (he pins s σ H _ I h) fun v s1 ⟨y,H1,bf,au,aW⟩=>?_) aq;exact pZ bf bI aB aC au (fun s2 ec=>⟨_,H1,ec,aW⟩) hf
def KD(i j:Nat)(bT:eV):fR:=fun D σ H=>bT σ H fun vs H1=>∃v w,vs=[v,w]/\D.nx ((σ.set i (some v)).set j (some w)) H1
theorem KG{i j:Nat}{x y:Str}{a b:Expr}{bT:eV}{px py pt:Pos}{kt cn oG}(hc:X.calm=true)(bI:X.N.Nodup)(aB:X.N[i]?=some x)(bZ:X.N[j]?=some y)(m7:i≠j)(aC:X.env.scope.names.lookup x=some .local)(a6:X.env.scope.names.lookup y=some .local)(ay:hn X [a,b] bT)(hw:swappedStores [.Tuple [.Name x px,.Name y py] kt pt] (.Tuple [a,b] cn oG) X.env=pure (some [x,y]))(aq:swapsWithSole [.Tuple [.Name x px,.Name y py] kt pt] (.Tuple [a,b] cn oG) pos.line X.env=pure false:=by rfl):
  ia X (.Assign [.Tuple [.Name x px,.Name y py] kt pt] (.Tuple [a,b] cn oG) pos) (KD i j bT):=by
 intro pins s σ H D I h;rw[exec_Assign_arm];refine wpAny_bind (wpAny_standAt ?_);rw[aq];refine wpAny_bind (wpAny_pure ?_);rw[if_neg (by decide)];refine wpAny_bind (Tuple_ (ck (ay _ pins s σ H _ I h) fun us s1 ⟨vs,H1,bf,au,aW⟩=>?_));obtain⟨v,w,ai,aW⟩:=aW;subst ai
 obtain⟨dg,dB,rfl,cb,l'⟩:∃dg dB,us=[dg,dB]/\RelV v dg/\RelV w dB:=by
  cases au with
  | cons p q =>
   cases q with
   | cons ma gk =>
    cases gk;exact⟨_,_,rfl,p,ma⟩
 refine wpAny_newObj_type ?_ (by show 2<=sizeLine;decide);have ec:Inv X pins σ H1 { s1 with heap:=s1.heap.push { cls:=.type "tuple",data:=.seq [dg,dB].toArray } }:=bf.kept (t':=s1.toks) fun b o e=>Heap.get?_push_of_some _ e;rw[hw];refine wpAny_bind (wpAny_pure ?_);show wpAny (model X.prog X.w) X.A (do rule "assign.swapped-stores";let items <-unpackItems (.ref s1.heap.objs.size) 2 none;assignInOrder [fun v=>bindName X.env y v,fun v=>bindName X.env x v] items.reverse;pure Flow.next) _ _ _;refine wpAny_bind (wpAny_rule (wpAny_bind (unpackItems_tuple (items :=#[dg,dB]) (I.ok.hd hc) (IsTup.new s1.heap _) fun h' rD=>?_)));have de:=ec.kept (h':=h') (t':=s1.toks) fun b o e=>rD b o (Z0 (Heap.lt_size e)) e;show wpAny _ _ (assignInOrder [fun v=>bindName X.env y v,fun v=>bindName X.env x v] [dB,dg] >>= fun _=>pure Flow.next) _ _ _
 refine wpAny_bind (assignInOrder_cons (wpAny_bindName (pZ de bI bZ (.inl a6) l' (fun s2 m8=>?_) (.inr a6))));refine assignInOrder_cons (wpAny_bindName (pZ m8 bI aB (.inl aC) cb (fun s3 oH=>assignInOrder_nil (wpAny_pure ?_)) (.inr aC)));rw[List.set_comm _ _ (Z8 m7)]at oH;exact⟨_,H1,oH,aW⟩
def KH(i:Nat)(cD:TE)(hF:uB):fR:=fun D σ H=>∃x,σ[i]?=some (some x)/\cD σ H fun y H1=>hF x y H1 fun z aZ=>D.nx (σ.set i (some z)) aZ
theorem KI{i:Nat}{x:Str}{e:Expr}{cD:TE}{op:Operator}{hF:uB}{pos':Pos}(bI:X.N.Nodup)(aB:X.N[i]?=some x)(aC:Loc X.env.scope x)(he:b0 X e cD)(aE:De X op hF)(hf:X.fn x=true∨X.env.scope.names.lookup x=some .local:=by first|exact .inl rfl|exact .inr rfl|assumption):
  ia X (.AugAssign (.Name x pos') op e pos) (KH i cD hF):=by
 intro pins s σ H D I h;obtain⟨v,ai,h⟩:=h;obtain⟨m,aN,aj⟩:=I.loc;have KJ:gF X.env.scope x:=by rcases aC with k|k;exact .inl k;exact .inr (.inl k)
 obtain⟨u,r,l⟩:=aj i x v aB ai KJ;refine wpAny_AugAssign_Name ?_
 have go:wpAny (model X.prog X.w) X.A (eval e X.env) (fun w yW=>wpAny (model X.prog X.w) X.A (inplaceOp op u w) (fun r KL=>wpAny (model X.prog X.w) X.A (storeName X.env x r) (fun _=>p0 X pins D .next) X.xe KL) X.xe yW) X.xe s:=by
  refine ck (he pins s σ H _ I h) fun w s1 ⟨y,H1,bf,au,aW⟩=>?_;refine ck (aE pins s1 σ H1 v y u w _ bf r au aW) fun z s2 ⟨YI,aZ,ec,aG,bS⟩=>?_;exact pZ ec bI aB aC aG (fun s3 de=>⟨_,aZ,de,bS⟩) hf
 rcases l with⟨ah,hm⟩|⟨ah,c,hc,oD⟩
 ·exact wpAny_loadName_local I.ok.kind ah aN hm go
 ·rcases ah with ah|ah
  ·exact wpAny_loadName_cell I.ok.kind ah hc oD go
  ·rcases aC with k|k
   ·have:X.env.scope.names.lookup x=some .free:=ah;rw[k]at this;cases this
   ·have:X.env.scope.names.lookup x=some .free:=ah;rw[k]at this;cases this
def KN(f:Int->Int->Int):uB:=fun x y H Q=>∃i j,x=.int i/\y=.int j/\Q (.int (f i j)) H
theorem KO:De X .Add (KN fun i j=>i+j):=by
 intro pins s σ H x y v u Q I au aG h;obtain⟨i,j,ai,av,q⟩:=h;subst ai;subst av;obtain⟨t,rfl⟩:=au;obtain⟨t',rfl⟩:=aG;exact iadd_int ⟨.int _,H,I.tok _,⟨_,rfl⟩,q⟩
end
section
variable{X:aM}{pos:Pos}
def KP(c:TT)(tb:fR):fR:=fun D σ H=>∃W:Nat->St->ao->Prop,(∃m,W m σ H)/\∀m σ H,W m σ H ->
 c σ H fun b H1=>if b=true then ∃N:St->ao->Prop,(∀a' H',N a' H'->∃m',m'<m/\W m' a' H')/\tb { D with nx:=N,ct:=N,bk:=D.nx } σ H1 else D.nx σ H1
theorem KQ{c:Expr}{body:List Stmt}{tc:TT}{tb:fR}(ag:PassesOwn (model X.prog X.w) X.A X.env X.xe)(hc:h9 X c tc)(af:ib X body tb):ia X (.While c body [] pos) (KP tc tb):=by
 intro pins s σ H D I h;obtain⟨W,⟨m0,w0⟩,turn⟩:=h;refine wpAny_While (codeAny_whileLoop (fun n s'=>∃a' H',Inv X pins a' H' s'/\W n a' H') ?_ m0 ⟨σ,H,I,w0⟩);rintro n s1 ⟨f5,H1,bf,w1⟩;refine wpAny_passesOwn ag (ck (hc pins s1 f5 H1 _ bf (turn n f5 H1 w1)) fun b s2 ⟨aZ,ec,bS⟩=>?_);cases b with
 | true =>
  obtain⟨N,bI,bS⟩:=bS;rw[if_pos rfl];refine wpAny_passesOwn ag (ck (af pins s2 f5 aZ _ ec bS) fun f s3 fC=>?_);cases f with
  | next =>
   obtain⟨fS,cP,de,kh⟩:=fC;obtain⟨m',hm,rE⟩:=bI fS cP kh;exact⟨m',hm,fS,cP,de,rE⟩
  | cont =>
   obtain⟨fS,cP,de,kh⟩:=fC;obtain⟨m',hm,rE⟩:=bI fS cP kh;exact⟨m',hm,fS,cP,de,rE⟩
  | brk=>exact fC
  | ret v=>exact fC
 | false =>
  rw[if_neg ZR];exact wpAny_execs_nil ⟨f5,aZ,ec,bS⟩
end
structure hX where
 go:Nat->ao->Prop
 yld:Nat->ao->V->ao->Prop
 stop:Nat->ao->Prop
def jF(X:aM)(pins:List (Addr×Obj))(H:ao)(b:Addr):Prop :=
 H b=none/\b≠X.env.locals/\b∉X.fs/\(b∈X.ex∨X.s₀.heap.objs.size<=b)/\(∀x c,X.env.cells.lookup x=some c->c≠b)/\∀p∈X.pn++pins,p.1≠b
theorem Inv.fpOk{X:aM}{pins:List (Addr×Obj)}{σ:St}{H H':ao}{s:Shared}{b:Addr}(I:Inv X pins σ H s)(af:s.heap.objs.size<=b)(aN:H' b=none):jF X pins H' b:=by
 refine⟨aN,abF (Z7 I.lt af),I.nofs af,.inr (Gg I.sz af),fun x c e z=>?_,fun p ag z=>?_⟩
 ·obtain⟨v,q⟩:=I.cell x c e;exact absurd (Z7 q.lt (by rw[z];exact af)) (aaC _)
 ·exact absurd (Z7 (Heap.lt_size (I.pin p ag).1) (by rw[z];exact af)) (aaC _)
structure Turn (P:Program) (w:World) (K:PySem.W.Frag) (bG:Expr) (J:hX) (cB:List Addr) (it:Addr) (hG:Nat->Heap->Prop):Prop where
 mem:it∈cB
 obj:∀i h,hG i h->∀b∈cB,∃o,h.get? b=some o/\∀v,o.data≠.cell v
 keep:∀i h h',hG i h->(∀b∈cB,∀o,h.get? b=some o->h'.get? b=some o)->hG i h'
 item:∀(X:aM),X.prog=P->X.w=w->X.K=K->X.calm=true->∀(i:Nat)(pins:List (Addr×Obj))(s:Shared)(σ:St)(H:ao)(E:Value->Shared->Prop),Inv X pins σ H s->(∀b∈cB,jF X pins H b)->hG i s.heap->J.go i H ->
  wpAny (model P w) X.A (pyNext (.ref it)) (fun r s1=>∃u,r=some u /\
   wpAny (model P w) X.A (letOwnedTupleGo bG (.ref it) u) (fun _ s2=>∃x H',Inv X pins σ H' s2/\RelV x u/\J.yld i H x H'/\hG (i+1) s2.heap/\∀b∈cB,H' b=none) E s1) E s
 done:∀(X:aM),X.prog=P->X.w=w->X.K=K->X.calm=true->∀(i:Nat)(pins:List (Addr×Obj))(s:Shared)(σ:St)(H:ao)(E:Value->Shared->Prop),Inv X pins σ H s->(∀b∈cB,jF X pins H b)->hG i s.heap->J.stop i H ->
  wpAny (model P w) X.A (pyNext (.ref it)) (fun r s1=>r=none/\Inv X pins σ H s1) E s
 self:∀(A:Around)(i:Nat)(s:Shared)(Q:Value->Shared->Prop)(E:Value->Shared->Prop),hG i s.heap->Q (.ref it) s->wpAny (model P w) A (pyIter (.ref it)) Q E s
abbrev TI:=St->ao->(hX->ao->Prop)->Prop
def Di(X:aM)(pins:List (Addr×Obj))(σ:St)(bG:Expr)(R:hX->ao->Prop)(m9:Value)(s2:Shared):Prop :=
 ∃(it:Addr)(cB:List Addr)(hG:Nat->Heap->Prop)(J:hX)(H':ao),m9=.ref it/\Inv X pins σ H' s2/\Turn X.prog X.w X.K bG J cB it hG/\hG 0 s2.heap/\(∀b∈cB,jF X pins H' b)/\R J H'
def jG(X:aM)(bG iter:Expr)(ft:TI):Prop :=
 ∀(pins:List (Addr×Obj))(s:Shared)(σ:St)(H:ao)(R:hX->ao->Prop),Inv X pins σ H s->ft σ H R ->
  wpAny (model X.prog X.w) X.A (eval iter X.env) (fun v s1=>wpAny (model X.prog X.w) X.A (pyIter v) (Di X pins σ bG R) X.xe s1) X.xe s
theorem uE{M:Model}{A:Around}{E:Value->Shared->Prop}{s:Shared}{bG:Expr}{it:Addr}{u:Value}{o:Obj}{n:String}{vs:Array Value}{Q:Unit->Shared->Prop}(aE:s.heap.get? it=some o)(hc:o.cls=.type n)(hd:o.data=.fields vs)(aN:["enumerate","zip","dict_itemiterator","dict_reverseitemiterator","odict_iterator","itertools.zip_longest","itertools.pairwise"].contains n=false)(gV:Q () s): wpAny M A (letOwnedTupleGo bG (.ref it) u) Q E s:=by
  unfold letOwnedTupleGo
  cases bG<;>first
    | exact wpAny_pure gV
    | (cases u<;>first
        | exact wpAny_pure gV
        | (refine wpAny_bind (wpAny_load aE ?_)
           rw[hc,hd];show wpAny M A (if(["enumerate","zip","dict_itemiterator","dict_reverseitemiterator","odict_iterator","itertools.zip_longest","itertools.pairwise"].contains n&&vs[0]?==some (rawInt _))=true then _ else _) Q E s
           rw[if_neg (by intro h;rw[aN,Bool.false_and]at h;cases h)]
           exact wpAny_pure gV))
def yX(K:PySem.W.Frag)(a:Addr):hX :=
 ⟨fun i H=>∃xs x,cJ K H a xs/\xs[i]?=some x,fun i H x H'=>H'=H/\∀xs,cJ K H a xs->xs[i]?=some x,fun i H=>∃xs,cJ K H a xs/\xs.length<=i⟩
def yY(K:PySem.W.Frag)(a:Addr):hX :=
 ⟨fun i H=>∃xs x,en K H a xs/\xs[i]?=some x,fun i H x H'=>H'=H/\∀xs,en K H a xs->xs[i]?=some x,fun i H=>∃xs,en K H a xs/\xs.length<=i⟩
def p4(lo:Int)(n:Nat):hX:=⟨fun i _=>i<n,fun i H x H'=>H'=H/\x=.int (lo+i),fun i _=>n<=i⟩
theorem KR{P:Program}{w:World}{K:PySem.W.Frag}{bG:Expr}(a it:Addr):Turn P w K bG (yX K a) [it] it (fun i h=>h.IsListIter it a i) where
 mem:=by simp
 obj:=fun i h st b af=>by
  have e:b=it:=by simpa using af
  subst e;obtain⟨o,e,c,d⟩:=st;exact⟨o,e,fun v z=>by rw[d]at z;cases z⟩
 keep:=fun i h h' st k=>st.at fun o e=>k it (by simp) o e
 item:=by
  intro X gr hw e4 hc i pins s σ H E I hf st aD;subst gr hw e4;obtain⟨xs,x,aA,aC⟩:=aD;obtain⟨its,cb,p,bb⟩:=I.list aA;obtain⟨u,bF,hH⟩:=cb.get aC;obtain⟨f0,f1,f2,bQ,f4,eo⟩:=hf it (by simp);refine wpAny_pyNext_list_item st p.isList (x:=u) (by simpa using bF) fun h' jH f6=>?_;have bf:Inv X pins σ H { s with heap:=h' }:=I.turned (t':=s.toks) (fun b o af e=>(f6.2 b af).trans e) f0 f1 bQ f4 eo;obtain⟨o,e,c,d⟩:=id jH;exact⟨u,rfl,uE (s:={ s with heap:=h' }) e c d (by decide) ⟨x,H,bf,hH,⟨rfl,fun ys a6=>by rw[I.list_inj a6 aA];exact aC⟩,jH,fun b af=>(hf b af).1⟩⟩
 done:=by
  intro X gr hw e4 hc i pins s σ H E I hf st aD;subst gr hw e4;obtain⟨xs,aA,aC⟩:=aD;obtain⟨its,cb,p,bb⟩:=I.list aA;obtain⟨f0,f1,f2,bQ,f4,eo⟩:=hf it (by simp);have aj:=cb.length;exact wpAny_pyNext_list_end (I.ok.hd hc) st p.isList (by simp;omega) fun h' ep=>⟨rfl,I.turned (t':=s.toks) (fun b o af e=>ep b o af e) f0 f1 bQ f4 eo⟩
 self:=fun _ _ _ _ _ st h=>wpAny_pyIter_listiter st h
theorem KS{P:Program}{w:World}{K:PySem.W.Frag}{bG:Expr}(a it:Addr):Turn P w K bG (yY K a) [it] it (fun i h=>h.IsTupleIter it a i) where
 mem:=by simp
 obj:=fun i h st b af=>by
  have e:b=it:=by simpa using af
  subst e;obtain⟨o,e,c,d⟩:=st;exact⟨o,e,fun v z=>by rw[d]at z;cases z⟩
 keep:=fun i h h' st k=>st.at fun o e=>k it (by simp) o e
 item:=by
  intro X gr hw e4 hc i pins s σ H E I hf st aD;subst gr hw e4;obtain⟨xs,x,aA,aC⟩:=aD;obtain⟨its,cb,p,bb⟩:=I.tuple aA;obtain⟨u,bF,hH⟩:=cb.get aC;obtain⟨f0,f1,f2,bQ,f4,eo⟩:=hf it (by simp);refine wpAny_pyNext_tuple_item st (show s.heap.IsTuple a its.toArray from p) (x:=u) (by simpa using bF) fun h' jH f6=>?_;have bf:Inv X pins σ H { s with heap:=h' }:=I.turned (t':=s.toks) (fun b o af e=>(f6.2 b af).trans e) f0 f1 bQ f4 eo;obtain⟨o,e,c,d⟩:=id jH;exact⟨u,rfl,uE (s:={ s with heap:=h' }) e c d (by decide) ⟨x,H,bf,hH,⟨rfl,fun ys a6=>by rw[I.tuple_inj a6 aA];exact aC⟩,jH,fun b af=>(hf b af).1⟩⟩
 done:=by
  intro X gr hw e4 hc i pins s σ H E I hf st aD;subst gr hw e4;obtain⟨xs,aA,aC⟩:=aD;obtain⟨its,cb,p,bb⟩:=I.tuple aA;obtain⟨f0,f1,f2,bQ,f4,eo⟩:=hf it (by simp);have aj:=cb.length;exact wpAny_pyNext_tuple_end (I.ok.hd hc) st (show s.heap.IsTuple a its.toArray from p) (by simp;omega) fun h' ep=>⟨rfl,I.turned (t':=s.toks) (fun b o af e=>ep b o af e) f0 f1 bQ f4 eo⟩
 self:=fun _ _ _ _ _ st h=>wpAny_pyIter_tupleiter st h
theorem KU{P:Program}{w:World}{K:PySem.W.Frag}{bG:Expr}(it:Addr)(lo:Int)(n:Nat):Turn P w K bG (p4 lo n) [it] it (fun i h=>IsRangeIter h it (lo+(i:Nat)*1) ((n:Int)-(i:Nat)) 1) where
 mem:=by simp
 obj:=fun i h st b af=>by
  have e:b=it:=by simpa using af
  subst e
  exact⟨_,st,fun v z=>by
   have el:Data.fields _=Data.cell v:=z
   cases el⟩
 keep:=fun i h h' st k=>k it (by simp) _ st
 item:=by
  intro X gr hw e4 hc i pins s σ H E I hf st aD;subst gr hw e4;obtain⟨f0,f1,f2,bQ,f4,eo⟩:=hf it (by simp);have W:=Walks.range (prog:=X.prog) (w:=X.w) (I.ok.hd hc) it lo 1 n;refine W.item i s _ _ aD st fun v h' iL aP jH aY=>?_;obtain⟨t,rfl⟩:=aP;have bf:Inv X pins σ H { s with heap:=h',toks:=iL }:=I.turned (fun b o af e=>aY b o (by simpa using af) e) f0 f1 bQ f4 eo;refine⟨_,rfl,uE (s:={ s with heap:=h',toks:=iL }) (n:="range_iterator") jH rfl rfl (by decide) ⟨.int (lo+i),H,bf,⟨t,?_⟩,⟨rfl,rfl⟩,jH,fun b af=>(hf b af).1⟩⟩;rw[abG]
 done:=by
  intro X gr hw e4 hc i pins s σ H E I hf st aD;subst gr hw e4;obtain⟨f0,f1,f2,bQ,f4,eo⟩:=hf it (by simp);exact wpAny_pyNext_range_end (I.ok.hd hc) st (by have:n<=i:=aD;omega) fun h' ep=>⟨rfl,I.turned (t':=s.toks) (fun b o af e=>ep b o af e) f0 f1 bQ f4 eo⟩
 self:=fun _ _ _ _ _ st h=>wpAny_pyIter_rangeiter st h
section
variable{X:aM}{bG:Expr}
def KV(K:PySem.W.Frag)(gG:TE):TI:=fun σ H R=>gG σ H fun x H1=>∃a,x=.ref a/\(∃xs,cJ K H1 a xs)/\R (yX K a) H1
def KW(K:PySem.W.Frag)(gG:TE):TI:=fun σ H R=>gG σ H fun x H1=>∃a,x=.ref a/\(∃xs,en K H1 a xs)/\R (yY K a) H1
theorem Dj{l:Expr}{gG:TE}(aj:b0 X l gG):jG X bG l (KV X.K gG):=by
 intro pins s σ H R I h;refine ck (aj pins s σ H _ I h) fun v s1 ⟨x,H1,bf,au,aW⟩=>?_;obtain⟨a,e,⟨xs,aA⟩,q⟩:=aW;subst e;cases au;obtain⟨its,cb,p,bb⟩:=bf.list aA;refine wpAny_pyIter_list p.isList ?_;refine⟨s1.heap.objs.size,[s1.heap.objs.size],_,_,H1,rfl,bf.kept (t':=s1.toks) fun b o e=>Heap.get?_push_of_some _ e,KR a _,⟨_,Heap.get?_push_size _ rfl,rfl,rfl⟩,fun b af=>?_,q⟩;have e:b=s1.heap.objs.size:=by simpa using af
 subst e;exact bf.fpOk (YK _) (bf.hok.fresh (YK _))
theorem KX{l:Expr}{gG:TE}(aj:b0 X l gG):jG X bG l (KW X.K gG):=by
 intro pins s σ H R I h;refine ck (aj pins s σ H _ I h) fun v s1 ⟨x,H1,bf,au,aW⟩=>?_;obtain⟨a,e,⟨xs,aA⟩,q⟩:=aW;subst e;cases au;obtain⟨its,cb,p,bb⟩:=bf.tuple aA;refine wpAny_pyIter_tuple (show s1.heap.IsTuple a its.toArray from p) ?_;refine⟨s1.heap.objs.size,[s1.heap.objs.size],_,_,H1,rfl,bf.kept (t':=s1.toks) fun b o e=>Heap.get?_push_of_some _ e,KS a _,⟨_,Heap.get?_push_size _ rfl,rfl,rfl⟩,fun b af=>?_,q⟩;have e:b=s1.heap.objs.size:=by simpa using af
 subst e;exact bf.fpOk (YK _) (bf.hok.fresh (YK _))
theorem Dk{pins:List (Addr×Obj)}{σ:St}{H:ao}{s:Shared}{R:hX->ao->Prop}{E:Value->Shared->Prop}{lo aB:Int}{t u v:Tok}{iL:Nat}(I:Inv X pins σ H s)(aa : -(2^62)<=lo)(ab:lo<2^62)(aK : -(2^62)<=aB)(bo:aB<2^62)(q:R (p4 lo (aB-lo).toNat) H):wpAny (model X.prog X.w) X.A (pyIter (.ref s.heap.objs.size)) (Di X pins σ bG R) E { s with heap:=s.heap.push { cls:=.type "range",data:=.fields #[.int lo t,.int aB u,.int 1 v] },toks:=iL }:=by
 refine wpAny_pyIter_range (IsRange.new ..) (small_one aa ab aK bo) ?_;have bf:Inv X pins σ H { s with heap:=s.heap.push { cls:=.type "range",data:=.fields #[.int lo t,.int aB u,.int 1 v] },toks:=iL }:=I.kept fun b o e=>Heap.get?_push_of_some _ e
 refine⟨(s.heap.push { cls:=.type "range",data:=.fields #[.int lo t,.int aB u,.int 1 v] }).objs.size,[(s.heap.push { cls:=.type "range",data:=.fields #[.int lo t,.int aB u,.int 1 v] }).objs.size],_,_,H,rfl,
  bf.kept (t':=iL) fun b o e=>Heap.get?_push_of_some _ e,KU _ lo (aB-lo).toNat,?_,fun b af=>?_,q⟩
 ·have ai:lo+((0:Nat):Int)*1=lo:=by simp
  have av:(((aB-lo).toNat:Nat):Int)-((0:Nat):Int)=Builtin.Range.rangeSize lo aB 1:=by rw[rangeSize_one];split<;>omega
  show IsRangeIter _ _ (lo+((0:Nat):Int)*1) ((((aB-lo).toNat:Nat):Int)-((0:Nat):Int)) 1
  rw[ai,av];exact Heap.get?_push_size _ rfl
 ·have e:b=(s.heap.push { cls:=.type "range",data:=.fields #[.int lo t,.int aB u,.int 1 v] }).objs.size:=by simpa using af
  subst e;exact bf.fpOk (YK _) (bf.hok.fresh (YK _))
def KY(bT:eV):TI:=fun σ H R=>bT σ H fun vs H1=>∃j:Int,vs=[.int j] /\ -(2^62)<=j/\j<2^62/\R (p4 0 j.toNat) H1
def KZ(bT:eV):TI:=fun σ H R=>bT σ H fun vs H1=>∃i j:Int,vs=[.int i,.int j]/\(-(2^62)<=i/\i<2^62 /\ -(2^62)<=j/\j<2^62)/\R (p4 i (j-i).toNat) H1
theorem K0{a:Expr}{bT:eV}{p pos:Pos}(aD:eJ X "range")(hm:X.mg "range"=none)(ay:hn X [a] bT)(aq:starEach [a] X.env=[(false,eval a X.env)]:=by rfl):jG X bG (.Call (.Name "range" p) [a] [] pos) (KY bT):=by
 intro pins s σ H R I h;refine Call_ (p2 I aD hm boot_range (abH (ck (ay pos pins s σ H _ I h) fun us s1 ⟨vs,H1,bf,au,aW⟩=>?_) aq rfl));obtain⟨j,e,aW,bS,q⟩:=aW;subst e;cases au with
 | cons r hE =>
  cases hE;obtain⟨t,rfl⟩:=r;exact call_range_1 (Dk bf (by omega) (by omega) aW bS (by simpa using q))
theorem K1{a b:Expr}{bT:eV}{p pos:Pos}(aD:eJ X "range")(hm:X.mg "range"=none)(ay:hn X [a,b] bT)(aq:starEach [a,b] X.env=[(false,eval a X.env),(false,eval b X.env)]:=by rfl)(jI:starEach [b] X.env=[(false,eval b X.env)]:=by rfl):
  jG X bG (.Call (.Name "range" p) [a,b] [] pos) (KZ bT):=by
 intro pins s σ H R I h;refine Call_ (p2 I aD hm boot_range (abH (ck (ay pos pins s σ H _ I h) fun us s1 ⟨vs,H1,bf,au,aW⟩=>?_) (by rw[aq,jI]) (by rw[jI];rfl)));obtain⟨i,j,e,⟨aW,bS,fC,p5⟩,q⟩:=aW;subst e;cases au with
 | cons r hE =>
  cases hE with
  | cons d0 hE =>
   cases hE;obtain⟨t,rfl⟩:=r;obtain⟨t',rfl⟩:=d0;exact call_range_2 (Dk bf aW bS fC p5 q)
def K2(ft:TI)(g:gq)(tb:fR):fR:=fun D σ H=>ft σ H fun J H1=>∃W:Nat->Nat->St->ao->Prop,(∃m,W 0 m σ H1)/\∀i m σ H,W i m σ H ->
 (J.stop i H/\D.nx σ H)∨(J.go i H/\∃N:St->ao->Prop,(∀a' H',N a' H'->∃m',m'<m/\W (i+1) m' a' H')/\∀x H',J.yld i H x H'->g x σ H' fun p6 aZ=>tb { D with nx:=N,ct:=N,bk:=D.nx } p6 aZ)
def rF(cB:List Addr)(h:Heap):List (Addr×Obj):=cB.filterMap fun b=>(h.get? b).map fun o=>(b,o)
theorem uF{cB:List Addr}{h:Heap}{b:Addr}{o:Obj}(af:b∈cB)(e:h.get? b=some o):(b,o)∈rF cB h:=acN.mpr ⟨b,af,by rw[e];rfl⟩
theorem K3{cB:List Addr}{h:Heap}{p:Addr×Obj}(ag:p∈rF cB h):p.1∈cB/\h.get? p.1=some p.2:=by
 obtain⟨b,af,e⟩:=acN.mp ag;cases q:h.get? b with
 | none=>rw[q]at e;cases e
 | some o =>
  rw[q]at e;have aU:(b,o)=p:=ZH e;subst aU;exact⟨af,q⟩
theorem Inv.pinned{pins:List (Addr×Obj)}{σ:St}{H:ao}{s:Shared}{cB:List Addr}(I:Inv X pins σ H s)(hf:∀b∈cB,jF X pins H b)(aE:∀b∈cB,∃o,s.heap.get? b=some o/\∀v,o.data≠.cell v):Inv X (pins++rF cB s.heap) σ H s :=
 I.pins_of fun p ag=>(ZK.mp ag).elim (fun z=>I.pin p (Z9 _ z)) fun z=>by
  obtain⟨af,e⟩:=K3 z;obtain⟨f0,f1,f2,_⟩:=hf p.1 af;obtain⟨o,aU,d⟩:=aE p.1 af;rw[e]at aU;cases aU;exact⟨e,f0,f1,f2,d⟩
theorem Inv.unpinned{pins c1:List (Addr×Obj)}{σ:St}{H:ao}{s:Shared}(I:Inv X (pins++c1) σ H s):Inv X pins σ H s:=I.pins_of fun p ag=>I.pin p (Z9 _ (aaD _ ag))
theorem uG{iter:Expr}{body:List Stmt}{ft:TI}{g:gq}{tb:fR}{pos:Pos}(ag:PassesOwn (model X.prog X.w) X.A X.env X.xe)(hc:X.calm=true)(aB:jG X bG iter ft)(aD:iK X bG g)(af:ib X body tb)(aq:∀x,foldedSetIterable iter X.env x=pure x:=by intro _;rfl):ia X (.For bG iter body [] pos) (K2 ft g tb):=by
 intro pins s σ H D I h;refine wpAny_For (ck (aB pins s σ H _ I h) fun v s1 aa=>ck aa fun m9 s2 ab=>?_) aq;obtain⟨it,cB,hG,J,aZ,e,ec,T,oI,f2,W,⟨m0,w0⟩,turn⟩:=ab;subst e;have oJ:∀{H':ao},(∀b∈cB,H' b=none)->∀b∈cB,jF X pins H' b:=fun aN b af=>⟨aN b af,(f2 b af).2⟩;refine codeAny_forLoop_any (fun n s'=>∃i a' H',Inv X pins a' H' s'/\hG i s'.heap/\(∀b∈cB,H' b=none)/\W i n a' H') ?_ m0 ⟨0,σ,aZ,ec,oI,fun b af=>(f2 b af).1,w0⟩;rintro n s3 ⟨i,fS,cP,de,Dl,Dm,rE⟩;rcases turn i n fS cP rE with⟨stop,Dn⟩|⟨go,N,bI,step⟩
 ·refine wpAny_passesOwn ag (ck (T.done X rfl rfl rfl hc i pins s3 fS cP X.xe de (oJ Dm) Dl stop) fun r s4 ⟨ak,m8⟩=>?_);subst ak;exact wpAny_execs_nil ⟨fS,cP,m8,Dn⟩
 ·refine wpAny_passesOwn ag (ck (T.item X rfl rfl rfl hc i pins s3 fS cP X.xe de (oJ Dm) Dl go) fun r s4 ⟨u,ak,bo⟩=>?_);subst ak;refine wpAny_passesOwn ag (ck bo fun _ s5 ⟨x,fI,oH,K4,K5,p7,uH⟩=>?_);have K6:=oH.pinned (oJ uH) (T.obj _ _ p7);refine wpAny_passesOwn ag (ck (aD _ s5 fS fI x u _ K6 K4 (step x fI K5)) fun _ hY ⟨K7,K8,jJ,yZ⟩=>?_);refine wpAny_passesOwn ag (ck (af _ hY K7 K8 _ jJ yZ) fun f mb k9=>?_)
  have again:∀{ki:St}{iM:ao},Inv X (pins++rF cB s5.heap) ki iM mb->N ki iM->∃m,m<n/\∃i a' H',Inv X pins a' H' mb/\hG i mb.heap/\(∀b∈cB,H' b=none)/\W i m a' H':=fun{ki iM} hZ kj=>by
   obtain⟨m',hm,K9⟩:=bI ki iM kj;refine⟨m',hm,i+1,ki,iM,hZ.unpinned,T.keep _ _ _ p7 fun b af o e=>(hZ.pin (b,o) (Z9 _ (Z9 _ (uF af e)))).1,fun b af=>?_,K9⟩;obtain⟨o,e,d⟩:=T.obj _ _ p7 b af;exact(hZ.pin (b,o) (Z9 _ (Z9 _ (uF af e)))).2.1
  cases f with
  | next=>obtain⟨ki,iM,hZ,kj⟩:=k9;exact again hZ kj
  | cont=>obtain⟨ki,iM,hZ,kj⟩:=k9;exact again hZ kj
  | brk=>obtain⟨ki,iM,hZ,k9⟩:=k9;exact⟨ki,iM,hZ.unpinned,k9⟩
  | ret v=>obtain⟨K',ki,iM,hZ,y0,k9⟩:=k9;exact⟨K',ki,iM,hZ.unpinned,y0,k9⟩
end
abbrev e5:=V->V->ao->cO->Prop
def fJ(X:aM)(f:Value->Value->Sem Value)(r:e5):Prop :=
 ∀(pins:List (Addr×Obj))(s:Shared)(σ:St)(H:ao)(x y:V)(v u:Value)(Q:cO),Inv X pins σ H s->RelV x v->RelV y u->r x y H Q ->
  wpAny (model X.prog X.w) X.A (f v u) (hl X pins σ Q) X.xe s
def y1(X:aM)(f:Value->Sem Value)(r:V->ao->cO->Prop):Prop :=
 ∀(pins:List (Addr×Obj))(s:Shared)(σ:St)(H:ao)(x:V)(v:Value)(Q:cO),Inv X pins σ H s->RelV x v->r x H Q ->
  wpAny (model X.prog X.w) X.A (f v) (hl X pins σ Q) X.xe s
def nc(X:aM)(f:Value)(r:List V->ao->cO->Prop):Prop :=
 ∀(pins:List (Addr×Obj))(s:Shared)(σ:St)(H:ao)(xs:List V)(us:List Value)(Q:cO),Inv X pins σ H s->Vals xs us->r xs H Q ->
  wpAny (model X.prog X.w) X.A (call f us) (hl X pins σ Q) X.xe s
def La(X:aM)(r:V->ao->(Bool->ao->Prop)->Prop):Prop :=
 ∀(pins:List (Addr×Obj))(s:Shared)(σ:St)(H:ao)(x:V)(v:Value)(Q:Bool->ao->Prop),Inv X pins σ H s->RelV x v->r x H Q ->
  wpAny (model X.prog X.w) X.A (truthy v) (uw X pins σ Q) X.xe s
def mc(r:e5)(bT tb:TE):TE:=fun σ H Q=>bT σ H fun x H1=>tb σ H1 fun y aZ=>r x y aZ Q
def y2(r:V->ao->cO->Prop)(bT:TE):TE:=fun σ H Q=>bT σ H fun x H1=>r x H1 Q
def p8(C:Int->Int->Prop)(g:Int->Int->V):e5:=fun x y H Q=>∃i j,x=.int i/\y=.int j/\C i j/\Q (g i j) H
def jK(g:Int->Int->V):e5:=fun x y H Q=>∃i j,x=.int i/\y=.int j/\Q (g i j) H
def y3(g:Int->V):V->ao->cO->Prop:=fun x H Q=>∃i,x=.int i/\Q (g i) H
section
variable{X:aM}{a b c:Expr}{bT tb tc:TE}{pos:Pos}
theorem y4(ay:b0 X a bT)(af:b0 X b tb){pins:List (Addr×Obj)}{s:Shared}{σ:St}{H:ao}{R:V->V->ao->Prop}(I:Inv X pins σ H s)(h:bT σ H fun x H1=>tb σ H1 fun y aZ=>R x y aZ){Q:Value->Shared->Prop}{f:Value->Value->Sem Value}(hf:∀v u s2 x y aZ,Inv X pins σ aZ s2->RelV x v->RelV y u->R x y aZ->wpAny (model X.prog X.w) X.A (f v u) Q X.xe s2):
  wpAny (model X.prog X.w) X.A (eval a X.env) (fun v dN=>wpAny (model X.prog X.w) X.A (eval b X.env) (fun u yW=>wpAny (model X.prog X.w) X.A (f v u) Q X.xe yW) X.xe dN) X.xe s:=by
 refine ck (ay pins s σ H _ I h) fun v s1 ⟨x,H1,bf,au,aW⟩=>?_;refine ck (af pins s1 σ H1 _ bf aW) fun u s2 ⟨y,aZ,ec,aG,bS⟩=>?_;exact hf v u s2 x y aZ ec au aG bS
theorem fj{op:Operator}{r:e5}(aE:fJ X (binaryOp op) r)(ay:b0 X a bT)(af:b0 X b tb):b0 X (.BinOp a op b pos) (mc r bT tb):=by
 intro pins s σ H Q I h;exact wpAny_BinOp (y4 ay af I h fun v u s2 x y aZ ec bg cu q=>aE pins s2 σ aZ x y v u Q ec bg cu q)
theorem Lb{op:UnaryOp}{r:V->ao->cO->Prop}(aE:y1 X (unaryOp op) r)(ay:b0 X a bT):b0 X (.UnaryOp op a pos) (y2 r bT):=by
 intro pins s σ H Q I h;exact UnaryOp_ (ck (ay pins s σ H _ I h) fun v s1 ⟨x,H1,bf,au,aW⟩=>aE pins s1 σ H1 x v Q bf au aW)
theorem uI{f:Value->Value->Sem Value}{C:Int->Int->Prop}{g:Int->Int->Int}(rule:∀(i j:Int) (t u:Tok) (s:Shared) (Q:Value->Shared->Prop) (E:Value->Shared->Prop),C i j->Q (.int (g i j) s.toks) { s with toks:=s.toks+1 }->wpAny (model X.prog X.w) X.A (f (.int i t) (.int j u)) Q E s):
  fJ X f (p8 C fun i j=>.int (g i j)):=by
 intro pins s σ H x y v u Q I bg cu h;obtain⟨i,j,rfl,rfl,hc,q⟩:=h;obtain⟨t,rfl⟩:=bg;obtain⟨t',rfl⟩:=cu;exact rule i j t t' s _ _ hc ⟨.int (g i j),H,I.tok _,⟨_,rfl⟩,q⟩
theorem Dp{f:Value->Value->Sem Value}{g:Int->Int->Int}(rule:∀(i j:Int) (t u:Tok) (s:Shared) (Q:Value->Shared->Prop) (E:Value->Shared->Prop),Q (.int (g i j) s.toks) { s with toks:=s.toks+1 }->wpAny (model X.prog X.w) X.A (f (.int i t) (.int j u)) Q E s):
  fJ X f (jK fun i j=>.int (g i j)):=by
 intro pins s σ H x y v u Q I bg cu h;obtain⟨i,j,rfl,rfl,q⟩:=h;obtain⟨t,rfl⟩:=bg;obtain⟨t',rfl⟩:=cu;exact rule i j t t' s _ _ ⟨.int (g i j),H,I.tok _,⟨_,rfl⟩,q⟩
theorem p9{f:Value->Value->Sem Value}{g:Int->Int->Bool}(rule:∀(i j:Int) (t u:Tok) (s:Shared) (Q:Value->Shared->Prop) (E:Value->Shared->Prop),Q (.bool (g i j)) s->wpAny (model X.prog X.w) X.A (f (.int i t) (.int j u)) Q E s):
  fJ X f (jK fun i j=>.bl (g i j)):=by
 intro pins s σ H x y v u Q I bg cu h;obtain⟨i,j,rfl,rfl,q⟩:=h;obtain⟨t,rfl⟩:=bg;obtain⟨t',rfl⟩:=cu;exact rule i j t t' s _ _ ⟨.bl (g i j),H,I,rfl,q⟩
def Dq(i j:Int):Prop:=0<=j/\j<=1000000/\i.natAbs<2^64
theorem uJ:fJ X (binaryOp .Add) (jK fun i j=>.int (i+j)):=Dp fun _ _ _ _ _ _ _ q=>add_int q
theorem Lc:fJ X (binaryOp .Sub) (jK fun i j=>.int (i-j)):=Dp fun _ _ _ _ _ _ _ q=>sub_int q
theorem md:fJ X (binaryOp .Mod) (p8 (fun _ j=>0<j) fun i j=>.int (i%j)):=uI fun i j _ _ _ _ _ hc q=>by
 have aa:(0:Int)<j:=hc;exact mod_int' (by omega) (by rw[Int.fmod_eq_emod_of_nonneg i (by omega)];exact q)
theorem y5:fJ X (binaryOp .Pow) (p8 Dq fun i j=>.int (i^j.toNat)):=uI fun _ _ _ _ _ _ _ hc q=>pow_int_small hc.1 hc.2.1 hc.2.2 q
theorem Ld{f:Value->Sem Value}{g:Int->Int}(rule:∀(i:Int) (t:Tok) (s:Shared) (Q:Value->Shared->Prop) (E:Value->Shared->Prop),Q (.int (g i) s.toks) { s with toks:=s.toks+1 }->wpAny (model X.prog X.w) X.A (f (.int i t)) Q E s):
  y1 X f (y3 fun i=>.int (g i)):=by
 intro pins s σ H x v Q I bg h;obtain⟨i,rfl,q⟩:=h;obtain⟨t,rfl⟩:=bg;exact rule i t s _ _ ⟨.int (g i),H,I.tok _,⟨_,rfl⟩,q⟩
theorem Le:y1 X (unaryOp .USub) (y3 fun i=>.int (-i)):=Ld fun _ _ _ _ _ q=>neg_int q
end
section
variable{X:aM}{a b c:Expr}{bT tb tc:TE}{pos:Pos}
theorem lg:fJ X (compareOp .Lt) (jK fun i j=>.bl (decide (i<j))):=p9 fun _ _ _ _ _ _ _ q=>lt_int q
theorem Lf:fJ X (compareOp .LtE) (jK fun i j=>.bl (decide (i<=j))):=p9 fun _ _ _ _ _ _ _ q=>le_int q
theorem p':fJ X (compareOp .Gt) (jK fun i j=>.bl (decide (j<i))):=p9 fun _ _ _ _ _ _ _ q=>gt_int q
theorem uK:fJ X (compareOp .GtE) (jK fun i j=>.bl (decide (j<=i))):=p9 fun _ _ _ _ _ _ _ q=>ge_int q
theorem dv(b:Expr){op:CmpOp}(h:op≠.In:=by decide)(ab:op≠.NotIn:=by decide):behindInMarks op b=false:=by
 have ai:(op==CmpOp.In)=false:=by cases op<;>first|rfl|exact absurd rfl h
 have av:(op==CmpOp.NotIn)=false:=by cases op<;>first|rfl|exact absurd rfl ab
 cases b<;>simp[behindInMarks,ai,av]
theorem uL{op:CmpOp}{r:e5}(aE:fJ X (compareOp op) r)(ay:b0 X a bT)(af:b0 X b tb)(hm:behindInMarks op b=false):b0 X (.Compare a [op] [b] pos) (mc r bT tb):=by
 intro pins s σ H Q I h;exact wpAny_Compare1 (y4 ay af I h fun v u s2 x y aZ ec bg cu q=>aE pins s2 σ aZ x y v u Q ec bg cu q) hm
def Lg(t:TE):TT:=fun σ H Q=>t σ H fun x H'=>∃k,x=.bl k/\Q k H'
theorem qa{op:CmpOp}{r:e5}(aE:fJ X (compareOp op) r)(ay:b0 X a bT)(af:b0 X b tb)(hm:behindInMarks op b=false):h9 X (.Compare a [op] [b] pos) (Lg (mc r bT tb)):=by
 intro pins s σ H Q I h
 refine wpAny_isTrue_Compare1 (ck (ay pins s σ H _ I h) fun v s1 ⟨x,H1,bf,au,aW⟩=>ck (af pins s1 σ H1 _ bf aW) fun u s2 ⟨y,aZ,ec,aG,bS⟩ =>
  ck (aE pins s2 σ aZ x y v u _ ec au aG bS) fun c s3 ⟨z,cP,de,f7,k,e,fC⟩=>?_) hm
 subst e;cases f7;exact wpAny_truthy_bool ⟨cP,de,fC⟩
def Dr(K:PySem.W.Frag)(x:V)(H:ao)(k:Bool):Prop :=
 match x with
 | .non=>k=false
 | .bl b=>k=b
 | .int i=>k=(i != 0)
 | .str y=>y.length<=sizeLine/\k=((y.length:Int) != 0)
 | .byt y=>y.size<=sizeLine/\k=((y.size:Int) != 0)
 | .ref p=>(∃xs,cJ K H p xs/\k = !xs.isEmpty)∨(∃xs,en K H p xs/\k = !xs.isEmpty)∨∃kvs,H p=some (.dK kvs)/\k = !kvs.isEmpty
 | _=>False
theorem Lh{κ:Type}{kvs:List (κ×V)}{vs:List (κ×Value)}(r:yO kvs vs):(!vs.isEmpty) = !kvs.isEmpty:=by
 cases r<;>rfl
theorem Ds{xs:List V}{its:List Value}(r:Vals xs its):(!its.toArray.isEmpty) = !xs.isEmpty:=by
 cases r<;>simp
theorem rG:(sizeLine:Nat)<2^63:=by rw[sizeLine_eq];decide
theorem Li:La X (fun x H Q=>∃k,Dr X.K x H k/\Q k H):=by
 intro pins s σ H x v Q I bg h;obtain⟨k,e,q⟩:=h;have aj:=rG;have aq:sizeLine=16777216:=sizeLine_eq;cases x with
 | non =>
  cases bg;have aU:k=false:=e;subst aU;exact truthy_none ⟨H,I,q⟩
 | bl b =>
  cases bg;have aU:k=b:=e;subst aU;exact wpAny_truthy_bool ⟨H,I,q⟩
 | int i =>
  obtain⟨t,rfl⟩:=bg;have aU:k=(i != 0):=e;subst aU;exact PySem.P.truthy_int ⟨H,I,q⟩
 | str y =>
  obtain⟨t,rfl⟩:=bg;obtain⟨a6,aU⟩:y.length<=sizeLine/\k=((y.length:Int) != 0):=e;subst aU;exact PySem.P.truthy_str (by omega) ⟨H,I.tok _,q⟩
 | byt y =>
  obtain⟨t,rfl⟩:=bg;obtain⟨a6,aU⟩:y.size<=sizeLine/\k=((y.size:Int) != 0):=e;subst aU;exact PySem.W.truthy_bytes (by omega) ⟨H,I.tok _,q⟩
 | ref p =>
  cases bg;have aU:(∃xs,cJ X.K H p xs/\k = !xs.isEmpty)∨(∃xs,en X.K H p xs/\k = !xs.isEmpty)∨∃kvs,H p=some (.dK kvs)/\k = !kvs.isEmpty:=e;rcases aU with⟨xs,aC,aU⟩|⟨xs,aC,aU⟩|⟨kvs,aC,aU⟩
  ·subst aU;obtain⟨its,r,c1,bb⟩:=I.list aC;have hlen:=r.length;exact wpAny_truthy_list c1.isList (by simp only[ZM];omega) ⟨H,I.tok _,by rw[Ds r];exact q⟩
  ·subst aU;obtain⟨its,r,c1,bb⟩:=I.tuple aC;have hlen:=r.length;exact truthy_tuple c1 (by simp only[ZM];omega) ⟨H,I.tok _,by rw[Ds r];exact q⟩
  ·subst aU;obtain⟨bb,cp,vs,r,m⟩:kvs.length<=sizeLine/\(p==sysModules)=false/\∃vs,yO kvs vs/\s.heap.DictOf (yN X.prog X.w) p vs:=I.hok p _ aC;have hlen:kvs.length=vs.length:=Paired.length r;exact wpAny_truthy_dict cp m (by omega) ⟨H,I.tok _,by rw[Lh r];exact q⟩
 | _=>exact(show False from e).elim
theorem Lj(ay:b0 X a bT)(he:∀whole,isTrue a X.env whole=(do let v <-whole;standAt a.pos;holding [v] (truthy v))):
  h9 X a (fun σ H Q=>bT σ H fun x H'=>∃k,Dr X.K x H' k/\Q k H'):=by
 intro pins s σ H Q I h;exact isTrue_plain (ck (ay pins s σ H _ I h) fun v s1 ⟨x,H1,bf,au,aW⟩=>Li pins s1 σ H1 x v Q bf au aW) (he _)
theorem vals1{x:V}{us:List Value}(r:Vals [x] us):∃u,us=[u]/\RelV x u:=by
 cases r with
 | cons au aG=>cases aG;exact⟨_,rfl,au⟩
theorem vals2{x y:V}{us:List Value}(r:Vals [x,y] us):∃u k8,us=[u,k8]/\RelV x u/\RelV y k8:=by
 cases r with
 | cons au aG =>
  cases aG with
  | cons f7 rH=>cases rH;exact⟨_,_,rfl,au,f7⟩
theorem Lk:nc X (.builtin "abs") (fun xs H Q=>∃i,xs=[.int i]/\Q (.int (if i<0 then -i else i)) H):=by
 intro pins s σ H xs us Q I r h;obtain⟨i,rfl,q⟩:=h;obtain⟨u,rfl,t,rfl⟩:=vals1 r;exact call_abs_int fun u iL=>⟨.int (if i<0 then -i else i),H,I.tok _,⟨_,rfl⟩,q⟩
theorem Ll:nc X (.type "int") (fun xs H Q=>(∃i,xs=[.int i]/\Q (.int i) H)∨∃k,xs=[.bl k]/\Q (.int (if k then 1 else 0)) H):=by
 intro pins s σ H xs us Q I r h;rcases h with⟨i,rfl,q⟩|⟨k,rfl,q⟩
 ·obtain⟨u,rfl,t,rfl⟩:=vals1 r;exact call_int_int ⟨.int i,H,I,⟨_,rfl⟩,q⟩
 ·obtain⟨u,rfl,au⟩:=vals1 r;cases au;exact call_int_bool ⟨.int (if k then 1 else 0),H,I.tok _,⟨_,rfl⟩,q⟩
end
structure y6 (h:Heap) (x d5 C:Addr) (fp:Str->Option Value):Prop where
 obj:h.get? x=some (PySem.W.instObj C d5)
 ns:h.Ns1 d5 fp
 ne:d5≠x
theorem Lm{h:Heap}{d5:Addr}{fp:Str->Option Value}(n:h.Ns1 d5 fp):∃od,h.get? d5=some od/\∀name,PySem.W.lookIn name od=some (fp name):=by
 obtain⟨o,es,br,aE,hd,ah,_,hm⟩:=n;refine⟨o,aE,fun name=>?_⟩;have e:=hm name;unfold nsFind findBy at e;rw[<-Array.find?_toList]at e;unfold PySem.W.lookIn;rw[hd];dsimp only;split
 ·rename_i y q
  rw[q]at e;exact congrArg some e
 ·rename_i q
  rw[q]at e
  have a:es.toList.any (·.refKey)=false:=by
   rw[List.any_eq_false];intro y a6;obtain⟨z,t,Ln⟩:=ah y (Array.mem_toList_iff.mp a6);simp[DictEntry.refKey,Ln]
  have ez:¬es.toList.any (·.refKey)=true:=by rw[a];exact ZR
  rw[if_neg ez];exact congrArg some e
theorem y6.look{h:Heap}{x d5 C:Addr}{fp:Str->Option Value}(I:y6 h x d5 C fp):∃od,PySem.W.InstAt h x (PySem.W.instObj C d5) C (some od)/\∀name,PySem.W.lookIn name od=some (fp name):=
 let⟨od,aE,aj⟩:=Lm I.ns
 ⟨od,⟨I.obj,rfl,rfl,aE⟩,aj⟩
theorem m2.some_of{v:V}{o:Option Value}(r:m2 (some v) o):∃u,o=some u/\RelV v u:=by
 cases o with
 | none=>exact(show False from r).elim
 | some u=>exact⟨u,rfl,r⟩
section
variable{P:Program}{w:World}{H H':ao}{h h':Heap}{a C d5:Addr}{fs J0:List (Str×V)}
theorem Lo(hok:ej P w H h)(e:H a=some (.ins C d5 fs)):∃fp,y6 h a d5 C fp/\(∀f,m2 (fs.lookup f) (fp f))/\PySem.Within fp (fs.map (·.1))/\fs.length<=1000/\H d5=some (.own a):=by
 obtain⟨d,z,ne,cI,fp,n,r,q⟩:=(show fQ P w H h a (.ins C d5 fs)from hok a _ e);exact⟨fp,⟨cI,n,ne⟩,r,q,z,d⟩
end
structure y7 (K:PySem.W.Frag) (C:Addr):Prop where
 pg:PySem.W.plainGet K C Str.empty=true
 hd:PySem.W.hasDictIn K C=true
 po:PySem.W.plainOver K C=true
 sa:PySem.W.findIn K (.ref C) "__setattr__"=some (some (.builtin "object.__setattr__"))
theorem y7.get{K:PySem.W.Frag}{C:Addr}(c:y7 K C)(f:Str):PySem.W.plainGet K C f=true:=c.pg
section
variable{X:aM}{pins:List (Addr×Obj)}{σ:St}{H:ao}{s:Shared}{A:Around}{E:Value->Shared->Prop}{Q:Value->Shared->Prop}{c:Value}{b:Bool}
inductive iN (K:PySem.W.Frag) (H:ao):V->Value->Prop where
 | non:iN K H .non (.type "NoneType")
 | bl (x:Bool):iN K H (.bl x) (.type "bool")
 | int (i:Int):iN K H (.int i) (.type "int")
 | str (x:Str):iN K H (.str x) (.type "str")
 | flt (x:UInt64):iN K H (.flt x) (.type "float")
 | lst {a:Addr} {xs:List V} (e:H a=some (.lst xs)):iN K H (.ref a) (.type "list")
 | frz {a:Addr} {o:Obj} {xs:List V} (e:H a=some (.frz o (.lst xs))):iN K H (.ref a) (.type "list")
 | tup {a:Addr} {xs:List V} (e:H a=some (.tup xs)):iN K H (.ref a) (.type "tuple")
 | dK {a:Addr} {kvs:List (Key×V)} (e:H a=some (.dK kvs)):iN K H (.ref a) (.type "dict")
 | dT {a:Addr} {kvs:List (List Key×V)} (e:H a=some (.dT kvs)):iN K H (.ref a) (.type "dict")
 | ins {a C d5:Addr} {fs:List (Str×V)} (e:H a=some (.ins C d5 fs)) (cl:y7 K C) (ay:PySem.W.findIn K (.ref C) "__class__"=some (some (.builtin "object.__class__")))
   (aN:PySem.W.specialIn K (.builtin "object.__class__") "__get__"=some (some (.builtin "getset_descriptor.__get__"))) (Dt:PySem.W.takesIn K (.builtin "object.__class__")=some true)
   (hm:PySem.W.mroIn K C (.type "object")=some true):iN K H (.ref a) (.ref C)
theorem Lp{x:V}{u t:Value}(I:Inv X pins σ H s)(bg:RelV x u)(ty:iN X.K H x t)(e:aca X.K t c=some b)(h:∀iL,Q (.bool b) { s with toks:=iL }):
  wpAny (model X.prog X.w) A (call (.builtin "isinstance") [u,c]) Q E s:=by
 cases ty with
 | non=>cases(show u=Value.none from bg);exact aap PySem.W.kitx_none I.kIn abp e (fun z=>nomatch z) h
 | bl y=>cases(show u=Value.bool y from bg);exact aap PySem.W.kitx_bool I.kIn abp e (fun z=>nomatch z) h
 | int i=>obtain⟨t,q⟩:=(show ∃t,u=Value.int i t from bg);cases q;exact aap PySem.W.kitx_int I.kIn abp e (fun z=>nomatch z) h
 | str y=>obtain⟨t,q⟩:=(show ∃t,u=Value.str y t from bg);cases q;exact aap PySem.W.kitx_str I.kIn abp e (fun z=>nomatch z) h
 | flt y=>obtain⟨t,q⟩:=(show ∃t,u=Value.float y t from bg);cases q;exact aap PySem.W.kitx_float I.kIn abp e (fun z=>nomatch z) h
 | @lst a xs dm =>
  cases(show u=Value.ref a from bg);obtain⟨_,_,n,_,aa⟩:=(show fQ X.prog X.w H s.heap a (.lst xs)from I.hok a _ dm);exact aap acO I.kIn ⟨_,aa,rfl⟩ e (fun z=>nomatch z) h
 | @frz a cI xs dm =>
  cases(show u=Value.ref a from bg);obtain⟨_,_,_,n,_,aa⟩:=(show fQ X.prog X.w H s.heap a (.frz cI (.lst xs))from I.hok a _ dm);exact aap acO I.kIn ⟨_,aa,rfl⟩ e (fun z=>nomatch z) h
 | @tup a xs dm =>
  cases(show u=Value.ref a from bg);obtain⟨_,_,_,p⟩:=(show fQ X.prog X.w H s.heap a (.tup xs)from I.hok a _ dm);obtain⟨o,aa,ab,_⟩:=p;exact aap PySem.W.kitx_tuple I.kIn ⟨o,aa,ab⟩ e (fun z=>nomatch z) h
 | @dK a kvs dm =>
  cases(show u=Value.ref a from bg);obtain⟨_,_,vs,_,p⟩:=(show fQ X.prog X.w H s.heap a (.dK kvs)from I.hok a _ dm);obtain⟨o,es,br,aa,ab,_⟩:=p;exact aap acP I.kIn ⟨o,aa,ab.1⟩ e (fun z=>nomatch z) h
 | @dT a kvs dm =>
  cases(show u=Value.ref a from bg);obtain⟨_,_,xs,_,o,es,br,aa,ab,_⟩:=(show fQ X.prog X.w H s.heap a (.dT kvs)from I.hok a _ dm);exact aap acP I.kIn ⟨o,aa,ab.1⟩ e (fun z=>nomatch z) h
 | @ins a C d5 fs dm cl ay aN Dt hm =>
  cases(show u=Value.ref a from bg);obtain⟨fp,O,_⟩:=Lo I.hok dm;obtain⟨od,J,_⟩:=O.look;exact aap (PySem.W.kitx_own (cl.get _) cl.hd ay aN Dt hm) I.kIn J e (fun z=>nomatch z) h
end
structure eA (k:Nat) (A:Around):Prop where
 hd:A.handled=none
 dp:A.depth+3*k+5<recursionLimit
 un:A.units+16*k+200<cLine
theorem eA.mono{j k:Nat}{A:Around}(r:eA k A)(h:j<=k):eA j A:=⟨r.hd,by have:=r.dp;omega,by have:=r.un;omega⟩
theorem eA.deeper{k:Nat}{A:Around}(r:eA (k+1) A)(env:Env):eA k (A.deeper env):=
 ⟨r.hd,by have:=r.dp;show A.depth+1+3*k+5<_;omega,by have:=r.un;show A.units+3+16*k+200<_;omega⟩
theorem eA.depth{k:Nat}{A:Around}(r:eA k A):A.depth<recursionLimit:=by have:=r.dp;omega
theorem eA.units{k:Nat}{A:Around}(r:eA k A):A.units+64<cLine:=by have:=r.un;omega
def y8:eV:=fun _ H Q=>Q [] H
def y9(bT:TE)(Lq:eV):eV:=fun σ H Q=>bT σ H fun x H1=>Lq σ H1 fun xs aZ=>Q (x::xs) aZ
section
variable{X:aM}{e:Expr}{es:List Expr}{cD:TE}{t:eV}{pos:Pos}
theorem fK:hn X [] y8:=fun _ _ _ _ H Q I h=>Calls.spliced_nil ⟨[],H,I,.nil,h⟩
theorem er(ay:b0 X e cD)(ak:hn X es t)(aq:starEach (e::es) X.env=(false,eval e X.env)::starEach es X.env:=by rfl):hn X (e::es) (y9 cD t):=by
 intro pos pins s σ H Q I h;rw[aq];show wpAny _ _ (spliced ((false,eval e X.env)::backTo pos (starEach es X.env))) _ _ s
 refine Calls.spliced_cons (ck (ay pins s σ H _ I h) fun u s1 ⟨x,H1,bf,au,aW⟩=>?_);exact ck (ak pos pins s1 σ H1 _ bf aW) fun us s2 ⟨xs,aZ,ec,aG,bS⟩=>⟨x::xs,aZ,ec,.cons au aG,bS⟩
def Lr(t:eV):TE:=fun σ H Q=>t σ H fun xs H1=>xs.length<=sizeLine/\∀p,H1 p=none->Q (.ref p) (upd H1 p (.tup xs))
def Ls(t:eV):TE:=fun σ H Q=>t σ H fun xs H1=>xs.length<=sizeLine/\∀p,H1 p=none->Q (.ref p) (upd H1 p (.lst xs))
theorem y'{bK}(h:hn X es t):b0 X (.Tuple es bK pos) (Lr t):=by
 intro pins s σ H Q I aA;refine wpAny_Tuple_spliced (ck (h pos pins s σ H _ I aA) fun us s1 ⟨xs,H1,bf,r,z,q⟩=>⟨by rw[<-r.length];exact z,?_⟩);have hf:H1 s1.heap.objs.size=none:=bf.hok.fresh (YK _);refine⟨.ref s1.heap.objs.size,upd H1 s1.heap.objs.size (.tup xs),bf.laid (t':=s1.toks) (fun b u e=>Heap.get?_push_of_some _ e) (YK _) ?_,rfl,q _ hf⟩;exact⟨z,us,r,⟨_,Heap.get?_push_size _ rfl,rfl,_,rfl⟩⟩
theorem za(h:hn X es t):b0 X (.List es pos) (Ls t):=by
 intro pins s σ H Q I aA;refine wpAny_List_spliced (ck (h pos pins s σ H _ I aA) fun us s1 ⟨xs,H1,bf,r,z,q⟩=>⟨by rw[<-r.length];exact z,?_⟩);have hf:H1 s1.heap.objs.size=none:=bf.hok.fresh (YK _);refine⟨.ref s1.heap.objs.size,upd H1 s1.heap.objs.size (.lst xs),bf.laid (t':=s1.toks) (fun b u e=>Heap.get?_push_of_some _ e) (YK _) ?_,rfl,q _ hf⟩;exact⟨z,us,0,r,Heap.get?_push_size _ rfl⟩
end
abbrev gH:=List V->ao->cO->fB->Prop
abbrev kk:=List Env->ao->Shared->fB->Value->Shared->Prop
structure uM (P:Program) (w:World) (K:PySem.W.Frag) (mg:Str->Option Value) (base:Heap) (A:Around) (outer:List Env) (s:Shared) (H:ao):Prop where
 frames:A.frames=some outer
 mod:Mod K mg base
 bs:∀b o,base.get? b=some o->s.heap.get? b=some o/\H b=none
 bsz:base.objs.size<=s.heap.objs.size
 funs:s.heap.FunFrames base outer
 frf:∀b∈jD outer,H b=none
 hok:ej P w H s.heap
 bare:AllBare s.gens
def zb(outer:List Env)(P:Program)(w:World)(H:ao)(s:Shared)(Q:cO)(u:Value)(s':Shared):Prop :=
 ∃v H',s'.os=s.os/\AllBare s'.gens/\fq (jD outer) [] H H' s.heap s'.heap/\ej P w H' s'.heap/\RelV v u/\Q v H'
def Lu(ff:kk)(outer:List Env)(P:Program)(w:World)(H:ao)(s:Shared)(Q:cO)(E:fB)(r:Result)(s':Shared):Prop :=
 match r with
 | .ok (.ret u)=>zb outer P w H s Q u s'
 | .ok _=>False
 | .error e=>ff outer H s E e s'
structure iO (P:Program) (w:World) (K:PySem.W.Frag) (mg:Str->Option Value) (base:Heap) (ff:kk) (k:Nat) (f:Addr) (fd:FuncData) (ps:List Str) (sp:gH):Prop where
 len:∀vs H Q E,sp vs H Q E->vs.length=ps.length
 run:∀(A:Around)(outer:List Env)(s:Shared)(H:ao)(args:Args)(us:List Value)(vs:List V)(Q:cO)(E:fB),eA k A->uM P w K mg base A outer s H->BindsTo s fd args (ps.zip us)->Vals vs us->sp vs H Q E ->
  codeAny (model P w) A (.call (.ref f) args) (Lu ff outer P w H s Q E) s
theorem iO.imp{P:Program}{w:World}{K:PySem.W.Frag}{mg:Str->Option Value}{base:Heap}{ff:kk}{k:Nat}{f:Addr}{fd:FuncData}{ps:List Str}{sp rJ:gH}(F:iO P w K mg base ff k f fd ps sp)(h:∀vs H Q E,rJ vs H Q E->sp vs H Q E):iO P w K mg base ff k f fd ps rJ :=
 ⟨fun vs H Q E q=>F.len vs H Q E (h _ _ _ _ q),fun A outer s H args us vs Q E ak he af aP aq=>F.run A outer s H args us vs Q E ak he af aP (h _ _ _ _ aq)⟩
section
variable{X:aM}{pins:List (Addr×Obj)}{σ:St}{H:ao}{s s':Shared}
theorem Inv.env0(I:Inv X pins σ H s):uM X.prog X.w X.K X.mg X.base X.A X.stack s H :=
 ⟨I.ok.frames,I.ok.mod,I.bs,Gg I.ok.bsz I.sz,I.stack,I.stkFree,I.hok,I.bare⟩
theorem Inv.after{Q:cO}{u:Value}(I:Inv X pins σ H s)(h:zb X.stack X.prog X.w H s Q u s'):hl X pins σ Q u s':=by
 obtain⟨v,H',os,bare,un,hok,r,q⟩:=h;obtain⟨et,g,d,t,Lv⟩:=s';obtain rfl:Lv=s.os:=os;exact⟨v,H',I.call (h':=et) (g':=g) (d':=d) (t':=t) (ch:=[]) un hok bare (fun b z=>absurd z (by simp)),r,q⟩
end
def uN(sp:gH)(nf:List V)(E:fB)(t:eV):TE:=fun σ H Q=>t σ H fun vs H1=>sp (vs++nf) H1 Q E
def Binds(K:PySem.W.Frag)(fd:FuncData)(ps:List Str)(ds:List Value):Prop :=
 ∀(s:Shared)(us:List Value),K.In s.heap->(us++ds).length=ps.length->BindsTo s fd ⟨us,[]⟩ (ps.zip (us++ds))
theorem Binds.all{K:PySem.W.Frag}{fd:FuncData}{ps:List Str}(h:∀us:List Value,us.length=ps.length->bindArgs fd ⟨us,[]⟩=pure (ps.zip us)):Binds K fd ps []:=fun s us _ aj=>by
 rw[ZF]at aj ⊢;exact .of_eq (h us aj)
def Passes(ff:kk)(X:aM)(E:fB):Prop:=∀(pins:List (Addr×Obj))(σ:St)(H:ao)(s:Shared)(e:Value)(s':Shared),Inv X pins σ H s->ff X.stack H s E e s'->X.xe e s'
section
variable{X:aM}{ff:kk}{k:Nat}{f C:Addr}{fd:FuncData}{ps:List Str}{sp:gH}{nf:List V}{ds:List Value}{E:fB}{x m:Str}{p pos apos:Pos}{e o:Expr}{es:List Expr}{bT:TE}{t:eV}
theorem Du{pins:List (Addr×Obj)}{σ:St}{H:ao}{s:Shared}{Q:cO}{us:List Value}{vs:List V}(F:iO X.prog X.w X.K X.mg X.base ff k f fd ps sp)(ak:eA k X.A)(af:Binds X.K fd ps ds)(hd:Vals nf ds)(aC:Passes ff X E)(I:Inv X pins σ H s)(r:Vals vs us)(h:sp (vs++nf) H Q E):wpAny (model X.prog X.w) X.A (call (.ref f) us) (hl X pins σ Q) X.xe s:=by
 have aG:Vals (vs++nf) (us++ds):=r.append hd;have aj:(us++ds).length=ps.length:=by rw[<-aG.length];exact F.len _ _ _ _ h
 refine wpAny_call (codeAny_mono (F.run X.A X.stack s H ⟨us,[]⟩ (us++ds) (vs++nf) Q E ak I.env0 (af s us I.kIn aj) aG h) fun r s' aA=>?_);cases r with
 | error e=>exact aC pins σ H s e s' I aA
 | ok lj =>
  cases lj with
  | ret u=>exact I.after aA
  | next=>exact aas aA
  | brk=>exact aas aA
  | cont=>exact aas aA
theorem Lw(F:iO X.prog X.w X.K X.mg X.base ff k f fd ps sp)(ak:eA k X.A)(aD:eJ X x)(hm:X.mg x=some (.ref f))(ah:PySem.W.keepIn X.K (.ref f)=true)(af:Binds X.K fd ps ds)(hd:Vals nf ds)(aC:Passes ff X E)(ay:hn X (e::es) t)(gW:(x==("__debug__":Str))=false:=by decide)(he:starEach (e::es) X.env=(false,eval e X.env)::starEach es X.env:=by rfl)(e6:(backTo pos (starEach es X.env)).any (·.1)=false:=by rfl):
  b0 X (.Call (.Name x p) (e::es) [] pos) (uN sp nf E t):=by
 intro pins s σ H Q I h;refine wpAny_Call_Name_kw (C6 I aD hm ?_ gW);refine PySem.W.callWith_K (h₀:=X.base) I.ok.mod.kin ah (ck (ay pos pins s σ H _ I h) fun us s1 ⟨vs,H1,bf,r,q⟩=>⟨bf.kIn,?_⟩) he e6;exact Du F ak af hd aC bf r q
end
structure cK (N P:List Str) (sc:Scope):Prop where
 kind:sc.kind=.function
 co:sc.isCoroutine=false
 gen:sc.isGenerator=false
 nd:N.Nodup
 pre:N.take P.length=P
 par:∀x∈P,sc.names.lookup x=some .local∨sc.names.lookup x=some .cell
 nofree:∀y∈sc.names,y.2≠.free
theorem Dv{kindOf:Str->Option NameKind}{x:Str}:∀{binds:List (Str×Value)}{m:Str->Option Value},(∀v,(x,v)∉binds)->bindL kindOf binds m x=m x
 | [],_,_=>rfl
 | (n,v)::r,m,h=>by
  unfold bindL;rw[Dv fun w hw=>h w (Zf _ hw)];split
  ·have:x≠n:=by rintro rfl;exact h v Zd
   simp[this]
  ·rfl
theorem Dw{kindOf:Str->Option NameKind}{x:Str}:∀{binds:List (Str×Value)}{m:Str->Option Value},(∀v,(x,v)∉binds)->bindC kindOf binds m x=m x
 | [],_,_=>rfl
 | (n,v)::r,m,h=>by
  unfold bindC;rw[Dw fun w hw=>h w (Zf _ hw)];split
  ·rfl
  ·have:x≠n:=by rintro rfl;exact h v Zd
   simp[this]
theorem Dx{kindOf:Str->Option NameKind}{x:Str}{v:Value}:∀{P:List Str}{vs:List Value}{i:Nat}{m:Str->Option Value},P.Nodup->P[i]?=some x->vs[i]?=some v->kindOf x=some .local ->
  bindL kindOf (P.zip vs) m x=some v
 | [],_,_,_,_,h,_,_=>by simp at h
 | _::_,[],_,_,_,_,h,_=>by simp at h
 | p::P,w::vs,0,m,nd,aa,ab,ah=>by
  simp at aa ab;subst aa;subst ab;show bindL kindOf ((p,w)::P.zip vs) m p=_
  unfold bindL;rw[Dv fun v aP=>(abI.mp nd).1 (acb aP).1,if_pos ah];simp
 | p::P,w::vs,i+1,m,nd,aa,ab,ah=>by
  show bindL kindOf ((p,w)::P.zip vs) m x=_
  unfold bindL;exact Dx (i:=i) (abI.mp nd).2 (by simpa using aa) (by simpa using ab) ah
theorem Dy{kindOf:Str->Option NameKind}{x:Str}{v:Value}:∀{P:List Str}{vs:List Value}{i:Nat}{m:Str->Option Value},P.Nodup->P[i]?=some x->vs[i]?=some v->kindOf x≠some .local ->
  bindC kindOf (P.zip vs) m x=some v
 | [],_,_,_,_,h,_,_=>by simp at h
 | _::_,[],_,_,_,_,h,_=>by simp at h
 | p::P,w::vs,0,m,nd,aa,ab,ah=>by
  simp at aa ab;subst aa;subst ab;show bindC kindOf ((p,w)::P.zip vs) m p=_
  unfold bindC;rw[Dw fun v aP=>(abI.mp nd).1 (acb aP).1,if_neg ah];simp
 | p::P,w::vs,i+1,m,nd,aa,ab,ah=>by
  show bindC kindOf ((p,w)::P.zip vs) m x=_
  unfold bindC;exact Dy (i:=i) (abI.mp nd).2 (by simpa using aa) (by simpa using ab) ah
def start(N:List Str)(vs:List V):St:=vs.map some++ZI (N.length-vs.length) none
def kl(ff:kk)(P:Program)(w:World)(K:PySem.W.Frag)(mg:Str->Option Value)(base:Heap)(N:List Str)(qual:Str)(scope:Scope)(f:Addr)(cd:Value)(A:Around)(outer:List Env)(s:Shared)(H:ao)(E:fB):aM where
 prog:=P
 w:=w
 K:=K
 mg:=mg
 base:=base
 A:=A.deeper (envOfC qual scope s.heap.objs.size f cd)
 N:=N
 s₀:=s
 H₀:=H
 env:=envOfC qual scope s.heap.objs.size f cd
 outer:=outer
 stack:=envOfC qual scope s.heap.objs.size f cd::outer
 ex:=[]
 calm:=true
 fn:=fun _=>true
 pn:=[]
 xe:=fun e s'=>wpAny (model P w) (A.deeper (envOfC qual scope s.heap.objs.size f cd)) (leaving (envOfC qual scope s.heap.objs.size f cd) e) (fun _ zc=>ff outer H s E e zc) (fun aU zc=>ff outer H s E aU zc) s'
theorem Dz{sc:Scope}{n:Nat}{x:Str}(h:sc.names.lookup x=some .cell):∃c,(cellsFrom n sc.names []).lookup x=some c:=by
 have q:=PySem.W.cellsFrom_some sc.names n [] (.inl h);exact acQ.mp q
theorem Lx{ff:kk}{P:Program}{w:World}{K:PySem.W.Frag}{mg:Str->Option Value}{base:Heap}{N ps:List Str}{qual:Str}{scope:Scope}{f:Addr}{cd:Value}{A:Around}{outer:List Env}{s s1:Shared}{H:ao}{E:fB}{us:List Value}{vs:List V}(S:cK N ps scope)(hd:A.handled=none)(d8:uM P w K mg base A outer s H)(aj:vs.length=ps.length)(r:Vals vs us)(x:InCallC s s.heap.objs.size (bindL (envOfC qual scope s.heap.objs.size f cd).kindOf (ps.zip us) fun _=>none) (cellsFrom (s.heap.objs.size+1) scope.names []) (bindC (envOfC qual scope s.heap.objs.size f cd).kindOf (ps.zip us) fun _=>none) s1):
  Inv (kl ff P w K mg base N qual scope f cd A outer s H E) [] (start N vs) H s1:=by
 have e6:ps.length<=N.length:=by have:=congrArg ZS S.pre;rw[aat]at this;omega
 obtain⟨aa,iL,rfl,ah⟩:=x.done;have rK:∀b:Addr,b∉(kl ff P w K mg base N qual scope f cd A outer s H E).ex:=fun b z=>absurd (show b∈([]:List Addr)from z) (by simp)
 refine⟨⟨d8.mod,S.kind,rfl,rfl,YK _,fun y z c aa ab=>?_,fun y a6=>?_,fun y c _ h=>?_,fun _=>hd,Around.frames_deeper d8.frames,.inr ⟨rfl,rfl⟩,fun b z=>absurd z (rK b),d8.bs,d8.bsz,fun b _ _=>rK b,fun b z=>absurd z (rK b),d8.funs,d8.frf⟩,
  rfl,d8.bare,fq.kept ah,⟨_,x.toInCall.ns,fun i y v aa ab aK=>?_⟩,fun y c h=>⟨_,x.cell y c h⟩,d8.hok.fresh (YK _),fun y c h=>?_,fun p ag=>absurd (show p∈([]:List (Addr×Obj))from ag) (by simp),d8.hok.kept ah,?_⟩
 ·exact name_of_addr x.apart (aaW aa) (aaW ab)
 ·have a6:scope.names.lookup y=some .cell∨scope.names.lookup y=some .free:=a6;rcases a6 with a6|a6
  ·exact Dz a6
  ·exact absurd rfl (S.nofree _ (aaW a6))
 ·exact ab9 (x.above y c (aaW h))
 ·have aB:i<vs.length:=by
   unfold start at ab;by_cases aB:i<vs.length
   ·exact aB
   ·rw[aaf (by simpa using aB)]at ab;rw[aaM]at ab;split at ab<;>cases ab
  have ay:vs[i]?=some v:=by
   unfold start at ab;rw[aai (by simpa using aB),ZL]at ab;cases e:vs[i]? with
   | none=>rw[e]at ab;cases ab
   | some a=>rw[e]at ab;cases ab;rfl
  obtain⟨u,bF,cb⟩:=r.get ay
  have ag:ps[i]?=some y:=by
   rw[<-S.pre,List.getElem?_take_of_lt (by omega)];exact aa
  have DA:ps.Nodup:=by rw[<-S.pre];exact S.nd.sublist (List.take_sublist _ _)
  refine⟨u,cb,?_⟩;rcases S.par y (aag ag)with k|k
  ·exact .inl ⟨k,Dx DA ag bF k⟩
  ·obtain⟨c,e⟩:=Dz (n:=s.heap.objs.size+1) k;refine .inr ⟨.inl k,c,e,?_⟩;have q:=x.cell y c e;rw[Dy DA ag bF (by show scope.names.lookup y≠_;rw[k];decide)]at q;exact q
 ·exact d8.hok.fresh (ab9 (x.above y c (aaW h)))
 ·unfold start;show _=N.length
  rw[Zg,YL,aaF];omega
theorem Ly{ff:kk}{P:Program}{w:World}{K:PySem.W.Frag}{mg:Str->Option Value}{base:Heap}{k:Nat}{f:Addr}{name qual:Str}{params:Arguments}{body:List Stmt}{scope:Scope}{uO kV doc pm cdv ct oc:Value}{an od:Option Addr}{osl:Array (Option Value)}{N ps:List Str}{sp:gH}(lk:K.lookup f=some ⟨oc,od,.func (PySem.W.fnOf name qual params body scope uO kV doc pm an cdv ct),osl⟩)(dz:PySem.W.codeIn K cdv qual=true)(S:cK N ps scope)(len:∀vs H Q E,sp vs H Q E->vs.length=ps.length)(jd:∀(A:Around) (outer:List Env) (s:Shared) (H:ao) (vs:List V) (Q:cO) (E:fB),eA k (A.deeper (envOfC qual scope s.heap.objs.size f cdv))->sp vs H Q E->∃t,ib (kl ff P w K mg base N qual scope f cdv A outer s H E) body t/\t { nx:=fun _ H'=>Q .non H',rt:=Q } (start N vs) H):
  iO P w K mg base ff (k+1) f (PySem.W.fnOf name qual params body scope uO kV doc pm an cdv ct) ps sp:=by
 refine⟨len,fun A outer s H args us vs Q E ak d8 af r qb=>?_⟩;have aj:=len _ _ _ _ qb;have nh:K.In s.heap:=d8.mod.kin.keeps fun b o e=>(d8.bs b o e).1;have lim:s.heap.NoLimit:=d8.mod.nolimit.keeps fun b o e=>(d8.bs b o e).1
 have Lz:∀y∈ps.zip us,scope.names.lookup y.1=some .local∨(scope.names.lookup y.1=some .cell/\((cellsFrom (s.heap.objs.size+1) scope.names []).lookup y.1).isSome=true):=fun⟨n,v⟩ a6=>by
  rcases S.par n (acb a6).1 with q|q
  ·exact .inl q
  ·exact .inr ⟨q,PySem.W.cellsFrom_some _ _ _ (.inl q)⟩
 refine codeAny_call_function ak.depth (nh _ _ lk) rfl S.co S.gen rfl (PySem.W.codeRec_of nh dz) (af _ _ _ _ ?_);refine wpAny_newFunctionEnv_cells S.kind Lz fun env he s1 x=>?_;subst he;refine⟨lim.keeps x.toInCall.keep,codeAny_func ?_⟩;obtain⟨t,bt,aA⟩:=jd A outer s H vs Q E (ak.deeper _) qb;have I:Inv (kl ff P w K mg base N qual scope f cdv A outer s H E) [] (start N vs) H s1:=Lx S ak.hd d8 aj r x;refine wpAny_mono (bt [] s1 (start N vs) H _ I aA) (fun lj s' aq=>?_) fun e s' aq=>aq
 have fin:∀{a':St}{H':ao}{v:V}{u:Value},Inv (kl ff P w K mg base N qual scope f cdv A outer s H E) [] a' H' s'->RelV v u->Q v H'->zb outer P w H s Q u s' :=
  fun{a' H' v u} J cb q=>⟨v,H',J.os,J.bare,J.base,J.hok,cb,q⟩
 cases lj with
 | ret u =>
  obtain⟨v,a',H',J,cb,q⟩:=aq;exact fin J cb q
 | next =>
  obtain⟨a',H',J,q⟩:=aq;exact fin (v:=V.non) (u:=Value.none) J rfl q
 | brk =>
  obtain⟨_,_,_,q⟩:=aq;exact aas q
 | cont =>
  obtain⟨_,_,_,q⟩:=aq;exact aas q
section
variable{X:aM}{x:Str}{p pos:Pos}{e:Expr}{es:List Expr}{t:eV}{id T:String}{r:List V->ao->cO->Prop}
def zd(r:List V->ao->cO->Prop)(t:eV):TE:=fun σ H Q=>t σ H fun vs H1=>r vs H1 Q
theorem oK(hc:nc X (.builtin id) r)(aD:eJ X x)(hm:X.mg x=none)(aP:bootBuiltins x=some (.builtin id))(ay:hn X (e::es) t)(aN:x≠"__name__":=by decide)(gW:(x==("__debug__":Str))=false:=by decide)(he:starEach (e::es) X.env=(false,eval e X.env)::starEach es X.env:=by rfl)(e6:(backTo pos (starEach es X.env)).any (·.1)=false:=by rfl):b0 X (.Call (.Name x p) (e::es) [] pos) (zd r t):=by
 intro pins s σ H Q I h;refine wpAny_Call_Name_kw (p2 I aD hm aP ?_ aN gW);exact PyProof.Rows.callWith_builtin1 (ck (ay pos pins s σ H _ I h) fun us s1 ⟨vs,H1,bf,au,aW⟩=>hc pins s1 σ H1 vs us Q bf au aW) he e6
theorem LA(hc:nc X (.type T) r)(aD:eJ X x)(hm:X.mg x=none)(aP:bootBuiltins x=some (.type T))(ay:hn X (e::es) t)(aN:x≠"__name__":=by decide)(gW:(x==("__debug__":Str))=false:=by decide)(he:starEach (e::es) X.env=(false,eval e X.env)::starEach es X.env:=by rfl)(e6:(backTo pos (starEach es X.env)).any (·.1)=false:=by rfl):b0 X (.Call (.Name x p) (e::es) [] pos) (zd r t):=by
 intro pins s σ H Q I h;refine wpAny_Call_Name_kw (p2 I aD hm aP ?_ aN gW);exact abH (ck (ay pos pins s σ H _ I h) fun us s1 ⟨vs,H1,bf,au,aW⟩=>hc pins s1 σ H1 vs us Q bf au aW) he e6
end
end L2
namespace HT
open PySem PyProof.Rows
section
open PySem.SeqAt
open PySem.AutoSeq1 (wpAny_loadPart')
open PySem.MeetsSeq PySem.MeetsSeq2 PySem.MeetsSeq3
end
section
variable{prog:Program}{w:World}{A:Around}{E:Value->Shared->Prop}{s:Shared}
def sIx(n d:Nat):Option Int->Nat
 | none=>d
 | some v=>if v<0 then(v+(n:Int)).toNat else min v.toNat n
theorem LB(n d:Nat)(hd:d<=n)(o:Option Int):sIx n d o<=n:=by
 cases o with
 | none=>exact hd
 | some v =>
  show(if v<0 then(v+(n:Int)).toNat else min v.toNat n)<=n
  by_cases aP:v<0
  ·rw[if_pos aP];omega
  ·rw[if_neg aP];exact Nat.min_le_right _ _
theorem DB(v:Int)(n d:Nat):(if v<0 then max (v+(n:Int)) 0 else min v (n:Int))=((sIx n d (some v):Nat):Int):=by
 show(if v<0 then max (v+(n:Int)) 0 else min v (n:Int))=(((if v<0 then(v+(n:Int)).toNat else min v.toNat n):Nat):Int)
 by_cases aP:v<0
 ·simp only[if_pos aP];omega
 ·simp only[if_neg aP];omega
theorem LC(lo aB:Option Int)(n:Nat):Builtin.Slice.sliceAdjust lo aB 1 (n:Int)=(((sIx n 0 lo:Nat):Int),((sIx n n aB:Nat):Int)):=by
 have aa:¬((1:Int)<0):=by omega
 unfold Builtin.Slice.sliceAdjust;simp only[aa,if_false];refine aaB ?_ ?_
 ·cases lo with
  | none=>rfl
  | some v=>exact DB v n 0
 ·cases aB with
  | none=>rfl
  | some v=>exact DB v n n
theorem LD(i j:Nat):Builtin.Slice.slicePlaces (i:Int) (j:Int) 1=j-i:=by
 unfold Builtin.Slice.slicePlaces;have aa:(1:Int)>0:=by omega
 simp only[aa,if_true,Int.ediv_one];split<;>omega
theorem DC{v:Value}{o:Option Int}{Q:Option Int->Shared->Prop}(p:IsPart v o)(h:Q o s):wpAny (model prog w) A (Builtin.Slice.slicePartIndex v) Q E s:=by
 cases p with
 | none=>exact slicePart_none h
 | int i t=>exact slicePart_int h
theorem LF{sl:Addr}{gI h1:Value}{lo aB:Option Int}{n:Nat}{Q:Int×Int×Nat->Shared->Prop}(aq:s.heap.IsSliceOf sl gI h1 .none)(c1:IsPart gI lo)(pu:IsPart h1 aB)(h:Q (((sIx n 0 lo:Nat):Int),1,sIx n n aB-sIx n 0 lo) s):wpAny (model prog w) A (Builtin.Slice.sliceApplied (.ref sl) (pure (n:Int))) Q E s:=by
 obtain⟨os,me,DD,uP⟩:=id aq;unfold Builtin.Slice.sliceApplied Builtin.Slice.sliceFields;refine wpAny_bind (wpAny_bind (wpAny_field me uP (x:=gI) rfl (wpAny_bind (wpAny_field me uP (x:=h1) rfl (wpAny_bind (wpAny_field me uP (x:=.none) rfl (wpAny_pure ?_)))))));refine wpAny_bind (slicePart_none ?_);show wpAny _ _ (if((1:Int)==0)=true then _ else _) _ _ s
 rw[if_neg (by decide)];refine wpAny_bind (DC c1 (wpAny_bind (DC pu (wpAny_bind (wpAny_pure ?_)))));show wpAny _ _ (match Builtin.Slice.sliceAdjust lo aB 1 (n:Int)with|(lo,aB)=>pure (lo,(1:Int),Builtin.Slice.slicePlaces lo aB 1)) _ _ s
 rw[LC lo aB n];show wpAny _ _ (pure (((sIx n 0 lo:Nat):Int),(1:Int),Builtin.Slice.slicePlaces ((sIx n 0 lo:Nat):Int) ((sIx n n aB:Nat):Int) 1)) _ _ s
 rw[LD];exact wpAny_pure h
theorem LG(xs:Array Value)(i k:Nat):((ZX k).filterMap fun(m:Nat)=>xs[((i:Int)+(m:Int)*1).toNat]?).toArray=((xs.toList.drop i).take k).toArray:=by
 have e:(fun(m:Nat)=>xs[((i:Int)+(m:Int)*1).toNat]?)=fun m=>xs[i+m]?:=by
  funext m;have:((i:Int)+(m:Int)*1).toNat=i+m:=by omega
  rw[this]
 rw[e];have:=pick_run xs i k;rw[List.filterMap_map]at this;have av:((fun x=>xs[x]?)∘fun x=>i+x)=fun m=>xs[i+m]?:=rfl;rw[av]at this;rw[this]
theorem getItem_tuple_cut{t sl:Addr}{items:Array Value}{gI h1:Value}{lo aB:Option Int}{Q:Value->Shared->Prop}(bt:IsTup s.heap t items)(aq:s.heap.IsSliceOf sl gI h1 .none)(c1:IsPart gI lo)(pu:IsPart h1 aB)(hw:¬(sIx items.size 0 lo=0/\sIx items.size items.size aB=items.size))(h:Q (.ref s.heap.objs.size) { s with heap:=s.heap.push { cls:=.type "tuple",data:=.seq ((items.toList.drop (sIx items.size 0 lo)).take (sIx items.size items.size aB-sIx items.size 0 lo)).toArray } })(je:items.size<=sizeLine):wpAny (model prog w) A (getItem (.ref t) (.ref sl)) Q E s:=by
 have uQ:sizeOk (.seq ((items.toList.drop (sIx items.size 0 lo)).take (sIx items.size items.size aB-sIx items.size 0 lo)).toArray):=by
  show((items.toList.drop (sIx items.size 0 lo)).take (sIx items.size items.size aB-sIx items.size 0 lo)).toArray.size<=sizeLine
  rw[ZM,aat,aaX,abE];omega
 have bZ:sIx items.size items.size aB<=items.size:=LB _ _ (YK _) aB;obtain⟨os,me,DD,uP⟩:=id aq;have LH:s.TypeIs (.ref sl) "slice":=⟨os,me,DD⟩;unfold getItem
 try with_reducible refine wpAny_holding ?_
 first|refine wpAny_bind (wpAny_pure ?_)|skip
 refine wpAny_bind (wpAny_sequenceKey bt.typeIs (by decide) ?_)
 refine wpAny_bind (wpAny_callSpecial?_slot (name:=Str.ofString "__getitem__") bt.typeIs acd
  (wpAny_call_entry acd bt.typeIs entry_tuple_getitem ?_ (args_tuple_getitem _ _)))
 show wpAny _ _ (Builtin.Tuple.tupleItemsOf (.ref t) >>= _) _ _ s
 refine wpAny_bind (tupleItemsOf_ bt ?_);refine wpAny_bind (wpAny_typeOf LH ?_);rw[if_pos (by decide)];refine wpAny_bind (LF aq c1 pu ?_)
 have LI:¬((((sIx items.size 0 lo:Nat):Int)==0&&(1:Int)==1&&(sIx items.size items.size aB-sIx items.size 0 lo)==items.size)=true):=by
  intro q;rw[aaY,aaY]at q;have aW:((sIx items.size 0 lo:Nat):Int)=0:=eq_of_beq q.1.1;have bS:sIx items.size items.size aB-sIx items.size 0 lo=items.size:=eq_of_beq q.2;exact hw ⟨by omega,by omega⟩
 show wpAny _ _ (if(((sIx items.size 0 lo:Nat):Int)==0&&(1:Int)==1&&(sIx items.size items.size aB-sIx items.size 0 lo)==items.size)=true then _ else _) _ _ s
 rw[if_neg LI,LG]
 first
  | exact wpAny_bind (m:=Builtin.Tuple.tupleExact _) (wpAny_newObj_type (wpAny_pure ⟨_,rfl,wpAny_pure h⟩) uQ)
  | exact wpAny_bind (m:=Builtin.Tuple.tupleExact _) (wpAny_newObj_type (wpAny_bind (wpAny_pure (wpAny_pure ⟨_,rfl,wpAny_pure h⟩))) uQ)
  | exact wpAny_bind (wpAny_bind (m:=Builtin.Tuple.tupleExact _) (wpAny_newObj_type (wpAny_pure (wpAny_pure ⟨_,rfl,wpAny_pure h⟩)) uQ))
  | exact wpAny_bind (wpAny_bind (m:=Builtin.Tuple.tupleExact _) (wpAny_newObj_type (wpAny_pure ⟨_,rfl,wpAny_pure h⟩) uQ))
end
end HT
namespace L2
open PySem PySem.Spec PyProof.Rows
abbrev qc:=St->ao->(Option Int->ao->Prop)->Prop
def rL(X:aM)(e:Option Expr)(t:qc):Prop :=
 ∀(pins:List (Addr×Obj))(s:Shared)(σ:St)(H:ao)(Q:Option Int->ao->Prop),Inv X pins σ H s->t σ H Q ->
  wpAny (model X.prog X.w) X.A (evalPart e X.env) (fun u s'=>∃o H',Inv X pins σ H' s'/\IsPart u o/\Q o H') X.xe s
def LJ:qc:=fun _ H Q=>Q none H
def LK(t:TE):qc:=fun σ H Q=>t σ H fun x H1=>∃i,x=.int i/\Q (some i) H1
theorem intsAre_of{ns:List Int}:∀{us:List Value},Vals (ns.map V.int) us->IntsAre us ns:=by
 induction ns with
 | nil=>intro us r;rw[aaq]at r;cases r;exact .nil
 | cons n ns c0 =>
  intro us r;rw[ZE]at r;cases r with
  | cons au aG =>
   obtain⟨t,e⟩:=au;subst e;exact .cons n t (c0 aG)
section
variable{X:aM}{e:Expr}{cD:TE}{lo aB:Option Expr}{gG uR:qc}{pos c2:Pos}
theorem LL:rL X none LJ:=by
 intro pins s σ H Q I h;rw[evalPart_none];exact wpAny_pure ⟨none,H,I,.none,h⟩
theorem LM(h:b0 X e cD):rL X (some e) (LK cD):=by
 intro pins s σ H Q I hw;rw[evalPart_some];refine ck (h pins s σ H _ I hw) fun u s1 ⟨x,H1,bf,au,aW⟩=>?_;obtain⟨i,rfl,q⟩:=aW;obtain⟨t,rfl⟩:=au;exact⟨some i,H1,bf,.int i t,q⟩
def ze(X:aM)(r:V->Option Int->Option Int->ao->cO->Prop):Prop :=
 ∀(pins:List (Addr×Obj))(s:Shared)(σ:St)(H:ao)(x:V)(v gI h1:Value)(lo aB:Option Int)(sl:Addr)(Q:cO),Inv X pins σ H s->RelV x v->s.heap.IsSliceOf sl gI h1 .none->IsPart gI lo->IsPart h1 aB->r x lo aB H Q ->
  ∃T id,typeLookup (.type T) "__getitem__"=pure (some (.builtin id))/\s.TypeIs v T/\wpAny (model X.prog X.w) X.A (getItem v (.ref sl)) (hl X pins σ Q) X.xe s
def LN(r:V->Option Int->Option Int->ao->cO->Prop)(cD:TE)(gG uR:qc):TE:=fun σ H Q=>cD σ H fun x H1=>gG σ H1 fun l aZ=>uR σ aZ fun u cP=>r x l u cP Q
theorem DE{r:V->Option Int->Option Int->ao->cO->Prop}(ak:ze X r)(he:b0 X e cD)(aj:rL X lo gG)(bF:rL X aB uR):b0 X (.Subscript e (.Slice lo aB none c2) pos) (LN r cD gG uR):=by
 intro pins s σ H Q I h;refine Subscript_ (ck (he pins s σ H _ I h) fun v s1 ⟨x,H1,bf,au,aW⟩=>?_);refine wpAny_Slice (ck (aj pins s1 σ H1 _ bf aW) fun gI s2 ⟨l,aZ,ec,c1,bS⟩=>ck (bF pins s2 σ aZ _ ec bS) fun h1 s3 ⟨u,cP,de,pu,fC⟩=>?_);rw[evalPart_none];refine wpAny_pure ?_;have m8:Inv X pins σ cP { s3 with heap:=s3.heap.push { cls:=.type "slice",data:=.fields #[gI,h1,.none] } }:=de.kept (t':=s3.toks) fun b cI q=>Heap.get?_push_of_some _ q;obtain⟨T,id,dC,bt,aD⟩:=ak pins { s3 with heap:=s3.heap.push { cls:=.type "slice",data:=.fields #[gI,h1,.none] } } σ cP x v gI h1 l u s3.heap.objs.size Q m8 au (Heap.IsSliceOf.new ..) c1 pu fC;show wpAny (model X.prog X.w) X.A (subscriptTail e (.Slice lo aB none c2) v (.ref s3.heap.objs.size)) (hl X pins σ Q) X.xe { s3 with heap:=s3.heap.push { cls:=.type "slice",data:=.fields #[gI,h1,.none] } }
 exact tail_any (ops:=[.ref s3.heap.objs.size,v]) bt dC aD (by with_unfolding_all rfl)
def oL(xs:List V)(lo aB:Option Int):List V:=(xs.drop (HT.sIx xs.length 0 lo)).take (HT.sIx xs.length xs.length aB-HT.sIx xs.length 0 lo)
theorem DF(xs:List V)(lo aB:Option Int):(oL xs lo aB).length<=xs.length:=by
 unfold oL;rw[aat,aaX];omega
def LO(K:PySem.W.Frag):V->Option Int->Option Int->ao->cO->Prop:=fun x lo aB H Q=>∃a xs,x=.ref a/\en K H a xs /\
 ¬(HT.sIx xs.length 0 lo=0/\HT.sIx xs.length xs.length aB=xs.length)/\∀p,H p=none->Q (.ref p) (upd H p (.tup (oL xs lo aB)))
theorem LP:ze X (LO X.K):=by
 intro pins s σ H x v gI h1 lo aB sl Q I bg aq c1 pu h;obtain⟨a,xs,rfl,aC,hw,q⟩:=h;cases bg;obtain⟨its,r,bt,bb⟩:=I.tuple aC;have hlen:its.toArray.size=xs.length:=by rw[ZM];exact r.length.symm
 refine⟨"tuple",_,acd.lookup,bt.typeIs,?_⟩;refine HT.getItem_tuple_cut bt aq c1 pu (by rw[hlen];exact hw) ?_ (by rw[hlen];exact bb);rw[hlen];refine⟨.ref s.heap.objs.size,_,I.laid (t':=s.toks) (o:=.tup (oL xs lo aB)) (fun b cI q=>Heap.get?_push_of_some _ q) (YK _) ?_,rfl,q _ (I.hok.fresh (YK _))⟩;exact⟨Gg (DF xs lo aB) bb,_,(r.drop (HT.sIx xs.length 0 lo)).take (HT.sIx xs.length xs.length aB-HT.sIx xs.length 0 lo),IsTup.new _ _⟩
end
def ixN(n:Nat)(i:Int):Option Nat:=if 0<=i then(if i<n then some i.toNat else none)else if -(n:Int)<=i then some (i+n).toNat else none
def dO{α:Type}(xs:List α)(i:Int):Option α:=(ixN xs.length i).bind fun j=>xs[j]?
theorem DG{n:Nat}{i:Int}{j:Nat}(h:ixN n i=some j):seqIndex? i n=some j/\j<n /\ -(n:Int)<=i/\i<n:=by
 unfold ixN at h;by_cases h0:0<=i
 ·rw[if_pos h0]at h;by_cases aa:i<n
  ·rw[if_pos aa]at h;have e:i.toNat=j:=ZH h;exact⟨by rw[seqIndex_of h0 aa,e],by omega,by omega,aa⟩
  ·rw[if_neg aa]at h;cases h
 ·rw[if_neg h0]at h;by_cases aa : -(n:Int)<=i
  ·rw[if_pos aa]at h;have e:(i+n).toNat=j:=ZH h;exact⟨by rw[seqIndex_neg (by omega) aa,e],by omega,aa,by omega⟩
  ·rw[if_neg aa]at h;cases h
theorem DH{α:Type}{xs:List α}{i:Int}{v:α}(h:dO xs i=some v):∃j,seqIndex? i xs.length=some j/\xs[j]?=some v/\j<xs.length /\ -(xs.length:Int)<=i/\i<xs.length:=by
 unfold dO at h;cases e:ixN xs.length i with
 | none=>rw[e]at h;cases h
 | some j =>
  rw[e]at h;obtain⟨aa,ab,aK,bo⟩:=DG e;exact⟨j,aa,h,ab,aK,bo⟩
theorem atI_last{α:Type}(xs:List α)(v:α):dO (xs++[v]) (-1)=some v:=by
 have aj:(xs++[v]).length=xs.length+1:=by simp
 have e:ixN (xs++[v]).length (-1)=some xs.length:=by
  unfold ixN;rw[aj,if_neg (by decide),if_pos (by omega)];congr 1;omega
 unfold dO;rw[e];show(xs++[v])[xs.length]?=some v
 simp
def uS(b:Expr):Prop:=∀o i,subscripted b false o i=operate [o,i] (getItem o i)
def qd(X:aM)(r:e5):Prop :=
 ∀(value slice:Expr)(pins:List (Addr×Obj))(s:Shared)(σ:St)(H:ao)(x y:V)(v u:Value)(Q:cO),Inv X pins σ H s->RelV x v->RelV y u->r x y H Q ->
  subscripted slice false v u=operate [v,u] (getItem v u)->wpAny (model X.prog X.w) X.A (subscriptTail value slice v u) (hl X pins σ Q) X.xe s
def DI(X:aM)(id:String)(r:V->List V->ao->cO->Prop):Prop :=
 ∀(pins:List (Addr×Obj))(s:Shared)(σ:St)(H:ao)(x:V)(xs:List V)(v:Value)(us:List Value)(Q:cO),Inv X pins σ H s->RelV x v->Vals xs us->r x xs H Q ->
  wpAny (model X.prog X.w) X.A (call (.builtin id) (v::us)) (hl X pins σ Q) X.xe s
section
variable{X:aM}{a b:Expr}{bT tb:TE}{pos:Pos}
theorem lp{r:e5}(ak:qd X r)(ay:b0 X a bT)(af:b0 X b tb)(aq:uS b):b0 X (.Subscript a b pos) (mc r bT tb):=by
 intro pins s σ H Q I h;exact Subscript_ (y4 ay af I h fun v u s2 x y aZ ec bg cu q=>ak a b pins s2 σ aZ x y v u Q ec bg cu q (aq _ _))
def LQ(K:PySem.W.Frag):e5:=fun x y H Q=>∃p xs i v,x=.ref p/\y=.int i/\cJ K H p xs/\dO xs i=some v/\Q v H
def LR(K:PySem.W.Frag):e5:=fun x y H Q=>∃p xs i v,x=.ref p/\y=.int i/\en K H p xs/\dO xs i=some v/\Q v H
theorem zf:qd X (LQ X.K):=by
 intro value slice pins s σ H x y v u Q I bg cu h aq;obtain⟨p,xs,i,z,rfl,rfl,aA,he,q⟩:=h;cases bg;obtain⟨t,rfl⟩:=cu;obtain⟨its,r,c1,bb⟩:=I.list aA;obtain⟨j,aa,ab,aK,bo,df⟩:=DH he;obtain⟨w,ho,l'⟩:=r.get ab;have aj:=r.length;have aN:=rG;have fin:hl X pins σ Q w s:=⟨z,H,I,l',q⟩;by_cases h0:0<=i
 ·have bZ:i.toNat=j:=by
   rw[seqIndex_of h0 df]at aa;exact ZH aa
  exact item_listR c1.isList h0 (by omega) (by rw[bZ];simpa using ho) fin aq
 ·have bZ:(i+(its.toArray.size:Int)).toNat=j:=by
   rw[seqIndex_neg (by omega) bo]at aa;rw[ZM,<-aj];exact ZH aa
  exact subscriptTail_builtinR (x:=w) c1.isList.typeIs slot_list_getitem.lookup
   (wpAny_getItem_list_neg (Q:=fun r s'=>r=w/\hl X pins σ Q r s') c1.isList (by omega) (by rw[ZM]<;>omega) (by omega) (by rw[bZ];simpa using ho) ⟨rfl,fin⟩) aq
theorem DJ:qd X (LR X.K):=by
 intro value slice pins s σ H x y v u Q I bg cu h aq;obtain⟨p,xs,i,z,rfl,rfl,aA,he,q⟩:=h;cases bg;obtain⟨t,rfl⟩:=cu;obtain⟨its,r,c1,bb⟩:=I.tuple aA;obtain⟨j,aa,ab,aK,bo,df⟩:=DH he;obtain⟨w,ho,l'⟩:=r.get ab;have aj:=r.length;have aN:=rG;have fin:hl X pins σ Q w s:=⟨z,H,I,l',q⟩
 exact subscriptTail_builtinR (x:=w) c1.typeIs slot_tuple_getitem.lookup
  (getItem_tuple (j:=j) (Q:=fun r s'=>r=w/\hl X pins σ Q r s') c1 (by omega) (by omega) (by rw[ZM,<-aj];exact aa) (by simpa using ho) ⟨rfl,fin⟩) aq
theorem LS(its:List Value)(n j:Nat)(u:Value):Obj.mapSeq (·.setIfInBounds j u) { cls:=.type "list",data:=.seq its.toArray n }={ cls:=.type "list",data:=.seq (its.set j u).toArray n }:=by
 simp[Obj.mapSeq]
theorem Inv.lst{pins:List (Addr×Obj)}{σ:St}{H:ao}{s:Shared}{p:Addr}{xs:List V}(I:Inv X pins σ H s)(h:H p=some (.lst xs)):
  ∃(its:List Value)(n:Nat),Vals xs its/\s.heap.get? p=some { cls:=.type "list",data:=.seq its.toArray n }/\xs.length<=sizeLine:=by
 obtain⟨z,its,n,r,e⟩:=I.hok p _ h;exact⟨its,n,r,e,z⟩
theorem Inv.lstUpd{pins:List (Addr×Obj)}{σ:St}{H:ao}{s:Shared}{p:Addr}{xs ys:List V}{its its':List Value}{n n':Nat}{f:Obj->Obj}(I:Inv X pins σ H s)(h:H p=some (.lst xs))(aE:s.heap.get? p=some { cls:=.type "list",data:=.seq its.toArray n })(hf:f { cls:=.type "list",data:=.seq its.toArray n }={ cls:=.type "list",data:=.seq its'.toArray n' })(r:Vals ys its')(bb:ys.length<=sizeLine)(t:Nat):
  Inv X pins σ (upd H p (.lst ys)) { s with heap:=s.heap.update p f,toks:=t }:=by
 have e:(s.heap.update p f).get? p=some { cls:=.type "list",data:=.seq its'.toArray n' }:=by
  rw[Heap.get?_update_self f aE (by rw[hf]<;>rfl),hf]
 refine I.write (x:=p) (e:=p) (by rw[h];trivial) (.inl rfl) (fun b u af q=>(Heap.get?_update_other _ _ (Z8 af)).trans q) ⟨_,e⟩ ?_;exact⟨bb,its',n',r,e⟩
def LU:V->V->V->ao->(ao->Prop)->Prop:=fun o i v H Q=>∃p xs k j,o=.ref p/\i=.int k/\H p=some (.lst xs)/\ixN xs.length k=some j/\Q (upd H p (.lst (xs.set j v)))
theorem set_list:Dd X LU:=by
 intro pins s σ H o i v kg hD u Q I LV LW cb h;obtain⟨p,xs,k,j,rfl,rfl,ag,bZ,q⟩:=h;cases LV;obtain⟨t,rfl⟩:=LW;obtain⟨its,n,r,aE,bb⟩:=I.lst ag;obtain⟨aa,ab,aK,bo⟩:=DG bZ;have aj:=r.length;have aN:=rG
 have m5:Inv X pins σ (upd H p (.lst (xs.set j v))) { s with heap:=s.heap.update p (Obj.mapSeq (·.setIfInBounds j u)) }:=
  I.lstUpd ag aE (LS its n j u) (r.set cb j) (by rw[abq];exact bb) s.toks
 by_cases h0:0<=k
 ·have ah:k.toNat=j:=by
   rw[seqIndex_of h0 bo]at aa;exact ZH aa
  exact PySem.W.ki_setAt aE h0 (by omega) (by rw[ZM,<-aj];exact bo) (by rw[ah];exact⟨_,m5,q⟩)
 ·have ah:(k+(its.toArray.size:Int)).toNat=j:=by
   rw[seqIndex_neg (by omega) aK]at aa;rw[ZM,<-aj];exact ZH aa
  exact PySem.W.ki_setBack aE (by omega) (by rw[ZM,<-aj];exact aK) (by omega) (by rw[ah];exact⟨_,m5,q⟩)
theorem LX(lo aB:Option Int)(n:Nat):(sliceBounds lo aB none n).1=((HT.sIx n 0 lo:Nat):Int)/\(sliceBounds lo aB none n).2.1=((HT.sIx n n aB:Nat):Int)/\(sliceBounds lo aB none n).2.2=1:=by
 refine⟨?_,?_,rfl⟩
 ·cases lo with
  | none=>simp[sliceBounds,HT.sIx]
  | some i =>
   simp only[sliceBounds,HT.sIx,abJ,show(1:Int)>0 by decide,if_true];by_cases h:i<0
   ·simp only[h,if_true]<;>omega
   ·simp only[h,if_false]<;>omega
 ·cases aB with
  | none=>simp[sliceBounds,HT.sIx]
  | some i =>
   simp only[sliceBounds,HT.sIx,abJ,show(1:Int)>0 by decide,if_true];by_cases h:i<0
   ·simp only[h,if_true]<;>omega
   ·simp only[h,if_false]<;>omega
theorem LY(its:List Value)(lo aB:Option Int):slicePick its.toArray lo aB none=((its.drop (HT.sIx its.length 0 lo)).take (HT.sIx its.length its.length aB-HT.sIx its.length 0 lo)).toArray:=by
 obtain⟨aa,ab,aK⟩:=LX lo aB its.toArray.size;unfold slicePick;rw[aa,ab,aK];simp only[sliceRange_one,pick_run,ZM]<;>rfl
def LZ(K:PySem.W.Frag):V->Option Int->Option Int->ao->cO->Prop:=fun x lo aB H Q=>∃a xs,x=.ref a/\cJ K H a xs/\∀p,H p=none->Q (.ref p) (upd H p (.lst (oL xs lo aB)))
theorem L0:ze X (LZ X.K):=by
 intro pins s σ H x v gI h1 lo aB sl Q I bg aq c1 pu h;obtain⟨a,xs,rfl,aC,q⟩:=h;cases bg;obtain⟨its,r,bt,bb⟩:=I.list aC;have hlen:=r.length;refine⟨"list",_,slot_list_getitem.lookup,bt.isList.typeIs,?_⟩;refine wpAny_getItem_list_slice bt.isList aq c1 pu .none (by simp) ?_ (by rw[ZM]<;>omega);rw[LY,<-hlen];refine⟨.ref s.heap.objs.size,_,I.laid (t':=s.toks) (o:=.lst (oL xs lo aB)) (fun b cI q=>Heap.get?_push_of_some _ q) (YK _) ?_,rfl,q _ (I.hok.fresh (YK _))⟩;exact⟨Gg (DF xs lo aB) bb,_,0,(r.drop (HT.sIx xs.length 0 lo)).take (HT.sIx xs.length xs.length aB-HT.sIx xs.length 0 lo),Heap.get?_push_size _ rfl⟩
theorem zg:nc X (.builtin "len") (fun xs H Q=>∃p ys,xs=[.ref p]/\(cJ X.K H p ys∨en X.K H p ys)/\Q (.int ys.length) H):=by
 intro pins s σ H xs us Q I r h;obtain⟨p,ys,rfl,aA,q⟩:=h;obtain⟨u,rfl,bg⟩:=vals1 r;cases bg;have aN:=rG;rcases aA with aA|aA
 ·obtain⟨its,d0,c1,bb⟩:=I.list aA;have hlen:=d0.length;exact Calls.call_len_list c1.isList (by simp only[ZM]<;>omega) ⟨.int ys.length,H,I.tok _,⟨s.toks+1,by rw[ZM,hlen]⟩,q⟩
 ·obtain⟨its,d0,c1,bb⟩:=I.tuple aA;have hlen:=d0.length;exact len_tuple c1 (by simp only[ZM]<;>omega) ⟨.int ys.length,H,I.tok _,⟨s.toks+1,by rw[ZM,hlen]⟩,q⟩
def zh(K:PySem.W.Frag)(T:String)(x:V)(H:ao):Prop:=match x with
 | .str _=>T="str"
 | .int _=>T="int"
 | .ref p=>(T="list"/\∃xs,cJ K H p xs)∨(T="tuple"/\∃o,K.lookup p=some o/\o.cls=.type "tuple"/\o.dict=none) ∨
   (T="dict"/\((∃kvs,H p=some (.dK kvs))∨∃kvs,H p=some (.dT kvs)))∨(T="set"/\∃S n,H p=some (.set S n))
 | _=>False
theorem DK{pins:List (Addr×Obj)}{σ:St}{H:ao}{s:Shared}{T:String}{x:V}{v:Value}(I:Inv X pins σ H s)(r:RelV x v)(ty:zh X.K T x H):
  s.TypeIs v T/\∀a,v=.ref a->∃cI,s.heap.get? a=some cI/\cI.dict=none:=by
 cases x with
 | str z =>
  obtain⟨t,rfl⟩:=r;cases(show T="str" from ty);exact⟨typeIs_str s z t,fun _ e=>nomatch e⟩
 | int i =>
  obtain⟨t,rfl⟩:=r;cases(show T="int" from ty);exact⟨typeIs_int s i t,fun _ e=>nomatch e⟩
 | ref p =>
  cases r;rcases ty with⟨rfl,xs,aA⟩|⟨rfl,o,ah,hc,hd⟩|⟨rfl,ah⟩|⟨rfl,S,n,ah⟩
  ·obtain⟨its,_,c1,_⟩:=I.list aA;refine⟨c1.isList.typeIs,fun a e=>?_⟩;cases e;obtain⟨o,n,e,c,hd,_⟩:=c1;exact⟨o,e,hd⟩
  ·refine⟨⟨o,I.kIn p o ah,hc⟩,fun a e=>?_⟩;cases e;exact⟨o,I.kIn _ o ah,hd⟩
  ·have z:∃o,s.heap.get? p=some o/\o.ExactDict:=by
    rcases ah with⟨kvs,ah⟩|⟨kvs,ah⟩
    ·obtain⟨_,_,_,_,o,_,_,e,ex,_⟩:=I.hok p _ ah;exact⟨o,e,ex⟩
    ·obtain⟨_,_,_,_,o,_,_,e,ex,_⟩:=I.hok p _ ah;exact⟨o,e,ex⟩
   obtain⟨o,e,ex⟩:=z;refine⟨⟨o,e,ex.1⟩,fun a av=>?_⟩;cases av;exact⟨o,e,ex.2.1⟩
  ·obtain⟨o,_,_,_,e,ex,_⟩:=I.hok p _ ah;refine⟨⟨o,e,ex.1⟩,fun a av=>?_⟩;cases av;exact⟨o,e,ex.2.1⟩
 | _=>exact aas ty
def L1(K:PySem.W.Frag)(T:String)(r:V->List V->ao->cO->Prop)(to:TE):TE:=fun σ H Q=>to σ H fun x H1=>zh K T x H1/\r x [] H1 Q
def L4(K:PySem.W.Frag)(T:String)(r:V->List V->ao->cO->Prop)(to:TE)(t:eV):TE:=fun σ H Q=>to σ H fun x H1=>zh K T x H1/\t σ H1 fun xs aZ=>r x xs aZ Q
variable{o e:Expr}{es:List Expr}{to:TE}{t:eV}{name:Str}{apos c8:Pos}{T id:String}{r:V->List V->ao->cO->Prop}
theorem L5(pa:PlainAttrs T)(slot:Slot T name id)(zi:typeOf (.builtin id)=pure (.type "method_descriptor"))(hm:DI X id r)(aE:b0 X o to)(ie:attributeBase o name X.env (eval o X.env)=eval o X.env:=by rfl)(ig:(apos.endLine==c8.line)=true:=by rfl):b0 X (.Call (.Attribute o name apos) [] [] c8) (L1 X.K T r to):=by
 intro pins s σ H Q I h;refine wpAny_Call_method0_late ie ig (ck (aE pins s σ H _ I h) fun v s1 ⟨x,H1,bf,au,ty,aW⟩=>?_);obtain⟨aa,ab⟩:=DK bf au ty;exact⟨T,id,pa,slot,zi,aa,ab,Calls.callWith_builtin rfl (PySem.evalArgs_none (hm pins s1 σ H1 x [] v [] Q bf au .nil aW))⟩
theorem uT(pa:PlainAttrs T)(slot:Slot T name id)(zi:typeOf (.builtin id)=pure (.type "method_descriptor"))(hm:DI X id r)(aE:b0 X o to)(ay:hn X (e::es) t)(ie:attributeBase o name X.env (eval o X.env)=eval o X.env:=by rfl)(km:((backTo c8 (starEach (e::es) X.env)).all (fun x => !x.1)&&(backToKw c8 (keywordEach [] X.env)).all (fun x=>x.1.isSome)
   && decide ((e::es).length+([]:List Keyword).length+(if([]:List Keyword).isEmpty then 0 else 1)<30))=true:=by rfl)(ig:(apos.endLine==c8.line)=true:=by rfl)(aq:starEach (e::es) X.env=(false,eval e X.env)::starEach es X.env:=by rfl)(oM:(backTo c8 (starEach es X.env)).any (·.1)=false:=by rfl):
  b0 X (.Call (.Attribute o name apos) (e::es) [] c8) (L4 X.K T r to t):=by
 intro pins s σ H Q I h;refine wpAny_Call_method_late ie km ig rfl (ck (aE pins s σ H _ I h) fun v s1 ⟨x,H1,bf,au,ty,aW⟩=>?_);obtain⟨aa,ab⟩:=DK bf au ty;refine⟨T,id,pa,slot,zi,aa,ab,?_⟩;have jf:=ay c8 pins s1 σ H1 _ bf aW;rw[aq]at jf ⊢;refine Calls.callWith_builtin (by show(false||(backTo c8 (starEach es X.env)).any (·.1))=false;rw[oM]<;>rfl) (Calls.evalArgs_plain ?_);exact ck jf fun us s2 ⟨vs,aZ,ec,aG,bS⟩=>hm pins s2 σ aZ x vs v us Q ec au aG bS
end
def rM(X:aM)(id:String)(r:V->List V->ao->cO->Prop):Prop :=
 ∀(pins:List (Addr×Obj))(s:Shared)(σ:St)(H:ao)(x:V)(xs:List V)(v:Value)(us:List Value)(Q:cO),Inv X pins σ H s->RelV x v->Vals xs us->r x xs H Q ->
  wpAny (model X.prog X.w) X.A (call (.builtin id) (v::us)) (hl X pins σ Q) X.xe s
theorem Vals.one:∀{x:V}{us:List Value},Vals [x] us->∃u,us=[u]/\RelV x u
 | _,_,.cons r .nil=>⟨_,rfl,r⟩
theorem Vals.zero:∀{us:List Value},Vals [] us->us=[]
 | _,.nil=>rfl
theorem Vals.dropLast{xs:List V}{us:List Value}(h:Vals xs us):Vals xs.dropLast us.dropLast:=by
 induction h with
 | nil=>exact .nil
 | cons r t c0 =>
  cases t with
  | nil=>exact .nil
  | cons q t'=>exact .cons r c0
theorem Vals.eraseIdx:∀{xs:List V}{us:List Value}(i:Nat),Vals xs us->Vals (xs.eraseIdx i) (us.eraseIdx i)
 | _,_,_,.nil=>.nil
 | _,_,0,.cons _ t=>t
 | _,_,i+1,.cons r t=>.cons r (Vals.eraseIdx i t)
theorem L6{α:Type}(l:List α):l.eraseIdx (l.length-1)=l.dropLast:=by
 induction l with
 | nil=>rfl
 | cons a r c0 =>
  cases r with
  | nil=>rfl
  | cons b r =>
   have e:(a::b::r).length-1=((b::r).length-1)+1:=by
    have aa:(a::b::r).length=r.length+2:=rfl;have ab:(b::r).length=r.length+1:=rfl;omega
   rw[e,acR,c0]
   all_goals rfl
theorem zj{α:Type}:∀(l:List α)(i:Nat),(l.eraseIdx i).length<=l.length
 | [],_=>YK _
 | _::_,0=>aa8 _
 | _::r,i+1=>Nat.succ_le_succ (zj r i)
section
variable{X:aM}{pins:List (Addr×Obj)}{σ:St}{H:ao}{s:Shared}{l b:Addr}{xs ys zs:List V}
theorem Inv.lset{its its':List Value}{n:Nat}{f:Array Value->Array Value}{t':Nat}(I:Inv X pins σ H s)(dw:H l=some (.lst xs))(e:s.heap.get? l=some { cls:=.type "list",data:=.seq its.toArray n })(hf:f its.toArray=its'.toArray)(aP:Vals ys its')(bb:ys.length<=sizeLine):
  Inv X pins σ (upd H l (.lst ys)) { s with heap:=s.heap.update l (Obj.mapSeq f),toks:=t' }:=by
 have q:=PySem.IsL.update e f;rw[hf]at q;refine I.write (x:=l) (e:=l) (by rw[dw];exact trivial) (.inl rfl) (fun b' u af bF=>(Heap.get?_update_other s.heap (Obj.mapSeq f) (Z8 af)).trans bF) ⟨_,q⟩ ?_;exact⟨bb,its',_,aP,q⟩
theorem Inv.lnew{its:List Value}{t':Nat}(I:Inv X pins σ H s)(aP:Vals ys its)(bb:ys.length<=sizeLine):
  Inv X pins σ (upd H s.heap.objs.size (.lst ys)) { s with heap:=s.heap.push { cls:=.type "list",data:=.seq its.toArray },toks:=t' }:=
 I.laid (fun _ _ q=>Heap.get?_push_of_some _ q) (YK _) ⟨bb,its,0,aP,Heap.get?_push_size _ rfl⟩
theorem Inv.fresh(I:Inv X pins σ H s):H s.heap.objs.size=none:=I.hok.fresh (YK _)
theorem Inv.lstM(I:Inv X pins σ H s)(dw:H l=some (.lst xs)):xs.length<=sizeLine/\∃(its:List Value)(n:Nat),Vals xs its/\xs.length=its.length/\s.heap.get? l=some { cls:=.type "list",data:=.seq its.toArray n }:=by
 obtain⟨z,its,n,r,e⟩:=I.hok l _ dw;exact⟨z,its,n,r,r.length,e⟩
theorem DL{n:Nat}(h:n<=sizeLine):Builtin.List.listTooLong n=false:=by
 unfold Builtin.List.listTooLong;exact decide_eq_false (by omega)
end
section
variable{X:aM}
def L7:V->List V->ao->cO->Prop:=fun x vs H Q=>∃l xs y,x=.ref l/\vs=[y]/\H l=some (.lst xs)/\xs.length<sizeLine/\Q .non (upd H l (.lst (xs++[y])))
theorem DM:rM X "list.append" L7:=by
 intro pins s σ H x vs v us Q I bg cb h;obtain⟨l,xs,y,rfl,rfl,dw,bb,q⟩:=h;cases bg;obtain⟨u,rfl,hH⟩:=cb.one;obtain⟨z,its,n,r,aj,e⟩:=I.lstM dw;refine call_meets F.slot_list_append ⟨_,e,rfl⟩ F.entry_list_append (F.args_list_append_2 _ _) (PySem.list_append l its.toArray n u (by rw[ZM];omega)) ⟨e,?_⟩;refine⟨.non,_,I.lset (its':=its++[u]) dw e (by simp) (r.append (.cons hH .nil)) ?_,rfl,q⟩;rw[Zg,aal];omega
def L8:V->List V->ao->cO->Prop:=fun x vs H Q=>∃l b xs zs,x=.ref l/\vs=[.ref b]/\H l=some (.lst xs)/\H b=some (.lst zs)/\xs.length+zs.length<=sizeLine/\Q .non (upd H l (.lst (xs++zs)))
theorem L9:rM X "list.extend" L8:=by
 intro pins s σ H x vs v us Q I bg cb h;obtain⟨l,b,xs,zs,rfl,rfl,dw,ed,bb,q⟩:=h;cases bg;obtain⟨u,rfl,hH⟩:=cb.one;cases hH;obtain⟨z,its,n,r,aj,e⟩:=I.lstM dw;obtain⟨aT,fT,dk,aG,uU,av⟩:=I.lstM ed;have je:its.toArray.size+fT.toArray.size<=sizeLine:=by rw[ZM,ZM];omega
 have zk:¬(!its.toArray.isEmpty&&Builtin.List.listTooLong (its.toArray.size+fT.toArray.size))=true:=by
  rw[DL je,Bool.and_false];exact ZR
 refine call_meets F.slot_list_extend ⟨_,e,rfl⟩ F.entry_list_extend (F.args_list_extend_2 _ _)
  (AutoSeq1.list_extend_list_list_0 l its.toArray n b fT.toArray dk zk (by rw[ZM];omega) (by omega)) ⟨e,av,?_⟩
 refine⟨.non,_,I.lset (its':=its++fT) dw e (by simp) (r.append aG) ?_,rfl,q⟩;rw[Zg];omega
def L':V->List V->ao->cO->Prop:=fun x vs H Q=>∃l xs y,x=.ref l/\vs=[]/\H l=some (.lst xs)/\xs[xs.length-1]?=some y/\Q y (upd H l (.lst xs.dropLast))
theorem Ma:rM X "list.pop" L':=by
 intro pins s σ H x vs v us Q I bg cb h;obtain⟨l,xs,y,rfl,rfl,dw,a6,q⟩:=h;cases bg;have Mb:=cb.zero;subst Mb;obtain⟨z,its,n,r,aj,e⟩:=I.lstM dw;obtain⟨u,bF,hH⟩:=r.get a6
 have ni:its.toArray[its.toArray.size-1]?=some u:=by
  show its.toArray[its.length-1]?=some u
  rw[<-ace,<-aj];exact bF
 refine call_meets F.slot_list_pop ⟨_,e,rfl⟩ F.entry_list_pop (F.args_list_pop_1 _) (MeetsSeq.list_pop_last l its.toArray n u ni (by rw[ZM];omega)) ⟨e,?_⟩;refine⟨y,_,I.lset (its':=its.dropLast) dw e ?_ r.dropLast ?_,hH,q⟩
 ·show its.toArray.eraseIdxIfInBounds (its.toArray.size-1)=its.dropLast.toArray
  rw[ZM,acS,L6]
 ·rw[List.length_dropLast];omega
def Mc:V->List V->ao->cO->Prop:=fun x vs H Q=>∃l xs i k y,x=.ref l/\vs=[.int i]/\H l=some (.lst xs) /\ -(2^63)<=i/\i<2^63/\seqIndex? i xs.length=some k/\xs[k]?=some y/\Q y (upd H l (.lst (xs.eraseIdx k)))
theorem Md:rM X "list.pop" Mc:=by
 intro pins s σ H x vs v us Q I bg cb h;obtain⟨l,xs,i,k,y,rfl,rfl,dw,aa,ab,ah,a6,q⟩:=h;cases bg;obtain⟨u,rfl,hH⟩:=cb.one;obtain⟨t,rfl⟩:=hH;obtain⟨z,its,n,r,aj,e⟩:=I.lstM dw;obtain⟨w,hw,l'⟩:=r.get a6
 refine call_meets F.slot_list_pop ⟨_,e,rfl⟩ F.entry_list_pop (F.args_list_pop_2 _ _)
  (MeetsSeq.list_pop_at l its.toArray n i t k w (fitsIndex_both aa ab) (by rw[ZM,<-aj];exact ah) (by rw[<-ace];exact hw) (by rw[ZM];omega)) ⟨e,?_⟩
 refine⟨y,_,I.lset (its':=its.eraseIdx k) dw e ?_ (r.eraseIdx k) ?_,l',q⟩
 ·show its.toArray.eraseIdxIfInBounds k=(its.eraseIdx k).toArray
  rw[acS]
 ·have:=zj xs k;omega
def Me:e5:=fun x y H Q=>∃l b xs zs,x=.ref l/\y=.ref b/\H l=some (.lst xs)/\H b=some (.lst zs)/\xs.length+zs.length<=sizeLine/\∀p,H p=none->Q (.ref p) (upd H p (.lst (xs++zs)))
theorem Mf:fJ X (binaryOp .Add) Me:=by
 intro pins s σ H x y v u Q I bg cu h;obtain⟨l,b,xs,zs,rfl,rfl,dw,ed,bb,q⟩:=h;cases bg;cases cu;obtain⟨z,its,n,r,aj,e⟩:=I.lstM dw;obtain⟨aT,fT,dk,aG,uU,av⟩:=I.lstM ed;refine PySem.P.add_list e av ?_ (by rw[ZM,ZM];omega);have dm:its.toArray++fT.toArray=(its++fT).toArray:=by simp
 rw[dm];exact⟨.ref _,_,I.lnew (t':=s.toks) (r.append aG) (by rw[Zg];omega),rfl,q _ I.fresh⟩
end
section
variable{prog:Program}{w:World}{A:Around}{E:Value->Shared->Prop}{s:Shared}
set_option maxRecDepth 100000 in
end
end L2
namespace Att
open PySem PySem.W PySem.Calls PyProof.Rows
theorem Mg{P:Params}{h:Heap}:∀(ns:List Int)(vs:List Value),WellAll P h vs (ns.map WData.int)->IntsAre vs ns:=by
 intro ns;induction ns with
 | nil =>
  intro vs w;rw[aaq]at w;cases w;exact .nil
 | cons n ns c0 =>
  intro vs w;rw[ZE]at w;cases w with
  | cons a b =>
   cases a;exact .cons _ _ (c0 _ b)
theorem Mh{l:OpenLaw}{n:Nat}(aN:l.most=some n){P:Params}{h:Heap}{args:List WData}{vals:List Value}(mf:l.row.toRowW.claim.pre args=true)(zl:WellAll P h vals args):
  ∃a vs ns,vals=[Value.ref a]/\args=[WData.list (ns.map WData.int)]/\h.get? a=some { cls:=.type "list",data:=.seq vs.toArray }/\IntsAre vs ns/\ns.length<=n:=by
 have hsh:WShape.hasAll [] args [.list .int]=true:=(pre_splitW mf).1;have hc:l.pre.holds [] { args:=args }=true:=(pre_splitW mf).2;obtain⟨d,r,rfl,aa,ab⟩:=hasAllW_cons hsh;obtain rfl:=hasAllW_nil ab;obtain⟨xs,rfl,aK⟩:=hasW_list aa;obtain⟨ns,rfl⟩:=items_int aK
 have hlen:ns.length<=n:=by
  unfold OpenLaw.pre at hc
  have bo:(WTm.not (.lt (.lit (.int (n:Int))) (.len (.arg 0)))).holds [] { args:=[.list (ns.map .int)] }=true:=by
   have bo:=(holds_andW hc).1;rw[aN]at bo;exact bo
  have df:=condW_of bo (w_not (w_lt w_lit (w_len_list (w_arg rfl))));rw[YL]at df;refine Nat.le_of_not_lt fun q=>?_;have gk:(n:Int)<((ns.length:Nat):Int):=by omega
  first
   | (rw[decide_eq_true gk]at df;exact absurd df (by decide))
   | (simp at df;omega)
 cases zl with
 | cons w1 c7 =>
  cases c7;cases w1 with
  | list aE qe=>exact⟨_,_,ns,rfl,rfl,aE,Mg ns _ qe,hlen⟩
theorem Mi(l:OpenLaw)(args:List WData):l.row.toRowW.claim.post args (.bool true) args=true :=
 postW_of (r:=l.row.toRowW) (X:=(true==true))
  (show WShape.has [] (.bool true) .bool=true by first|rfl|decide|simp[WShape.has,WShape.arms,WShape.armsAll])
  (show(WTm.eq .res (.lit (.bool true))).value [] { args:=args,res:=some (.bool true),after:=args }=some (.bool (true==true))from w_eq_bool (w_res rfl) w_lit) rfl
theorem attach_call{l:OpenLaw}{n:Nat}{q:Program}{loose:List Str}{XP:(Str->Option Value)->Heap->Prop}{YP:World->Heap->Prop}{d:DefRec}(aN:l.most=some n)(zm:d.params.defaults=[])(call:∀(w:World) (s₀ dN:Shared) (mg gn:Str->Option Value) (gs:Addr) (o:Obj) (pm cd doc:Value) (a:Addr) (vs:List Value) (ns:List Int),Ground q loose [] XP w s₀ mg gn dN.heap->YP w dN.heap->dN.heap.get? gs=some o->o.data=.func (docDef d.name d.params d.body d.scope pm cd doc)->dN.heap.CodeRec cd d.name->mg d.name=some (.ref gs)->dN.heap.get? a=some { cls:=.type "list",data:=.seq vs.toArray }->IntsAre vs ns->ns.length<=n->dN.gens = #[]->codeAny (model l.prog w) callerA (.call (.ref gs) ⟨[.ref a],[]⟩) (fun r s'=>r=.ok (.ret (.bool true))/\OldK dN.heap s'.heap/\s'.os=dN.os/\AllBare s'.gens) dN):
  WalkO q loose XP YP l.row.toRowW d [] (fun f vs=>PySem.call f vs):=by
 intro w s₀ dN mg gn G Y gs o pm cd doc uO kV aE hd dz gJ rN aD args vals as mf YN YO zl YQ;obtain rfl:uO=.none:=Dflts.none gJ zm;obtain rfl:kV=.none:=Dflts.noKw gJ;obtain⟨a,vs,ns,rfl,rfl,zo,hints,hlen⟩:=Mh aN mf zl;refine enter_call (codeAny_mono (call w s₀ dN mg gn gs o pm cd doc a vs ns G Y aE (fd_plain hd) dz rN zo hints hlen aD) fun r s' aA=>?_);obtain⟨rfl,ab,aK,bo⟩:=aA;exact⟨.inl ⟨.bool true,.bool true,[],rfl,fun _=>rfl,.bool true,Mi l _,fun _=>⟨List.Pairwise.nil,fun _ hm=>(nomatch hm)⟩⟩,ab,aK,bo⟩
end Att
namespace L2
open PySem PySem.Spec PyProof.Rows
theorem zp:∀{vs:List Value}{ns:List Int},IntsAre vs ns->Vals (ns.map V.int) vs
 | _,_,.nil=>.nil
 | _,_,.cons n t h=>.cons ⟨t,rfl⟩ (zp h)
def DN(H:ao):Prop:=∀b,H b=none∨∃o xs,H b=some (.frz o (.lst xs))
theorem Mj{P:Program}{w:World}{K:PySem.W.Frag}{mg gn:Str->Option Value}{ff:kk}{k:Nat}{gs a:Addr}{fd:FuncData}{x:Str}{sp:gH}{dN:Shared}{vs:List Value}{ns:List Int}(nh:K.In dN.heap)(nj:dN.heap.Ns mainGlobals mg)(af:dN.heap.Ns builtinsNs gn)(uV:∀x:Str,x≠"__name__"->gn x=bootBuiltins x)(Mk:dN.heap.NoLimit)(aD:dN.gens = #[])(ay:dN.heap.get? a=some { cls:=.type "list",data:=.seq vs.toArray })(aB:IntsAre vs ns)(aj:ns.length<=sizeLine)(ak:eA k callerA)(F:∀base:Heap,K.In base->base.Ns mainGlobals mg->iO P w K mg base ff k gs fd [x] sp)(Ml:∀(s:Shared) (u:Value),BindsTo s fd ⟨[u],[]⟩ [(x,u)])(qb:∀H:ao,DN H->cJ K H a (ns.map V.int)->sp [.ref a] H (fun v _=>v=.bl true) fun _ _ _=>False)(Mm:∀H e s',ff [] H dN (fun _ _ _=>False) e s'->False):
  codeAny (model P w) callerA (.call (.ref gs) ⟨[.ref a],[]⟩) (fun r s'=>r=.ok (.ret (.bool true))/\OldK dN.heap s'.heap/\s'.os=dN.os/\AllBare s'.gens) dN:=by
 have cb:=zp aB;have Mn:=aB.length
 have core:∀H:ao,DN H->cJ K H a (ns.map V.int)->ej P w H dN.heap->(∀b,H b≠none->b=a)->(H a≠none->K.lookup a=none) ->
   codeAny (model P w) callerA (.call (.ref gs) ⟨[.ref a],[]⟩) (fun r s'=>r=.ok (.ret (.bool true))/\OldK dN.heap s'.heap/\s'.os=dN.os/\AllBare s'.gens) dN:=by
  intro H zq cp hok jf e4;have DO:∀{b:Addr}{o:Obj},dN.heap.get? b=some o->H b=none->(l5 dN.heap H).get? b=some o:=fun e n=>J2 e n
  have rK:∀{b:Addr}{o:Obj}{es:Array DictEntry}{br:Nat},dN.heap.get? b=some o->o.data=.dict es br->H b=none:=fun{b o es br} e d=>by
   cases q:H b with
   | none=>rfl
   | some u =>
    have aU:b=a:=jf b (by rw[q];simp);subst aU;rw[ay]at e;cases e;have d':Data.seq vs.toArray _=Data.dict es br:=d;cases d'
  have uW:∀{b:Addr}{m:Str->Option Value},dN.heap.Ns b m->(l5 dN.heap H).Ns b m:=fun{b m} ⟨o,es,br,e,d,r⟩=>⟨o,es,br,DO e (rK e d),d,r⟩
  have DP:K.In (l5 dN.heap H):=fun b o e=>DO (nh b o e) (by
   cases q:H b with
   | none=>rfl
   | some u =>
    have aU:b=a:=jf b (by rw[q];simp);subst aU
    rw[e4 (by rw[q];simp)]at e;cases e)
  have gK:Mod K mg (l5 dN.heap H):=⟨DP,uW nj,⟨gn,uW af,uV⟩,let⟨oN,aa,ab⟩:=Mk;⟨oN,uW aa,ab⟩⟩;have d8:uM P w K mg (l5 dN.heap H) callerA [] dN H:=⟨rfl,gK,fun b o e=>J3 e,Nat.le_of_eq (J1 _ _),trivial,fun b af=>absurd (show b∈([]:List Addr)from af) (by simp),hok,.of_eq aD⟩;refine codeAny_mono ((F _ DP (uW nj)).run callerA [] dN H ⟨[.ref a],[]⟩ [.ref a] [.ref a] _ _ ak d8 (Ml dN (.ref a)) (.cons rfl .nil) (qb H zq cp)) fun r s' h=>?_;cases r with
  | error e=>exact(Mm H e s' h).elim
  | ok lj =>
   cases lj with
   | next=>exact aas h
   | brk=>exact aas h
   | cont=>exact aas h
   | ret u =>
    obtain⟨v,H',os,bare,un,Mo,d0,q⟩:=h;have gk:v=.bl true:=q;subst gk;obtain rfl:u=Value.bool true:=d0;refine⟨rfl,OldK.of_keep fun b o e=>?_,os,bare⟩;cases q:H b with
    | none=>exact un.keep b o e q (by intro z;exact absurd (show b∈([]:List Addr)from z) (by simp)) (by simp)
    | some u =>
     rcases zq b with z|⟨cI,xs,z⟩
     ·rw[q]at z;cases z
     ·have aT:=un.frzs b cI _ z;obtain⟨ai,_⟩:=hok b _ z;obtain⟨av,_⟩:=Mo b _ aT;rw[e]at ai;cases ai;exact av
 cases ah:K.lookup a with
 | some o =>
  have e:=nh a o ah;rw[ay]at e;cases e;refine core (fun _=>none) (fun _=>.inl rfl) (.inr ⟨_,vs.toArray,_,ah,rfl,rfl,rfl,by rw[ZM,Mn];exact aj,by simpa using cb⟩) (fun b u z=>by have el:(none:Option eS)=some u:=z;cases el) (fun b z=>absurd rfl z) fun z=>absurd rfl z
 | none =>
  refine core (fun b=>if b=a then some (.frz { cls:=.type "list",data:=.seq vs.toArray } (.lst (ns.map V.int)))else none) (fun b=>?_) (.inl (.inr ⟨{ cls:=.type "list",data:=.seq vs.toArray },if_pos rfl⟩)) (fun b u z=>?_) (fun b z=>?_) fun _=>ah
  ·by_cases af:b=a
   ·exact .inr ⟨_,_,if_pos af⟩
   ·exact .inl (if_neg af)
  ·by_cases af:b=a
   ·have el:=(if_pos af).symm.trans z;cases el;subst af;exact⟨ay,by rw[YL];exact aj,vs,_,cb,ay⟩
   ·have el:=(if_neg af).symm.trans z;cases el
  ·by_cases af:b=a
   ·exact af
   ·exact absurd (if_neg af) z
def rO(s:Stmt):Arguments:=match s with
 | .FunctionDef _ a _ _ _ _ _ _ _ _=>a
 | _=>{ posonlyargs:=[],args:=[],vararg:=none,kwonlyargs:=[],kw_defaults:=[],kwarg:=none,defaults:=[] }
def kn(s:Stmt):List Stmt:=match s with
 | .FunctionDef _ _ b _ _ _ _ _ _ _=>b
 | _=>[]
def b4(s:Stmt):Scope:=match s with
 | .FunctionDef _ _ _ _ _ _ sc _ _ _=>sc
 | _=>{ kind:=.function,names:=[],isGenerator:=false,isCoroutine:=false }
abbrev jg:kk:=fun _ _ _ _ _ _=>False
abbrev oO:fB:=fun _ _ _=>False
theorem DQ{X:aM}:Passes jg X oO:=fun _ _ _ _ _ _ _ h=>h.elim
structure lq (K:PySem.W.Frag) (x qual:Str) (st:Stmt) (f:Addr) (fd:FuncData):Prop where
 ex:∃(oc:Value)(od:Option Addr)(kV doc pm:Value)(an:Option Addr)(cdv ct:Value)(osl:Array (Option Value)),
  fd=PySem.W.fnOf x qual (rO st) (kn st) (b4 st) .none kV doc pm an cdv ct/\K.lookup f=some ⟨oc,od,.func fd,osl⟩/\PySem.W.codeIn K cdv qual=true
 kp:PySem.W.keepIn K (.ref f)=true
section
variable{P:Program}{w:World}{K:PySem.W.Frag}{mg:Str->Option Value}{base:Heap}
theorem lq.ok{x qual:Str}{st:Stmt}{f:Addr}{fd:FuncData}{N ps:List Str}{k:Nat}{sp:gH}(F:lq K x qual st f fd)(S:cK N ps (b4 st))(len:∀vs H Q E,sp vs H Q E->vs.length=ps.length)(jd:∀(cdv:Value) (A:Around) (outer:List Env) (s:Shared) (H:ao) (vs:List V) (Q:cO) (E:fB),eA k (A.deeper (envOfC qual (b4 st) s.heap.objs.size f cdv))->sp vs H Q E->∃t,ib (kl jg P w K mg base N qual (b4 st) f cdv A outer s H E).nox (kn st) t/\t { nx:=fun _ H'=>Q .non H',rt:=Q } (start N vs) H):iO P w K mg base jg (k+1) f fd ps sp:=by
 obtain⟨oc,od,kV,doc,pm,an,cdv,ct,osl,rfl,lk,dz⟩:=F.ex;refine Ly lk dz S len fun A outer s H vs Q E ak qb=>?_;obtain⟨t,h,q⟩:=jd cdv A outer s H vs Q E ak qb;exact⟨t,h.nox,q⟩
theorem lq.binds{x qual:Str}{st:Stmt}{f:Addr}{fd:FuncData}{ps:List Str}(F:lq K x qual st f fd)(h:∀(kV doc pm:Value) (an:Option Addr) (cdv ct:Value) (us:List Value),us.length=ps.length->bindArgs (PySem.W.fnOf x qual (rO st) (kn st) (b4 st) .none kV doc pm an cdv ct) ⟨us,[]⟩=pure (ps.zip us)):Binds K fd ps []:=by
 obtain⟨oc,od,kV,doc,pm,an,cdv,ct,osl,rfl,lk,dz⟩:=F.ex;exact .all (h kV doc pm an cdv ct)
theorem Mp{x qual:Str}{st:Stmt}{f:Addr}{oc:Value}{od an:Option Addr}{osl:Array (Option Value)}{kV doc pm cdv ct:Value}(l:K.lookup f=some ⟨oc,od,.func (PySem.W.fnOf x qual (rO st) (kn st) (b4 st) .none kV doc pm an cdv ct),osl⟩)(c:PySem.W.codeIn K cdv qual=true)(k:PySem.W.keepIn K (.ref f)=true):lq K x qual st f (PySem.W.fnOf x qual (rO st) (kn st) (b4 st) .none kV doc pm an cdv ct):=⟨⟨oc,od,kV,doc,pm,an,cdv,ct,osl,rfl,l,c⟩,k⟩
end
section
variable{X:aM}
theorem f9(i:Nat){x:Str}{pos:Pos}(bI:X.N[i]?=some x:=by rfl)(aP:gF X.env.scope x:=by first|exact Sz rfl|exact Zh (Sz rfl)|exact Zh (Zh rfl))(hd:(x==("__debug__":Str))=false:=by decide)(dz:(x==("__classdict__":Str))=false:=by decide):b0 X (.Name x pos) (yR i):=ic bI aP hd dz
end
theorem f'{A B:Prop}(h:B):if false=true then A else B:=by
 rw[if_neg ZR];exact h
theorem Mq{A B:Prop}(h:A):if true=true then A else B:=by
 rw[if_pos rfl];exact h
def cm(H H':ao):Prop:=∀b o,H b=some o->H' b=some o
theorem cm.refl(H:ao):cm H H:=fun _ _ h=>h
theorem cm.trans{H H1 aZ:ao}(a:cm H H1)(b:cm H1 aZ):cm H aZ:=fun c o h=>b c o (a c o h)
theorem cm.free{H H':ao}(e:cm H H'){l:Addr}(h:H' l=Option.none):H l=Option.none:=by
 cases q:H l with
 | none=>rfl
 | some o =>
  rw[e l o q]at h;cases h
theorem cm.seq{K:PySem.W.Frag}{H H':ao}{a:Addr}{xs:List V}(e:cm H H')(h:cJ K H a xs):cJ K H' a xs:=by
 rcases h with(h|⟨o,h⟩)|h
 ·exact .inl (.inl (e _ _ h))
 ·exact .inl (.inr ⟨o,e _ _ h⟩)
 ·exact .inr h
end L2
set_option maxHeartbeats 4000000
namespace L2
open PySem PySem.Spec PyProof.Rows
open PySem.Builtin.Int (intBits)
def zr(i j:Int):Prop:=intBits i<=9000/\intBits j<=9000
def qf(_ j:Int):Prop:=j≠0/\intBits j<=9000
theorem Mr{x y:Int}(h:intBits y<=9000):Builtin.divisionGoesByPylong x y=false:=by
 by_cases h0:y=0
 ·subst h0;exact PyProof.noPylong_small (by decide)
 ·refine PyProof.noPylong_of_log2 ?_;have q:=intBits_le_iff.mp h;have aN:y.natAbs≠0:=by omega
  exact(Nat.log2_lt aN).mpr q
section
variable{X:aM}{a b:Expr}{bT tb:TE}{pos:Pos}
theorem rP:fJ X (binaryOp .Mult) (p8 zr fun i j=>.int (i*j)):=uI fun _ _ _ _ _ _ _ hc q=>mul_int q (IntMulOk.of_le hc.1 hc.2 (by decide))
theorem uX:fJ X (binaryOp .FloorDiv) (p8 qf fun i j=>.int (i.fdiv j)):=uI fun _ _ _ _ _ _ _ hc q=>floordiv_int hc.1 q (.inl (Mr hc.2))
theorem jh:fJ X (compareOp .Eq) (jK fun i j=>.bl (decide (i=j))):=p9 fun _ _ _ _ _ _ _ q=>eq_int (by rw[acT];exact q)
theorem rQ:fJ X (compareOp .NotEq) (jK fun i j=>.bl (!decide (i=j))):=p9 fun _ _ _ _ _ _ _ q=>ne_int (by rw[bne,acT];exact q)
def Ms(H:ao)(p:Addr)(xs:List V):Prop:=H p=some (.tup xs)∨H p=some (.lst xs)
def Mt:e5:=fun x y H Q=>∃p xs i v,x=.ref p/\y=.int i/\Ms H p xs/\dO xs i=some v/\Q v H
theorem oP:qd X Mt:=by
 intro value slice pins s σ H x y v u Q I bg cu h aq;obtain⟨p,xs,i,z,ai,av,aA,he,q⟩:=h;rcases aA with aA|aA
 ·exact DJ value slice pins s σ H x y v u Q I bg cu ⟨p,xs,i,z,ai,av,en.of aA,he,q⟩ aq
 ·exact zf value slice pins s σ H x y v u Q I bg cu ⟨p,xs,i,z,ai,av,cJ.of aA,he,q⟩ aq
theorem Mu:nc X (.builtin "isinstance") (fun xs H Q=>∃x t n b,xs=[x,.ty n]/\iN X.K H x t/\aca X.K t (.type n)=some b/\Q (.bl b) H):=by
 intro pins s σ H xs us Q I r h;obtain⟨x,t,n,b,rfl,ty,e,q⟩:=h;obtain⟨u,k8,rfl,au,aG⟩:=vals2 r;cases aG;exact Lp I au ty e fun iL=>⟨.bl b,H,I.tok _,rfl,q⟩
structure aJ (P:Program) (w:World) (K:PySem.W.Frag) (mg:Str->Option Value) (base:Heap) (x:Str) (ps:List Str) (k:Nat) (sp:gH):Prop where
 ex:∃f fd,mg x=some (.ref f)/\PySem.W.keepIn K (.ref f)=true/\Binds K fd ps []/\iO P w K mg base jg k f fd ps sp
structure cG (K:PySem.W.Frag) (mg:Str->Option Value) (x:Str) (st:Stmt) (ps:List Str):Prop where
 ex:∃f fd,mg x=some (.ref f)/\lq K x x st f fd/\Binds K fd ps []
theorem aJ.imp{P:Program}{w:World}{K:PySem.W.Frag}{mg:Str->Option Value}{base:Heap}{x:Str}{ps:List Str}{k:Nat}{sp rJ:gH}(c:aJ P w K mg base x ps k sp)(h:∀vs H Q E,rJ vs H Q E->sp vs H Q E):aJ P w K mg base x ps k rJ:=by
 obtain⟨f,fd,m,kp,b,F⟩:=c.ex;exact⟨f,fd,m,kp,b,F.imp h⟩
theorem qg{x:Str}{ps:List Str}{j k:Nat}{sp:gH}{p:Pos}{e:Expr}{es:List Expr}{t:eV}(c:aJ X.prog X.w X.K X.mg X.base x ps j sp)(ak:eA k X.A)(aD:eJ X x)(ay:hn X (e::es) t)(gL:j<=k:=by decide)(gW:(x==("__debug__":Str))=false:=by decide)(he:starEach (e::es) X.env=(false,eval e X.env)::starEach es X.env:=by rfl)(e6:(backTo pos (starEach es X.env)).any (·.1)=false:=by rfl):
  b0 X (.Call (.Name x p) (e::es) [] pos) (uN sp [] oO t):=by
 obtain⟨f,fd,m,kp,b,F⟩:=c.ex;exact Lw F (ak.mono gL) aD m kp b .nil DQ ay gW he e6
theorem cG.ok{P:Program}{w:World}{K:PySem.W.Frag}{mg:Str->Option Value}{base:Heap}{x:Str}{st:Stmt}{N ps:List Str}{k:Nat}{sp:gH}(F:cG K mg x st ps)(S:cK N ps (b4 st))(len:∀vs H Q E,sp vs H Q E->vs.length=ps.length)(jd:∀(f:Addr) (cdv:Value) (A:Around) (outer:List Env) (s:Shared) (H:ao) (vs:List V) (Q:cO) (E:fB),eA k (A.deeper (envOfC x (b4 st) s.heap.objs.size f cdv))->sp vs H Q E->∃t,ib (kl jg P w K mg base N x (b4 st) f cdv A outer s H E).nox (kn st) t/\t { nx:=fun _ H'=>Q .non H',rt:=Q } (start N vs) H):aJ P w K mg base x ps (k+1) sp:=by
 obtain⟨f,fd,m,DR,b⟩:=F.ex;exact⟨f,fd,m,DR.kp,b,DR.ok S len (jd f)⟩
end
theorem fL{p:Prop}[Decidable p]{A B:Prop}(aa:p->A)(ab:¬p->B):if decide p=true then A else B:=by
 by_cases h:p
 ·rw[decide_eq_true h];exact aa h
 ·rw[decide_eq_false h];exact ab h
theorem Mv{p:Prop}[Decidable p]{A B:Prop}(aa:¬p->A)(ab:p->B):if(!decide p)=true then A else B:=by
 by_cases h:p
 ·rw[decide_eq_true h];exact ab h
 ·rw[decide_eq_false h];exact aa h
def Ext(b:Addr)(H H':ao):Prop:=∀a o,a≠b->H a=some o->H' a=some o
theorem Ext.trans{b:Addr}{H H1 aZ:ao}(e:Ext b H H1)(f:Ext b H1 aZ):Ext b H aZ:=fun a o n h=>f a o n (e a o n h)
theorem Ext.upd(b:Addr)(H:ao)(o:eS):Ext b H (L2.upd H b o):=fun a u n h=>by rw[dM n];exact h
theorem uY{H:ao}{p:Addr}(h:H p=none)(o:eS):cm H (L2.upd H p o):=fun b u q=>by rw[dM (m3 q h)];exact q
end L2
namespace L2
open PySem PySem.Spec PyProof.Rows
theorem ej.but{P:Program}{w:World}{H:ao}{h h':Heap}{C:Addr}(x:ej P w H h)(n:H C=none)(k:∀b u,b≠C->h.get? b=some u->h'.get? b=some u):ej P w H h':=fun a o e =>
 (x a o e).stay (fun b u af q=>k b u (by rcases af with rfl|af;exact m3 e n;exact m3 af n) q) (fun _ q=>q) fun _ _ q=>q
theorem fq.but{fs ex:List Addr}{H H':ao}{h aa ab:Heap}{C:Addr}(u:fq fs ex H H' h aa)(uZ:h.get? C=none)(k:∀b u,b≠C->aa.get? b=some u->ab.get? b=some u):fq fs ex H H' h ab where
 keep:=fun b o q n f e=>k b o (by rintro rfl;rw[uZ]at q;cases q) (u.keep b o q n f e)
 slot:=fun b o q n f e=>by
  obtain⟨sl,z⟩:=u.slot b o q n f e;exact⟨sl,k b _ (by rintro rfl;rw[uZ]at q;cases q) z⟩
 free:=u.free
 there:=fun b o q e=>by
  obtain⟨e3,z⟩:=u.there b o q e;exact⟨e3,k b _ (by rintro rfl;rw[uZ]at q;cases q) z⟩
 tups:=u.tups
 frzs:=u.frzs
 tbls:=u.tbls
def dn(X:aM)(N:List Str)(scope:Scope)(cl:List (Str×Addr))(C:Addr)(s:Shared)(H:ao)(ex:List Addr):aM :=
 { X with N:=N,s₀:=s,H₀:=H,env:=compEnvC scope cl C X.env,outer:=X.stack,ex:=ex,fn:=fun _=>false,pn:=[],xe:=fun _ _=>False }
def hp(σ:St)(js:List Nat):St:=js.map fun j=>(σ[j]?).join
theorem Vals.getR:∀{xs:List V}{us:List Value}{i:Nat}{u:Value},Vals xs us->us[i]?=some u->∃x,xs[i]?=some x/\RelV x u
 | _,_,_,_,.nil,e=>by simp at e
 | _,_,0,_,.cons r _,e=>by simp at e;subst e;exact⟨_,rfl,r⟩
 | _,_,i+1,u,.cons _ t,e=>by
  obtain⟨x,aa,ab⟩:=Vals.getR (i:=i) (u:=u) t (by simpa using e);exact⟨x,by simpa using aa,ab⟩
section
variable{X:aM}
theorem Mw(hc:X.calm=true):nc X (.builtin "all") (fun xs H Q=>∃l ys,xs=[.ref l]/\H l=some (.lst ys)/\(∀y∈ys,y=.bl true)/\Q (.bl true) H):=by
 intro pins s σ H xs us Q I r h;obtain⟨l,ys,rfl,aj,bt,q⟩:=h;obtain⟨u,rfl,au⟩:=vals1 r;cases au;obtain⟨its,cb,c1,bb⟩:=I.list (cJ.of aj);have zt:=c1.isList
 have cM:l<s.heap.objs.size:=by
  obtain⟨_,e,_⟩:=zt;exact Heap.lt_size e
 refine call_all_walk (wpAny_pyIter_list zt ⟨s.heap.objs.size,[s.heap.objs.size,l],[s.heap.objs.size],its.toArray.size,_,_,fun _=>true,rfl,Walks.list (A:=X.A.in1) (I.ok.hd hc) _ l (Z0 cM) its.toArray,?_,?_,?_⟩)
 ·exact⟨⟨_,Heap.get?_push_size _ rfl,rfl,rfl⟩,zt.push _⟩
 ·intro i v s' yQ YR gr gV;obtain⟨y,fM,cu⟩:=cb.getR (i:=i) (u:=v) (by simpa using gr);have e:=bt y (aag fM);subst e;cases cu;exact wpAny_truthy_bool gV
 ·intro h' iL ah;have e:((ZX its.toArray.size).all fun _=>true)=true:=by simp
  rw[e];refine⟨.bl true,H,I.kept (h':=h') (t':=iL) fun b o ep=>?_,rfl,q⟩;refine ah b o (fun hm=>?_) (Heap.get?_push_of_some _ ep);rw[ZG.mp hm]at ep;exact aaC _ (Heap.lt_size ep)
end
end L2
namespace Cut
open PySem
open PySem.Builtin.Int (intBits)
theorem lr{x:Int}(aa : -(2^64)<x)(ab:x<2^64):intBits x<=64:=intBits_le_64 aa ab
theorem d6{x t:Int}{n:Nat}(h:x.natAbs<=t.natAbs)(bt:intBits t<=n):intBits x<=n:=intBits_le_of_natAbs h bt
def aO(x y:Int):Prop:=0<y/\YJ x y=1
theorem DS{x y:Int}(aC:0<=x)(a6:0<y):YJ y (x%y)=YJ x y:=by
 obtain⟨m,rfl⟩:=acU aC;obtain⟨n,rfl⟩:=acU (Z4 a6);have e:((m:Int)%(n:Int))=((m%n:Nat):Int):=rfl;rw[e];show Z1 n (m%n)=Z1 m n
 rw[acf m n,Nat.gcd_rec n m,acf]
theorem DT(a b:Int):YJ (if a<0 then -a else a) (if b<0 then -b else b)=YJ a b:=by
 have e:∀z:Int,(if z<0 then -z else z).natAbs=z.natAbs:=fun z=>by split<;>omega
 unfold YJ;rw[e,e]
theorem gcd_zero_left{x:Int}(h:0<=x):((YJ x 0:Nat):Int)=x:=by
 rw[acV];omega
theorem nk{t b:Int}(af:b≠0):0<((YJ t b:Nat):Int):=by
 have:0<YJ t b:=abK t af;omega
theorem DU{t b g s:Int}(af:b≠0)(aD:g=(YJ t b:Nat))(aq:s=g/\0<b∨s = -g/\b<0):
  aO (t.fdiv s) (b.fdiv s)/\t.fdiv s*b=t*b.fdiv s/\(t.fdiv s).natAbs<=t.natAbs/\(b.fdiv s).natAbs<=b.natAbs:=by
 have gp:0<g:=by rw[aD];exact nk af
 have bN:g∣t:=by rw[aD];exact abL t b
 have b1:g∣b:=by rw[aD];exact abr t b
 have s1:s∣t:=by rcases aq with⟨h,_⟩|⟨h,_⟩<;>rw[h];exact bN;exact aa9.mpr bN
 have s2:s∣b:=by rcases aq with⟨h,_⟩|⟨h,_⟩<;>rw[h];exact b1;exact aa9.mpr b1
 have s0:s≠0:=by rcases aq with⟨h,_⟩|⟨h,_⟩<;>omega
 obtain⟨x,aC⟩:=s1;obtain⟨y,a6⟩:=s2;have ex:t.fdiv s=x:=by rw[aC];exact aa' x s0
 have fM:b.fdiv s=y:=by rw[a6];exact aa' y s0
 have ai:(t.fdiv s).natAbs<=t.natAbs:=natAbs_fdiv_le t s;have av:(b.fdiv s).natAbs<=b.natAbs:=natAbs_fdiv_le b s;refine⟨⟨?_,?_⟩,?_,ai,av⟩
 ·rw[fM];rcases aq with⟨h,ag⟩|⟨h,ag⟩
  ·rw[a6,h]at ag;exact aaG ag gp
  ·rw[a6,h]at ag;have:0<g*y:=by rw[aba]at ag;omega
   exact aaG this gp
 ·rw[ex,fM]
  have q:YJ t b=s.natAbs*YJ x y:=by
   rw[aC,a6,acg]
  have sn:s.natAbs=g.toNat:=by rcases aq with⟨h,_⟩|⟨h,_⟩<;>omega
  have jL:g.toNat=YJ t b:=by omega
  rw[sn,jL]at q;have pos:0<YJ t b:=abK t af;have:YJ t b*YJ x y=YJ t b*1:=by omega
  exact ach pos this
 ·rw[ex,fM];have:x*b=x*(s*y):=by rw[<-a6]
  have ab:t*y=s*x*y:=by rw[<-aC]
  rw[this,ab,<-aaN,ZQ x s]
theorem mh{k n m:Int}(h:k∣n*m)(g:YJ k n=1):k∣m:=by
 have q:=Int.dvd_gcd_mul_iff_dvd_mul.mpr h;rw[g]at q;simpa using q
theorem zu{x y gu eu:Int}(h:aO x y)(h':aO gu eu)(e:x*eu=gu*y):x=gu/\y=eu:=by
 obtain⟨p,g⟩:=h;obtain⟨ma,g'⟩:=h'
 have bN:y∣eu:=by
  have:y∣x*eu:=⟨gu,by rw[e,ZQ]⟩;exact mh this (by rw[aam];exact g)
 have b1:eu∣y:=by
  have:eu∣gu*y:=⟨x,by rw[<-e,ZQ]⟩;exact mh this (by rw[aam];exact g')
 have fM:y=eu:=Int.dvd_antisymm (Z4 p) (Z4 ma) bN b1;refine⟨?_,fM⟩;rw[fM]at e;exact aaj (by omega) e
end Cut
namespace Cut
def lu(x y z:Int):Prop:=0<z/\YJ (YJ x y:Nat) z=1
theorem u0(a b n:Int):YJ (YJ a n:Nat) b=Z1 (Z1 a.natAbs b.natAbs) n.natAbs:=by
 show Z1 (Z1 a.natAbs n.natAbs) b.natAbs=_
 rw[Nat.gcd_assoc,acf n.natAbs,<-Nat.gcd_assoc]
theorem zv(a b n:Int):YJ (YJ a b:Nat) n=Z1 (Z1 a.natAbs b.natAbs) n.natAbs:=rfl
theorem Mx(a b n:Int):YJ (YJ n a:Nat) b=YJ (YJ a n:Nat) b:=by
 rw[aam n a]
theorem DV{a b n:Int}(aN:n≠0):0<((YJ (YJ a n:Nat) b:Nat):Int):=by
 rw[u0];have:0<Z1 (Z1 a.natAbs b.natAbs) n.natAbs:=Nat.gcd_pos_of_pos_right _ (by omega);omega
theorem DW(a b n:Int):((YJ (YJ a n:Nat) b:Nat):Int)∣a/\((YJ (YJ a n:Nat) b:Nat):Int)∣b/\((YJ (YJ a n:Nat) b:Nat):Int)∣n:=by
 rw[u0];have aa:=abt (Z1 a.natAbs b.natAbs) n.natAbs;have ab:=abM (Z1 a.natAbs b.natAbs) n.natAbs;refine⟨?_,?_,?_⟩
 ·exact abb.mpr (abN aa (abt _ _))
 ·exact abb.mpr (abN aa (abM _ _))
 ·exact abb.mpr ab
theorem DX{a b n g s:Int}(aN:n≠0)(aD:g=(YJ (YJ a n:Nat) b:Nat))(aq:s=g/\0<n∨s = -g/\n<0):
  lu (a.fdiv s) (b.fdiv s) (n.fdiv s)/\a.fdiv s*n=a*n.fdiv s/\b.fdiv s*n=b*n.fdiv s/\(a.fdiv s).natAbs<=a.natAbs/\(b.fdiv s).natAbs<=b.natAbs/\(n.fdiv s).natAbs<=n.natAbs:=by
 have gp:0<g:=by rw[aD];exact DV aN
 obtain⟨bN,b1,gX⟩:=DW a b n;rw[<-aD]at bN b1 gX;have s0:s≠0:=by rcases aq with⟨h,_⟩|⟨h,_⟩<;>omega
 have zw:∀z:Int,g∣z->s∣z:=fun z bb=>by
  rcases aq with⟨h,_⟩|⟨h,_⟩<;>rw[h]
  ·exact bb
  ·exact aa9.mpr bb
 obtain⟨x,aC⟩:=zw a bN;obtain⟨y,a6⟩:=zw b b1;obtain⟨z,bb⟩:=zw n gX;have ex:a.fdiv s=x:=by rw[aC];exact aa' x s0
 have fM:b.fdiv s=y:=by rw[a6];exact aa' y s0
 have qh:n.fdiv s=z:=by rw[bb];exact aa' z s0
 refine⟨⟨?_,?_⟩,?_,?_,aci a s,aci b s,aci n s⟩
 ·rw[qh];rcases aq with⟨h,ag⟩|⟨h,ag⟩
  ·rw[bb,h]at ag;exact aaG ag gp
  ·rw[bb,h]at ag;have:0<g*z:=by rw[aba]at ag;omega
   exact aaG this gp
 ·rw[ex,fM,qh,zv];rw[u0,aC,a6,bb,aau,aau,aau,abO,abO]at aD;have sn:s.natAbs=g.toNat:=by rcases aq with⟨h,_⟩|⟨h,_⟩<;>omega
  have pos:0<s.natAbs:=by omega
  have q:s.natAbs*Z1 (Z1 x.natAbs y.natAbs) z.natAbs=s.natAbs*1:=by omega
  exact ach pos q
 ·rw[ex,qh];have aa:x*n=x*(s*z):=by rw[<-bb]
  have ab:a*z=s*x*z:=by rw[<-aC]
  rw[aa,ab,<-aaN,ZQ x s]
 ·rw[fM,qh];have aa:y*n=y*(s*z):=by rw[<-bb]
  have ab:b*z=s*y*z:=by rw[<-a6]
  rw[aa,ab,<-aaN,ZQ y s]
theorem zx{x y z gu eu el:Int}(g:YJ (YJ x y:Nat) z=1)(ai:x*el=gu*z)(av:y*el=eu*z):z∣el:=by
 have bN:z.natAbs∣x.natAbs*el.natAbs:=⟨gu.natAbs,by rw[<-aau,ai,aau,Nat.mul_comm]⟩;have b1:z.natAbs∣y.natAbs*el.natAbs:=⟨eu.natAbs,by rw[<-aau,av,aau,Nat.mul_comm]⟩;have gX:z.natAbs∣z.natAbs*el.natAbs:=⟨el.natAbs,rfl⟩;have q:=Nat.dvd_gcd (Nat.dvd_gcd bN b1) gX;rw[acW,acW]at q;rw[zv]at g;rw[g,Nat.one_mul]at q;exact abu.mp q
theorem u1{x y z gu eu el:Int}(h:lu x y z)(h':lu gu eu el)(ai:x*el=gu*z)(av:y*el=eu*z):x=gu/\y=eu/\z=el:=by
 have bN:=zx h.2 ai av;have b1:=zx h'.2 ai.symm av.symm;have qh:z=el:=Int.dvd_antisymm (Z4 h.1) (Z4 h'.1) bN b1;subst qh;have iP:z≠0:=YM h.1;exact⟨aaj iP ai,aaj iP av,rfl⟩
theorem My{a b n:Int}{k:Nat}(aN:n≠0)(h:acj n<=k):acj ((YJ (YJ a n:Nat) b:Nat):Int)<=k:=by
 refine PySem.intBits_le_of_natAbs ?_ h;exact ack (by omega) (abu.mpr (DW a b n).2.2)
theorem zy{u v:Int}(bF:0<u)(aP:0<v):u*v≠0:=YM (Ze bF aP)
theorem zz{x y z:Int}(h:lu x y z):lu (-x) (-y) z:=by
 refine⟨h.1,?_⟩;have g:=h.2;rw[zv]at g ⊢;rw[Int.natAbs_neg,Int.natAbs_neg];exact g
end Cut
namespace L3
open PySem L2
open PySem.Builtin.Int (intBits)
inductive D where
 | non|bl (b:Bool)|int (i:Int)|str (x:Str)|ty (n:String)|tup (xs:List D)|lst (xs:List D)|scr (ns:List Int)|ktup (xs:List D)|kfn (f:Addr)|dct (b:Bool) (ks:List (List (List Int))) (ds:List D)
inductive lx where
 | l (ds:List D)|d (b:Bool) (t:Option Addr) (ks:List (List (List Int))) (ds:List D)
instance:Coe (List D) lx:=⟨lx.l⟩
inductive ko where
 | ll (a:Addr) (as:List Addr) (hI:List (List D))|dl (b:Bool) (a:Addr) (ks:List (List (List Int))) (as:List Addr) (hI:List (List D))
def ko.adr:ko->Addr
 | .ll a _ _=>a
 | .dl _ a _ _ _=>a
def ko.ins:ko->List Addr
 | .ll _ as _=>as
 | .dl _ _ _ as _=>as
inductive aI where
 | no|val (d:D)|own (c:lx)|bag|new (d:D)|pin (v:V) (d:D)|deep (c:ko)
def nq(b:Bool)(k:List (List Int)):Int :=
 if b then reduceHash (Builtin.Tuple.tupleHashOf (k.map fun ks=>reduceHash (Builtin.Tuple.tupleHashOf (ks.map hashInt))))else reduceHash (Builtin.Tuple.tupleHashOf ((k.headD []).map hashInt))
def ih(b:Bool)(k:List (List Int)):D:=if b then .tup (k.map fun ks=>.tup (ks.map D.int))else .tup ((k.headD []).map D.int)
def ji(b:Bool):List (List (List Int))->List Addr->List Value->List DictEntry
 | k::ks,a::as,u::us=>⟨nq b k,.ref a,u⟩::ji b ks as us
 | _,_,_=>[]
def iQ(b:Bool)(a:Addr)(br:Nat)(ks:List (List (List Int)))(as:List Addr)(vs:List V):eS:=.ext fun h=>ks.length<=sizeLine/\as.length=ks.length/\vs.length=ks.length/\(a==sysModules)=false /\
 ∃us:List Value,Vals vs us/\∃o es,h.get? a=some o/\o.ExactDict/\o.data=.dict es br/\es.toList=ji b ks as us/\ks.Nodup
mutual
inductive Rep (K:PySem.W.Frag) (B:ao):V->D->Prop where
 | non:Rep K B .non .non
 | bl (b:Bool):Rep K B (.bl b) (.bl b)
 | int (i:Int):Rep K B (.int i) (.int i)
 | str (x:Str):Rep K B (.str x) (.str x)
 | ty (n:String):Rep K B (.ty n) (.ty n)
 | tup {a:Addr} {vs:List V} {ds:List D} (h:B a=some (.tup vs)) (r:Reps K B vs ds):Rep K B (.ref a) (.tup ds)
 | lst {a:Addr} {vs:List V} {ds:List D} (h:B a=some (.lst vs)) (r:Reps K B vs ds):Rep K B (.ref a) (.lst ds)
 | scr {a:Addr} {ns:List Int} (h:cJ K B a (ns.map V.int)):Rep K B (.ref a) (.scr ns)
 | ktup {a:Addr} {vs:List V} {ds:List D} (h:en K B a vs) (r:Reps K B vs ds):Rep K B (.ref a) (.ktup ds)
 | kfn (f:Addr):Rep K B (.ref f) (.kfn f)
 | dct {a:Addr} {b:Bool} {br:Nat} {ks:List (List (List Int))} {as:List Addr} {vs:List V} {ds:List D} (h:B a=some (iQ b a br ks as vs)) (ah:Reps K B (as.map V.ref) (ks.map (ih b))) (af:b=false->∀k∈ks,∃l,k=[l]) (r:Reps K B vs ds):Rep K B (.ref a) (.dct b ks ds)
inductive Reps (K:PySem.W.Frag) (B:ao):List V->List D->Prop where
 | nil:Reps K B [] []
 | cons {v:V} {d:D} {vs:List V} {ds:List D} (h:Rep K B v d) (r:Reps K B vs ds):Reps K B (v::vs) (d::ds)
end
theorem DY{K:PySem.W.Frag}{H H':ao}{a:Addr}{xs:List V}(e:cm H H')(h:en K H a xs):en K H' a xs:=by
 rcases h with(h|⟨o,h⟩)|h
 ·exact .inl (.inl (e _ _ h))
 ·exact .inl (.inr ⟨o,e _ _ h⟩)
 ·exact .inr h
section
variable{K:PySem.W.Frag}{B ax:ao}
mutual
theorem Rep.mono(s:cm B ax):∀{v:V}{d:D},Rep K B v d->Rep K ax v d
 | _,_,.non=>.non
 | _,_,.bl b=>.bl b
 | _,_,.int i=>.int i
 | _,_,.str x=>.str x
 | _,_,.ty n=>.ty n
 | _,_,.tup h r=>.tup (s _ _ h) (Reps.mono s r)
 | _,_,.lst h r=>.lst (s _ _ h) (Reps.mono s r)
 | _,_,.scr h=>.scr (s.seq h)
 | _,_,.ktup h r=>.ktup (DY s h) (Reps.mono s r)
 | _,_,.kfn f=>.kfn f
 | _,_,.dct h ah af r=>.dct (s _ _ h) (Reps.mono s ah) af (Reps.mono s r)
theorem Reps.mono(s:cm B ax):∀{vs:List V}{ds:List D},Reps K B vs ds->Reps K ax vs ds
 | _,_,.nil=>.nil
 | _,_,.cons h r=>.cons (Rep.mono s h) (Reps.mono s r)
end
theorem Reps.length:∀{vs:List V}{ds:List D},Reps K B vs ds->vs.length=ds.length
 | _,_,.nil=>rfl
 | _,_,.cons _ r=>by rw[ZC,ZC,r.length]
theorem Reps.get:∀{vs:List V}{ds:List D}{i:Nat}{d:D},Reps K B vs ds->ds[i]?=some d->∃v,vs[i]?=some v/\Rep K B v d
 | _,_,_,_,.nil,e=>by simp at e
 | _,_,0,_,.cons h _,e=>by simp at e;subst e;exact⟨_,rfl,h⟩
 | _,_,i+1,d,.cons _ r,e=>by
  obtain⟨v,aa,ab⟩:=Reps.get (i:=i) (d:=d) r (by simpa using e);exact⟨v,by simpa using aa,ab⟩
theorem Reps.getV:∀{vs:List V}{ds:List D}{i:Nat}{v:V},Reps K B vs ds->vs[i]?=some v->∃d,ds[i]?=some d/\Rep K B v d
 | _,_,_,_,.nil,e=>by simp at e
 | _,_,0,_,.cons h _,e=>by simp at e;subst e;exact⟨_,rfl,h⟩
 | _,_,i+1,v,.cons _ r,e=>by
  obtain⟨d,aa,ab⟩:=Reps.getV (i:=i) (v:=v) r (by simpa using e);exact⟨d,by simpa using aa,ab⟩
theorem Reps.append:∀{vs ws:List V}{ds es:List D},Reps K B vs ds->Reps K B ws es->Reps K B (vs++ws) (ds++es)
 | _,_,_,_,.nil,s=>s
 | _,_,_,_,.cons h r,s=>.cons h (Reps.append r s)
theorem Reps.take:∀{vs:List V}{ds:List D}(n:Nat),Reps K B vs ds->Reps K B (vs.take n) (ds.take n)
 | _,_,0,_=>.nil
 | _,_,_+1,.nil=>.nil
 | _,_,n+1,.cons h r=>.cons h (Reps.take n r)
theorem Reps.drop:∀{vs:List V}{ds:List D}(n:Nat),Reps K B vs ds->Reps K B (vs.drop n) (ds.drop n)
 | _,_,0,r=>r
 | _,_,_+1,.nil=>.nil
 | _,_,n+1,.cons _ r=>Reps.drop n r
theorem Reps.ints:∀(ns:List Int),Reps K B (ns.map V.int) (ns.map D.int)
 | []=>.nil
 | n::r=>.cons (.int n) (Reps.ints r)
end
def gv(H:ao)(b:Addr):Prop:=∃x y:Int,H b=some (.lst [.int x,.int y])/\0<=x/\0<=y/\y<2147483647
def cX(σ:St)(ρ:List aI)(i:Nat)(a:Addr):Prop:=(σ[i]?=some (some (.ref a))/\(ρ[i]?=some .bag∨∃ds,ρ[i]?=some (.own ds)))∨∃c,ρ[i]?=some (.deep c)/\a∈c.adr::c.ins
structure Wd (R:ao) (W:Addr->Prop) (B H:ao):Prop where
 fr:∀a o,R a=some o->¬W a->H a=some o
 bh:cm B H
 wb:∀a,W a->B a=none
 wh:∀a,W a->gv H a
 wr:∀a,W a->R a≠none
open Classical in
noncomputable def fD(R:ao)(W:Addr->Prop)(B:ao):ao:=fun a=>match R a with
 | some (.lst vs)=>if W a then B a else some (.lst vs)
 | _=>B a
theorem oQ{R:ao}{W:Addr->Prop}{B ax:ao}(s:cm B ax):cm (fD R W B) (fD R W ax):=fun a o h=>by
 unfold fD at h ⊢;split at h
 ·split at h
  ·rename_i z;rw[if_pos z];exact s a o h
  ·rename_i z;rw[if_neg z];exact h
 ·exact s a o h
def jM(K:PySem.W.Frag)(B H:ao)(a:Addr):lx->Prop
 | .l ds=>∃vs,H a=some (.lst vs)/\Reps K B vs ds
 | .d b t ks ds=>∃br as vs,(∀c,t=some c->c=a)/\H a=some (iQ b a br ks as vs)/\Reps K B (as.map V.ref) (ks.map (ih b))/\(b=false->∀k∈ks,∃l,k=[l])/\Reps K B vs ds
theorem jM.mono{K:PySem.W.Frag}{B ax H H':ao}{a:Addr}{c:lx}(h:jM K B H a c)(s:cm B ax)(e:H' a=H a):jM K ax H' a c:=by
 cases c with
 | l ds=>obtain⟨vs,aa,ab⟩:=h;exact⟨vs,by rw[e];exact aa,ab.mono s⟩
 | d b t ks ds=>obtain⟨br,as,vs,h0,aa,ab,aK,bo⟩:=h;exact⟨br,as,vs,h0,by rw[e];exact aa,ab.mono s,aK,bo.mono s⟩
theorem jM.ne{K:PySem.W.Frag}{B H:ao}{a:Addr}{c:lx}(h:jM K B H a c):H a≠none:=by
 cases c with
 | l ds=>obtain⟨vs,aa,ab⟩:=h;rw[aa];simp
 | d b t ks ds=>obtain⟨br,as,vs,_,aa,_⟩:=h;rw[aa];simp
structure oR (K:PySem.W.Frag) (B H:ao) (as:List Addr) (hI:List (List D)):Prop where
 len:as.length=hI.length
 at_:∀(i:Nat)(a:Addr)(ds:List D),as[i]?=some a->hI[i]?=some ds->∃vs,H a=some (.lst vs)/\Reps K B vs ds
theorem oR.mono{K:PySem.W.Frag}{B ax H H':ao}{as:List Addr}{hI:List (List D)}(h:oR K B H as hI)(s:cm B ax)(e:∀a∈as,H' a=H a):oR K ax H' as hI :=
 ⟨h.len,fun i a ds aa ab=>by
  obtain⟨vs,aW,bS⟩:=h.at_ i a ds aa ab
  exact⟨vs,by rw[e a (aag aa)];exact aW,bS.mono s⟩⟩
theorem oR.ne{K:PySem.W.Frag}{B H:ao}{as:List Addr}{hI:List (List D)}(h:oR K B H as hI){a:Addr}(m:a∈as):H a≠none:=by
 obtain⟨i,aB⟩:=aaO m
 have lt:i<as.length:=by
  by_cases z:i<as.length
  ·exact z
  ·rw[Z' (by omega)]at aB;cases aB
 obtain⟨vs,aW,_⟩:=h.at_ i a _ aB (ZT (by rw[<-h.len];exact lt));rw[aW];simp
def qi(K:PySem.W.Frag)(B H:ao):ko->Prop
 | .ll a as hI=>H a=some (.lst (as.map V.ref))/\oR K B H as hI
 | .dl b a ks as hI=>∃br rR,H a=some (iQ b a br ks rR (as.map V.ref))/\Reps K B (rR.map V.ref) (ks.map (ih b))/\(b=false->∀k∈ks,∃l,k=[l])/\oR K B H as hI
structure DZ (K:PySem.W.Frag) (R B H:ao) (c:ko):Prop where
 fr:∀a∈c.adr::c.ins,R a=none/\B a=none
 nd:(c.adr::c.ins).Nodup
 ok:qi K B H c
theorem qi.mono{K:PySem.W.Frag}{B ax H H':ao}{c:ko}(h:qi K B H c)(s:cm B ax)(e:∀a∈c.adr::c.ins,H' a=H a):qi K ax H' c:=by
 cases c with
 | ll a as hI=>exact⟨by rw[e a Zd];exact h.1,h.2.mono s fun x m=>e x (Zf _ m)⟩
 | dl b a ks as hI =>
  obtain⟨br,rR,aa,ab,aK,bo⟩:=h;exact⟨br,rR,by rw[e a Zd];exact aa,ab.mono s,aK,bo.mono s fun x m=>e x (Zf _ m)⟩
theorem qi.ne{K:PySem.W.Frag}{B H:ao}{c:ko}(h:qi K B H c){a:Addr}(m:a∈c.adr::c.ins):H a≠none:=by
 cases c with
 | ll b as hI =>
  rcases ZA.mp m with e|m
  ·rw[show a=b from e,h.1];simp
  ·exact h.2.ne m
 | dl b p ks as hI =>
  obtain⟨br,rR,aa,ab,aK,bo⟩:=h;rcases ZA.mp m with e|m
  ·rw[show a=p from e,aa];simp
  ·exact bo.ne m
def D0(K:PySem.W.Frag)(R:ao)(W:Addr->Prop)(B H:ao)(o:Option V):aI->Prop
 | .no=>True
 | .val d=>∃v,o=some v/\Rep K B v d
 | .own c=>∃a,o=some (.ref a)/\R a=none/\B a=none/\jM K B H a c
 | .bag=>∃b,o=some (.ref b)/\(W b∨R b=none)/\B b=none/\gv H b
 | .new d=>∃v,o=some v/\Rep K (fD R W B) v d
 | .pin v d=>o=some v/\Rep K (fD R W B) v d
 | .deep c=>o=some (.ref c.adr)/\DZ K R B H c
structure Ev (K:PySem.W.Frag) (R:ao) (W:Addr->Prop) (B H:ao) (σ:St) (ρ:List aI):Prop extends Wd R W B H where
 len:σ.length=ρ.length
 ok:∀(i:Nat)(k:aI),ρ[i]?=some k->D0 K R W B H (σ[i]?).join k
 sep:∀(i j:Nat)(a:Addr),cX σ ρ i a->cX σ ρ j a->i=j
structure bM (R B ax:ao):Prop where
 s:cm B ax
 n:∀a o,ax a=some o->B a=some o∨R a=none
theorem bM.refl(R B:ao):bM R B B:=⟨cm.refl _,fun _ _ h=>.inl h⟩
theorem bM.trans{R B ax D1:ao}(g:bM R B ax)(h:bM R ax D1):bM R B D1:=⟨g.s.trans h.s,fun a o e=>(h.n a o e).elim (g.n a o) .inr⟩
theorem Wd.fresh{R:ao}{W:Addr->Prop}{B H:ao}(w:Wd R W B H){p:Addr}(h:H p=none):R p=none/\¬W p/\B p=none:=by
 have nw:¬W p:=fun z=>by
  obtain⟨x,y,e,_⟩:=w.wh p z;rw[h]at e;cases e
 refine⟨?_,nw,w.bh.free h⟩;cases q:R p with
 | none=>rfl
 | some o=>rw[w.fr p o q nw]at h;cases h
theorem join_some{α:Type}{o:Option (Option α)}{v:α}(h:o.join=some v):o=some (some v):=by
 cases o with
 | none=>cases h
 | some x=>exact congrArg some h
section
variable{K:PySem.W.Frag}{R:ao}{W:Addr->Prop}{B ax H H':ao}{σ:St}{ρ:List aI}
theorem Ev.val(e:Ev K R W B H σ ρ){i:Nat}{d:D}(h:ρ[i]?=some (.val d)):∃v,σ[i]?=some (some v)/\Rep K B v d:=by
 obtain⟨v,aa,ab⟩:=e.ok i _ h;exact⟨v,join_some aa,ab⟩
theorem Ev.ownAt(e:Ev K R W B H σ ρ){i:Nat}{ds:List D}(h:ρ[i]?=some (.own ds)):∃a vs,σ[i]?=some (some (.ref a))/\R a=none/\B a=none/\H a=some (.lst vs)/\Reps K B vs ds:=by
 obtain⟨a,aa,ab,aK,vs,bo,df⟩:=e.ok i _ h;exact⟨a,vs,join_some aa,ab,aK,bo,df⟩
theorem Ev.ownC(e:Ev K R W B H σ ρ){i:Nat}{c:lx}(h:ρ[i]?=some (.own c)):∃a,σ[i]?=some (some (.ref a))/\R a=none/\B a=none/\jM K B H a c:=by
 obtain⟨a,aa,ab⟩:=e.ok i _ h;exact⟨a,join_some aa,ab⟩
theorem Ev.bagAt(e:Ev K R W B H σ ρ){i:Nat}(h:ρ[i]?=some .bag):∃b,σ[i]?=some (some (.ref b))/\(W b∨R b=none)/\B b=none/\gv H b:=by
 obtain⟨a,aa,ab⟩:=e.ok i _ h;exact⟨a,join_some aa,ab⟩
theorem Ev.deepAt(e:Ev K R W B H σ ρ){i:Nat}{c:ko}(h:ρ[i]?=some (.deep c)):σ[i]?=some (some (.ref c.adr))/\DZ K R B H c:=by
 obtain⟨aa,ab⟩:=e.ok i _ h;exact⟨join_some aa,ab⟩
theorem Ev.mutOk(e:Ev K R W B H σ ρ){i:Nat}{a:Addr}(m:cX σ ρ i a):B a=none/\H a≠none:=by
 rcases m with⟨aa,ab|⟨ds,ab⟩⟩|⟨c,aa,ab⟩
 ·obtain⟨b,ai,_,bC,x,y,c6,_⟩:=e.bagAt ab;rw[aa]at ai;cases ai;exact⟨bC,by rw[c6];simp⟩
 ·obtain⟨b,ai,_,bC,c6⟩:=e.ownC ab;rw[aa]at ai;cases ai;exact⟨bC,c6.ne⟩
 ·have q:=(e.deepAt aa).2;exact⟨(q.fr a ab).2,q.ok.ne ab⟩
theorem Mz{i:Nat}{a:Addr}(m:cX σ ρ i a)(n:∀c,ρ[i]?≠some (.deep c)):σ[i]?=some (some (.ref a))/\(ρ[i]?=some .bag∨∃ds,ρ[i]?=some (.own ds)):=by
 rcases m with m|⟨c,h,_⟩
 ·exact m
 ·exact absurd h (n c)
theorem oS{i:Nat}{a:Addr}(m:cX σ ρ i a)(h:ρ[i]?=some .bag):σ[i]?=some (some (.ref a)):=(Mz m fun c z=>by rw[h]at z;cases z).1
theorem Ev.move(e:Ev K R W B H σ ρ)(w:Wd R W ax H')(s:cm B ax)(m:∀i a,cX σ ρ i a->ax a=none/\(ρ[i]?=some .bag->gv H' a)/\(ρ[i]?≠some .bag->H' a=H a)):Ev K R W ax H' σ ρ:=by
 refine⟨w,e.len,fun i k h=>?_,e.sep⟩;cases k with
 | no=>trivial
 | new d =>
  obtain⟨v,aa,ab⟩:=e.ok i _ h;exact⟨v,aa,ab.mono (oQ s)⟩
 | pin v d =>
  obtain⟨aa,ab⟩:=e.ok i _ h;exact⟨aa,ab.mono (oQ s)⟩
 | val d =>
  obtain⟨v,aa,ab⟩:=e.ok i _ h;exact⟨v,aa,ab.mono s⟩
 | own ds =>
  obtain⟨a,aa,ab,aK,bo⟩:=e.ok i _ h;obtain⟨bw,b3,jN⟩:=m i a (.inl ⟨join_some aa,.inr ⟨ds,h⟩⟩);exact⟨a,aa,ab,bw,bo.mono s (jN (by rw[h];simp))⟩
 | deep c =>
  obtain⟨aa,ab⟩:=e.ok i _ h
  have bA:∀a∈c.adr::c.ins,ax a=none/\H' a=H a:=fun a ij=>by
   obtain⟨bw,b3,jN⟩:=m i a (.inr ⟨c,h,ij⟩);exact⟨bw,jN (by rw[h];simp)⟩
  exact⟨aa,fun a ij=>⟨(ab.fr a ij).1,(bA a ij).1⟩,ab.nd,ab.ok.mono s fun a ij=>(bA a ij).2⟩
 | bag =>
  obtain⟨b,aa,ab,aK,bo⟩:=e.ok i _ h;obtain⟨bw,b3,jN⟩:=m i b (.inl ⟨join_some aa,.inl h⟩);exact⟨b,aa,ab,bw,b3 h⟩
theorem gv.upd{H:ao}{b p:Addr}{o:eS}(h:gv H b)(n:b≠p):gv (L2.upd H p o) b:=by
 obtain⟨x,y,e,q⟩:=h;exact⟨x,y,by rw[dM n];exact e,q⟩
theorem Wd.alloc(w:Wd R W B H){p:Addr}(h:H p=none)(o:eS):Wd R W (upd B p o) (upd H p o):=by
 obtain⟨f1,f2,bQ⟩:=w.fresh h;refine⟨fun a u q nw=>?_,fun a u q=>?_,fun a z=>?_,fun a z=>?_,w.wr⟩
 ·rw[dM (by rintro rfl;rw[f1]at q;cases q)];exact w.fr a u q nw
 ·unfold L2.upd at q ⊢;split
  ·rename_i z;rw[if_pos z]at q;exact q
  ·rename_i z;rw[if_neg z]at q;exact w.bh a u q
 ·rw[dM (by rintro rfl;exact f2 z)];exact w.wb a z
 ·exact(w.wh a z).upd (by rintro rfl;exact f2 z)
theorem Wd.allocH(w:Wd R W B H){p:Addr}(h:H p=none)(o:eS):Wd R W B (upd H p o):=by
 obtain⟨f1,f2,bQ⟩:=w.fresh h;refine⟨fun a u q nw=>?_,fun a u q=>?_,w.wb,fun a z=>?_,w.wr⟩
 ·rw[dM (by rintro rfl;rw[f1]at q;cases q)];exact w.fr a u q nw
 ·rw[dM (by rintro rfl;rw[bQ]at q;cases q)];exact w.bh a u q
 ·exact(w.wh a z).upd (by rintro rfl;exact f2 z)
theorem Ev.notNew(e:Ev K R W B H σ ρ){p:Addr}(h:H p=none){i:Nat}{a:Addr}(m:cX σ ρ i a):a≠p:=by
 rintro rfl;exact(e.mutOk m).2 h
theorem Ev.alloc(e:Ev K R W B H σ ρ){p:Addr}(h:H p=none)(o:eS):Ev K R W (upd B p o) (upd H p o) σ ρ:=by
 obtain⟨f1,f2,bQ⟩:=e.toWd.fresh h;refine e.move (e.toWd.alloc h o) (uY bQ o) fun i a m=>?_;have n:=e.notNew h m;refine⟨by rw[dM n];exact(e.mutOk m).1,fun z=>?_,fun _=>dM n⟩;obtain⟨b,ai,_,_,c6⟩:=e.bagAt z;rw[oS m z]at ai;cases ai;exact c6.upd n
theorem Ev.allocH(e:Ev K R W B H σ ρ){p:Addr}(h:H p=none)(o:eS):Ev K R W B (upd H p o) σ ρ:=by
 refine e.move (e.toWd.allocH h o) (cm.refl _) fun i a m=>?_;have n:=e.notNew h m;refine⟨(e.mutOk m).1,fun z=>?_,fun _=>dM n⟩;obtain⟨b,ai,_,_,c6⟩:=e.bagAt z;rw[oS m z]at ai;cases ai;exact c6.upd n
theorem Ev.grow(e:Ev K R W B H σ ρ){p:Addr}(h:H p=none)(o:eS):bM R B (upd B p o):=by
 obtain⟨f1,f2,bQ⟩:=e.toWd.fresh h;refine⟨uY bQ o,fun a u q=>?_⟩;by_cases z:a=p
 ·subst z;exact .inr f1
 ·rw[dM z]at q;exact .inl q
theorem Ev.freezeO(e:Ev K R W B H σ ρ){a:Addr}{o:eS}(h:H a=some o)(ak:R a=none)(af:B a=none)(hm:∀i,¬cX σ ρ i a):Ev K R W (upd B a o) H σ ρ/\bM R B (upd B a o):=by
 have nw:¬W a:=fun z=>e.wr a z ak;refine⟨e.move ⟨e.fr,fun b u q=>?_,fun b z=>?_,e.wh,e.wr⟩ (uY af _) (fun i b m=>?_),⟨uY af _,fun b u q=>?_⟩⟩
 ·by_cases z:b=a
  ·subst z;rw[ei]at q;cases q;exact h
  ·rw[dM z]at q;exact e.bh b u q
 ·rw[dM (by rintro rfl;exact nw z)];exact e.wb b z
 ·have n:b≠a:=by rintro rfl;exact hm i m
  refine⟨by rw[dM n];exact(e.mutOk m).1,fun z=>?_,fun _=>rfl⟩;obtain⟨c,ai,_,_,c6⟩:=e.bagAt z;rw[oS m z]at ai;cases ai;exact c6
 ·by_cases z:b=a
  ·subst z;exact .inr ak
  ·rw[dM z]at q;exact .inl q
theorem Ev.freeze(e:Ev K R W B H σ ρ){a:Addr}{vs:List V}(h:H a=some (.lst vs))(ak:R a=none)(af:B a=none)(hm:∀i,¬cX σ ρ i a):Ev K R W (upd B a (.lst vs)) H σ ρ/\bM R B (upd B a (.lst vs)):=e.freezeO h ak af hm
theorem mi{α:Type}{l:List α}{i j:Nat}{x y:α}(h:(l.set i x)[j]?=some y):(j=i/\y=x)∨(j≠i/\l[j]?=some y):=by
 by_cases e:i=j
 ·subst e;rw[List.getElem?_set_self']at h;cases q:l[i]? with
  | none=>rw[q]at h;cases h
  | some z=>rw[q]at h;exact .inl ⟨rfl,(ZH h).symm⟩
 ·rw[aaE e]at h;exact .inr ⟨fun z=>e z.symm,h⟩
def aI.adrs:aI->List Addr
 | .deep c=>c.adr::c.ins
 | _=>[]
theorem u2{i j:Nat}{v:V}{k:aI}{a:Addr}(m:cX (σ.set i (some v)) (ρ.set i k) j a):(j=i/\((v=.ref a/\(k=.bag∨∃ds,k=.own ds))∨a∈k.adrs))∨(j≠i/\cX σ ρ j a):=by
 rcases m with⟨aa,ab⟩|⟨c,aa,ab⟩
 ·rcases mi aa with⟨e,aa⟩|⟨e,aa⟩
  ·refine .inl ⟨e,.inl ⟨(ZH aa).symm,?_⟩⟩;rcases ab with ab|⟨ds,ab⟩
   ·rcases mi ab with⟨_,ab⟩|⟨n,_⟩
    ·exact .inl ab.symm
    ·exact absurd e n
   ·rcases mi ab with⟨_,ab⟩|⟨n,_⟩
    ·exact .inr ⟨ds,ab.symm⟩
    ·exact absurd e n
  ·refine .inr ⟨e,.inl ⟨aa,?_⟩⟩;rcases ab with ab|⟨ds,ab⟩
   ·rcases mi ab with⟨n,_⟩|⟨_,ab⟩
    ·exact absurd n e
    ·exact .inl ab
   ·rcases mi ab with⟨n,_⟩|⟨_,ab⟩
    ·exact absurd n e
    ·exact .inr ⟨ds,ab⟩
 ·rcases mi aa with⟨e,aa⟩|⟨e,aa⟩
  ·exact .inl ⟨e,.inr (by rw[<-aa];exact ab)⟩
  ·exact .inr ⟨e,.inr ⟨c,aa,ab⟩⟩
theorem rS{i j:Nat}{v:V}{k:aI}{a:Addr}(m:cX (σ.set i (some v)) (ρ.set i k) j a)(cc:k≠.bag)(dk:∀c,k≠.own c)(kh:k.adrs=[]):j≠i/\cX σ ρ j a:=by
 rcases u2 m with⟨_,⟨_,z|⟨c,z⟩⟩|z⟩|m
 ·exact absurd z cc
 ·exact absurd z (dk c)
 ·rw[kh]at z;cases z
 ·exact m
theorem Ev.set(e:Ev K R W B H σ ρ)(i:Nat){v:V}{k:aI}(ah:D0 K R W B H (some v) k)(hm:∀a,v=.ref a->(k=.bag∨∃ds,k=.own ds)->∀j,j≠i->¬cX σ ρ j a)(hd:∀a∈k.adrs,∀j,j≠i->¬cX σ ρ j a:=by intro _ z;cases z):Ev K R W B H (σ.set i (some v)) (ρ.set i k):=by
 refine⟨e.toWd,by rw[abq,abq];exact e.len,fun j k' h=>?_,fun x y a aC a6=>?_⟩
 ·rcases mi h with⟨rfl,rfl⟩|⟨n,h⟩
  ·have lt:j<σ.length:=by
    rw[e.len];by_cases z:j<ρ.length
    ·exact z
    ·rw[Z' (by rw[abq];omega)]at h;cases h
   have q:((σ.set j (some v))[j]?).join=some v:=by rw[aaV lt];rfl
   rw[q];exact ah
  ·rw[aaE (fun z=>n z.symm)];exact e.ok j k' h
 ·rcases u2 aC with⟨ai,z1⟩|⟨cc,bw⟩
  ·rcases u2 a6 with⟨av,_⟩|⟨dk,b3⟩
   ·rw[ai,av]
   ·rcases z1 with⟨v1,bU⟩|z1
    ·exact absurd b3 (hm a v1 bU y dk)
    ·exact absurd b3 (hd a z1 y dk)
  ·rcases u2 a6 with⟨av,aT⟩|⟨dk,b3⟩
   ·rcases aT with⟨v2,cn⟩|aT
    ·exact absurd bw (hm a v2 cn x cc)
    ·exact absurd bw (hd a aT x cc)
   ·exact e.sep x y a bw b3
theorem Ev.setV(e:Ev K R W B H σ ρ)(i:Nat){v:V}{d:D}(r:Rep K B v d):Ev K R W B H (σ.set i (some v)) (ρ.set i (.val d)):=
 e.set i ⟨v,rfl,r⟩ fun _ _ z=>by rcases z with z|⟨_,z⟩<;>cases z
theorem Ev.setO(e:Ev K R W B H σ ρ)(i:Nat){a:Addr}{vs:List V}{ds:List D}(ak:R a=none)(af:B a=none)(et:H a=some (.lst vs))(r:Reps K B vs ds)(hm:∀j,j≠i->¬cX σ ρ j a):Ev K R W B H (σ.set i (some (.ref a))) (ρ.set i (.own ds)):=
 e.set i ⟨a,rfl,ak,af,vs,et,r⟩ fun b z _=>by cases z;exact hm
theorem Ev.setC(e:Ev K R W B H σ ρ)(i:Nat){a:Addr}{c:lx}(ak:R a=none)(af:B a=none)(et:jM K B H a c)(hm:∀j,j≠i->¬cX σ ρ j a):Ev K R W B H (σ.set i (some (.ref a))) (ρ.set i (.own c)):=
 e.set i ⟨a,rfl,ak,af,et⟩ fun b z _=>by cases z;exact hm
theorem Ev.writeC(e:Ev K R W B H σ ρ){i:Nat}{a:Addr}{c eU:lx}{o:eS}(h:σ[i]?=some (some (.ref a)))(aE:ρ[i]?=some (.own c))(r:jM K B (upd H a o) a eU):Ev K R W B (upd H a o) σ (ρ.set i (.own eU)):=by
 obtain⟨ez,ai,av,bC,c6⟩:=e.ownC aE;rw[h]at ai;cases ai;have nw:¬W a:=fun z=>e.wr a z av;have ik:cX σ ρ i a:=.inl ⟨h,.inr ⟨c,aE⟩⟩;refine⟨⟨fun b u q z=>?_,fun b u q=>?_,e.wb,fun b z=>?_,e.wr⟩,by rw[abq];exact e.len,fun j k q=>?_,fun x y b aC a6=>?_⟩
 ·rw[dM (by rintro rfl;rw[av]at q;cases q)];exact e.fr b u q z
 ·rw[dM (by rintro rfl;rw[bC]at q;cases q)];exact e.bh b u q
 ·exact(e.wh b z).upd (by rintro rfl;exact nw z)
 ·rcases mi q with⟨rfl,rfl⟩|⟨n,q⟩
  ·exact⟨a,by rw[h];rfl,av,bC,r⟩
  ·have z:=e.ok j k q;cases k with
   | no=>trivial
   | new d=>exact z
   | pin v d=>exact z
   | val d=>exact z
   | own es =>
    obtain⟨b,z1,aT,fk,eW⟩:=z;exact⟨b,z1,aT,fk,eW.mono (cm.refl _) (dM (by rintro rfl;exact n (e.sep j i b (.inl ⟨join_some z1,.inr ⟨es,q⟩⟩) ik)))⟩
   | deep d =>
    exact⟨z.1,z.2.fr,z.2.nd,z.2.ok.mono (cm.refl _) fun b gn=>dM (by rintro rfl;exact n (e.sep j i b (.inr ⟨d,q,gn⟩) ik))⟩
   | bag =>
    obtain⟨b,z1,aT,fk,eW⟩:=z;exact⟨b,z1,aT,fk,eW.upd (by rintro rfl;exact n (e.sep j i b (.inl ⟨join_some z1,.inl q⟩) ik))⟩
 ·have back:∀x,cX σ (ρ.set i (.own eU)) x b->cX σ ρ x b:=fun x m=>by
   rcases m with⟨bw,b3⟩|⟨d,bw,b3⟩
   ·by_cases z:x=i
    ·subst z;exact .inl ⟨bw,.inr ⟨c,aE⟩⟩
    ·refine .inl ⟨bw,?_⟩;rw[aaE (fun w=>z w.symm)]at b3;exact b3
   ·rcases mi bw with⟨_,z⟩|⟨_,bw⟩
    ·cases z
    ·exact .inr ⟨d,bw,b3⟩
  exact e.sep x y b (back x aC) (back y a6)
theorem Ev.write(e:Ev K R W B H σ ρ){i:Nat}{a:Addr}{ds ds':List D}{vs:List V}(h:σ[i]?=some (some (.ref a)))(aE:ρ[i]?=some (.own ds))(r:Reps K B vs ds'):Ev K R W B (upd H a (.lst vs)) σ (ρ.set i (.own ds')):=
 e.writeC h aE ⟨vs,ei,r⟩
theorem Ev.fz(e:Ev K R W B H σ ρ){i:Nat}{ds:List D}(aE:ρ[i]?=some (.own ds)):∃ax,Ev K R W ax H σ (ρ.set i (.val (.lst ds)))/\bM R B ax:=by
 obtain⟨a,vs,ai,av,bC,c6,eK⟩:=e.ownAt aE;have ik:cX σ ρ i a:=.inl ⟨ai,.inr ⟨ds,aE⟩⟩;have f:=(e.setV (d:=.non) i (v:=.non) .non)
 have f2:=f.freeze c6 av bC (fun j m=>by
  obtain⟨n,m⟩:=rS m (by simp) (by simp) rfl
  exact n (e.sep j i a m ik))
 refine⟨_,?_,f2.2⟩;have g:=f2.1.setV i (v:=.ref a) (d:=.lst ds) (.lst ei (eK.mono f2.2.s));rw[aaZ,aaZ]at g
 have q:σ.set i (some (.ref a))=σ:=by
  apply abc;intro j;by_cases z:i=j
  ·subst z
   have lt:i<σ.length:=by
    by_cases z:i<σ.length
    ·exact z
    ·rw[Z' (by omega)]at ai;cases ai
   rw[aaV lt,ai]
  ·rw[aaE z]
 rw[q]at g;exact g
theorem Ev.fzD(e:Ev K R W B H σ ρ){i:Nat}{b:Bool}{t:Option Addr}{ks:List (List (List Int))}{ds:List D}(aE:ρ[i]?=some (.own (.d b t ks ds))):∃ax,Ev K R W ax H σ (ρ.set i (.val (.dct b ks ds)))/\bM R B ax:=by
 obtain⟨a,ai,av,bC,br,as,vs,_,c6,eK,mj,D2⟩:=e.ownC aE;have ik:cX σ ρ i a:=.inl ⟨ai,.inr ⟨_,aE⟩⟩;have f:=(e.setV (d:=.non) i (v:=.non) .non)
 have f2:=f.freezeO c6 av bC (fun j m=>by
  obtain⟨n,m⟩:=rS m (by simp) (by simp) rfl
  exact n (e.sep j i a m ik))
 refine⟨_,?_,f2.2⟩;have g:=f2.1.setV i (v:=.ref a) (d:=.dct b ks ds) (.dct ei (eK.mono f2.2.s) mj (D2.mono f2.2.s));rw[aaZ,aaZ]at g
 have q:σ.set i (some (.ref a))=σ:=by
  apply abc;intro j;by_cases z:i=j
  ·subst z
   have lt:i<σ.length:=by
    by_cases z:i<σ.length
    ·exact z
    ·rw[Z' (by omega)]at ai;cases ai
   rw[aaV lt,ai]
  ·rw[aaE z]
 rw[q]at g;exact g
end
end L3
namespace L3
open PySem L2
open PySem.Builtin.Int (intBits)
abbrev a5:=List aI->(D->Prop)->Prop
abbrev cQ:=List aI->(List D->Prop)->Prop
abbrev dD:=List aI->(Bool->Prop)->Prop
inductive Arg where
 | val (d:D)|bag (i:Nat)
abbrev hJ:=List aI->(List Arg->Prop)->Prop
structure il where
 nx:List aI->Prop
 rt:aI->Prop
 bk:List aI->Prop:=fun _=>False
 ct:List aI->Prop:=fun _=>False
abbrev cW:=il->List aI->Prop
abbrev ee:=D->List aI->(List aI->Prop)->Prop
abbrev iR:=List D->List aI->(List aI->Prop)->Prop
section
variable(K:PySem.W.Frag)
def eL(t:TE)(u:a5):Prop:=∀(ρ:List aI)(k:D->Prop),u ρ k->∀(R:ao)(W:Addr->Prop)(B H:ao)(σ:St)(Q:cO),Ev K R W B H σ ρ ->
 (∀d v ax H',k d->Ev K R W ax H' σ ρ->bM R B ax->Rep K ax v d->Q v H')->t σ H Q
def qj(t:TE)(u:cQ):Prop:=∀(ρ:List aI)(k:List D->Prop),u ρ k->∀(R:ao)(W:Addr->Prop)(B H:ao)(σ:St)(Q:cO),Ev K R W B H σ ρ ->
 (∀ds a vs ax H',k ds->Ev K R W ax H' σ ρ->bM R B ax->R a=none->ax a=none->H' a=some (.lst vs)->Reps K ax vs ds->(∀i,¬cX σ ρ i a)->Q (.ref a) H')->t σ H Q
def hK(t:TT)(u:dD):Prop:=∀(ρ:List aI)(k:Bool->Prop),u ρ k->∀(R:ao)(W:Addr->Prop)(B H:ao)(σ:St)(Q:Bool->ao->Prop),Ev K R W B H σ ρ ->
 (∀b ax H',k b->Ev K R W ax H' σ ρ->bM R B ax->Q b H')->t σ H Q
def u3(t:eV)(u:cQ):Prop:=∀(ρ:List aI)(k:List D->Prop),u ρ k->∀(R:ao)(W:Addr->Prop)(B H:ao)(σ:St)(Q:List V->ao->Prop),Ev K R W B H σ ρ ->
 (∀ds vs ax H',k ds->Ev K R W ax H' σ ρ->bM R B ax->Reps K ax vs ds->Q vs H')->t σ H Q
inductive jj (B:ao) (σ:St) (ρ:List aI):List V->List Arg->Prop where
 | nil:jj B σ ρ [] []
 | val {v:V} {d:D} {vs:List V} {as:List Arg} (h:Rep K B v d) (r:jj B σ ρ vs as):jj B σ ρ (v::vs) (.val d::as)
 | bag {v:V} {i:Nat} {vs:List V} {as:List Arg} (h:σ[i]?=some (some v)) (af:ρ[i]?=some .bag) (r:jj B σ ρ vs as):jj B σ ρ (v::vs) (.bag i::as)
def D3(t:eV)(u:hJ):Prop:=∀(ρ:List aI)(k:List Arg->Prop),u ρ k->∀(R:ao)(W:Addr->Prop)(B H:ao)(σ:St)(Q:List V->ao->Prop),Ev K R W B H σ ρ ->
 (∀as vs ax H',k as->Ev K R W ax H' σ ρ->bM R B ax->jj K ax σ ρ vs as->Q vs H')->t σ H Q
def eB(R B:ao):ao:=fun a=>match B a with
 | some (.lst vs)=>if(R a).isNone then some (.lst vs)else none
 | o=>o
def zA(R:ao)(B H:ao)(v:V):aI->Prop
 | .no=>False
 | .val d=>Rep K B v d
 | .own c=>∃a,v=.ref a/\R a=none/\B a=none/\jM K B H a c
 | .bag=>∃b,v=.ref b/\R b=none/\B b=none/\gv H b
 | .new d=>Rep K (eB R B) v d
 | .pin _ _=>False
 | .deep _=>False
structure u4 (R:ao) (W:Addr->Prop) (B:ao) (U:il) (D:Ends):Prop where
 nx:∀ρ σ ax H',U.nx ρ->Ev K R W ax H' σ ρ->bM R B ax->D.nx σ H'
 bk:∀ρ σ ax H',U.bk ρ->Ev K R W ax H' σ ρ->bM R B ax->D.bk σ H'
 ct:∀ρ σ ax H',U.ct ρ->Ev K R W ax H' σ ρ->bM R B ax->D.ct σ H'
 rt:∀r v ax H',U.rt r->Wd R W ax H'->bM R B ax->zA K R ax H' v r->D.rt v H'
def D4(t:fR)(u:cW):Prop:=∀(U:il)(ρ:List aI),u U ρ->∀(R:ao)(W:Addr->Prop)(B H:ao)(σ:St)(D:Ends),Ev K R W B H σ ρ->u4 K R W B U D->t D σ H
def qk(g:gq)(u:ee):Prop:=∀(d:D)(ρ:List aI)(k:List aI->Prop),u d ρ k->∀(R:ao)(W:Addr->Prop)(B H:ao)(σ:St)(v:V)(Q:St->ao->Prop),Ev K R W B H σ ρ->Rep K B v d ->
 (∀bu a',k bu->Ev K R W B H a' bu->(∀j a,cX a' bu j a->cX σ ρ j a)->Q a' H)->g v σ H Q
def MA(g:kf)(u:iR):Prop:=∀(ds:List D)(ρ:List aI)(k:List aI->Prop),u ds ρ k->∀(R:ao)(W:Addr->Prop)(B H:ao)(σ:St)(vs:List V)(Q:St->ao->Prop),Ev K R W B H σ ρ->Reps K B vs ds ->
 (∀bu a',k bu->Ev K R W B H a' bu->(∀j a,cX a' bu j a->cX σ ρ j a)->Q a' H)->g vs σ H Q
def jk(B:ao)(J:hX)(ds:List D):Prop:=∀(H:ao),cm B H->∀i,(i<ds.length->J.go i H)/\(ds.length<=i->J.stop i H)/\∀x H',i<ds.length->J.yld i H x H'->H'=H/\∃d,ds[i]?=some d/\Rep K B x d
def zB(t:TI)(u:cQ):Prop:=∀(ρ:List aI)(k:List D->Prop),u ρ k->∀(R:ao)(W:Addr->Prop)(B H:ao)(σ:St)(Q:hX->ao->Prop),Ev K R W B H σ ρ ->
 (∀ds J ax H',k ds->Ev K R W ax H' σ ρ->bM R B ax->jk K ax J ds->Q J H')->t σ H Q
end
theorem iS{R B:ao}:cm (eB R B) B:=fun a o h=>by
 unfold eB at h;split at h
 ·rename_i vs e
  split at h
  ·rw[e];exact h
  ·cases h
 ·exact h
theorem rT{R B ax:ao}(s:cm B ax):cm (eB R B) (eB R ax):=fun a o h=>by
 have ed:=s a o (iS a o h);unfold eB at h ⊢;rw[ed];split at h
 ·rename_i vs e
  split at h
  ·rename_i z
   have:=ZH h;subst this;dsimp only;rw[if_pos z]
  ·cases h
 ·rename_i ne
  cases o with
  | lst vs=>exact absurd h (ne vs)
  | _=>rfl
theorem zC{R D5 B:ao}(w:∀a,D5 a=none->R a=none):cm (eB D5 B) (eB R B):=fun a o h=>by
 have ed:=iS a o h;unfold eB at h ⊢;rw[ed]at h ⊢;cases o with
 | lst vs =>
  dsimp only at h ⊢;split at h
  ·rename_i z
   rw[if_pos (by rw[acX]at z ⊢;exact w a z)]
  ·cases h
 | _=>rfl
theorem u5{R B:ao}{a:Addr}{vs:List V}(h:B a=some (.lst vs))(n:R a=none):eB R B a=some (.lst vs):=by
 unfold eB;rw[h];dsimp only;rw[if_pos (by rw[n];rfl)]
theorem zD{R B:ao}{a:Addr}{vs:List V}(h:eB R B a=some (.lst vs)):B a=some (.lst vs)/\R a=none:=by
 have ed:=iS a _ h;refine⟨ed,?_⟩;unfold eB at h;rw[ed]at h;dsimp only at h;split at h
 ·rename_i z;rw[acX]at z;exact z
 ·cases h
theorem u4.grow{K:PySem.W.Frag}{R:ao}{W:Addr->Prop}{B ax:ao}{U:il}{D:Ends}(s:u4 K R W B U D)(g:bM R B ax):u4 K R W ax U D :=
 ⟨fun ρ σ C H h e q=>s.nx ρ σ C H h e (g.trans q),fun ρ σ C H h e q=>s.bk ρ σ C H h e (g.trans q),fun ρ σ C H h e q=>s.ct ρ σ C H h e (g.trans q),fun r v C H h e q z=>s.rt r v C H h e (g.trans q) z⟩
section
variable(X:aM)
def bq(e:Expr)(u:a5):Prop:=∃t,b0 X e t/\eL X.K t u
def kq(e:Expr)(u:cQ):Prop:=∃t,b0 X e t/\qj X.K t u
def h2(e:Expr)(u:dD):Prop:=∃t,h9 X e t/\hK X.K t u
def oT(e:Expr)(u:dD):Prop:=∃t,l6 X e t/\hK X.K t u
def oU(es:List Expr)(u:cQ):Prop:=∃t,hn X es t/\u3 X.K t u
def ly(es:List Expr)(u:hJ):Prop:=∃t,hn X es t/\D3 X.K t u
def e7(s:Stmt)(u:cW):Prop:=∃t,ia X s t/\D4 X.K t u
def gM(s:List Stmt)(u:cW):Prop:=∃t,ib X s t/\D4 X.K t u
def iT(e:Expr)(u:ee):Prop:=∃t,iK X e t/\qk X.K t u
def rU(e:List Expr)(u:iR):Prop:=∃t,oF X e t/\MA X.K t u
def lz(bG e:Expr)(u:cQ):Prop:=∃t,jG X bG e t/\zB X.K t u
end
def dA(i:Nat):a5:=fun ρ k=>∃d,ρ[i]?=some (.val d)/\k d
def ql(d:D):a5:=fun _ k=>k d
def u6(C:Int->Int->Prop)(g:Int->Int->D)(bH bW:a5):a5:=fun ρ k=>bH ρ fun x=>bW ρ fun y=>∃i j,x=.int i/\y=.int j/\C i j/\k (g i j)
def rV(g:Int->Int->D)(bH bW:a5):a5:=fun ρ k=>bH ρ fun x=>bW ρ fun y=>∃i j,x=.int i/\y=.int j/\k (g i j)
def D6(bH:a5):a5:=fun ρ k=>bH ρ fun x=>∃i,x=.int i/\k (.int (-i))
section
variable{K:PySem.W.Frag}{X:aM}
theorem MB(i:Nat):eL K (yR i) (dA i):=by
 intro ρ k h R W B H σ Q e q;obtain⟨d,h,z⟩:=h;obtain⟨v,ai,r⟩:=e.val h;exact⟨v,ai,q d v B H z e (bM.refl _ _) r⟩
theorem D7{v:V}{d:D}(h:∀B,Rep K B v d):eL K (p1 v) (ql d):=fun ρ k z R W B H σ Q e q=>q d v B H z e (bM.refl _ _) (h B)
theorem qm{bT tb:TE}{bH bW:a5}{r:e5}{f:D->D->(D->Prop)->Prop}(ay:eL K bT bH)(af:eL K tb bW)(ak:∀(x y:D) (k:D->Prop),f x y k->∀(R:ao) (W:Addr->Prop) (B H:ao) (σ:St) (ρ:List aI) (v w:V) (Q:cO),Ev K R W B H σ ρ->Rep K B v x->Rep K B w y->(∀d v ax H',k d->Ev K R W ax H' σ ρ->bM R B ax->Rep K ax v d->Q v H')->r v w H Q):
  eL K (mc r bT tb) (fun ρ k=>bH ρ fun x=>bW ρ fun y=>f x y k):=by
 intro ρ k h R W B H σ Q e q;refine ay ρ _ h R W B H σ _ e fun x v a4 H1 aa ai g1 au=>?_;refine af ρ _ aa R W a4 H1 σ _ ai fun y w bD aZ ab av g2 aG=>?_;exact ak x y k ab R W bD aZ σ ρ v w Q av (au.mono g2.s) aG fun d u nr cP aK bC g3 f7=>q d u nr cP aK bC ((g1.trans g2).trans g3) f7
theorem MC{bT:TE}{bH:a5}{r:V->ao->cO->Prop}{f:D->(D->Prop)->Prop}(ay:eL K bT bH)(ak:∀(x:D) (k:D->Prop),f x k->∀(R:ao) (W:Addr->Prop) (B H:ao) (σ:St) (ρ:List aI) (v:V) (Q:cO),Ev K R W B H σ ρ->Rep K B v x->(∀d v ax H',k d->Ev K R W ax H' σ ρ->bM R B ax->Rep K ax v d->Q v H')->r v H Q):
  eL K (y2 r bT) (fun ρ k=>bH ρ fun x=>f x k):=by
 intro ρ k h R W B H σ Q e q;refine ay ρ _ h R W B H σ _ e fun x v a4 H1 aa ai g1 au=>?_;exact ak x k aa R W a4 H1 σ ρ v Q ai au fun d u nr cP aK bC g3 f7=>q d u nr cP aK bC (g1.trans g3) f7
theorem Rep.intV{B:ao}{v:V}{i:Int}(r:Rep K B v (.int i)):v=.int i:=by cases r;rfl
theorem Rep.blV{B:ao}{v:V}{b:Bool}(r:Rep K B v (.bl b)):v=.bl b:=by cases r;rfl
theorem Rep.nonV{B:ao}{v:V}(r:Rep K B v .non):v=.non:=by cases r;rfl
theorem Rep.tupV{B:ao}{v:V}{ds:List D}(r:Rep K B v (.tup ds)):∃a vs,v=.ref a/\B a=some (.tup vs)/\Reps K B vs ds:=by
 cases r with|tup h r=>exact⟨_,_,rfl,h,r⟩
theorem Rep.lstV{B:ao}{v:V}{ds:List D}(r:Rep K B v (.lst ds)):∃a vs,v=.ref a/\B a=some (.lst vs)/\Reps K B vs ds:=by
 cases r with|lst h r=>exact⟨_,_,rfl,h,r⟩
theorem Rep.scrV{B:ao}{v:V}{ns:List Int}(r:Rep K B v (.scr ns)):∃a,v=.ref a/\cJ K B a (ns.map V.int):=by
 cases r with|scr h=>exact⟨_,rfl,h⟩
theorem zE{C:Int->Int->Prop}{f:Int->Int->V}{g:Int->Int->D}{bT tb:TE}{bH bW:a5}(aD:∀B i j,Rep K B (f i j) (g i j))(ay:eL K bT bH)(af:eL K tb bW):eL K (mc (p8 C f) bT tb) (u6 C g bH bW):=
 qm ay af fun x y k h R W B H σ ρ v w Q e bg cu q=>by
  obtain⟨i,j,rfl,rfl,hc,ah⟩:=h;exact⟨i,j,bg.intV,cu.intV,hc,q _ _ B H ah e (bM.refl _ _) (aD B i j)⟩
theorem u7{f:Int->Int->V}{g:Int->Int->D}{bT tb:TE}{bH bW:a5}(aD:∀B i j,Rep K B (f i j) (g i j))(ay:eL K bT bH)(af:eL K tb bW):eL K (mc (jK f) bT tb) (rV g bH bW):=
 qm ay af fun x y k h R W B H σ ρ v w Q e bg cu q=>by
  obtain⟨i,j,rfl,rfl,ah⟩:=h;exact⟨i,j,bg.intV,cu.intV,q _ _ B H ah e (bM.refl _ _) (aD B i j)⟩
theorem MD{bT:TE}{bH:a5}(ay:eL K bT bH):eL K (y2 (y3 fun i=>.int (-i)) bT) (D6 bH):=
 MC (f:=fun x k=>∃i,x=.int i/\k (.int (-i))) ay fun x k h R W B H σ ρ v Q e bg q=>by
  obtain⟨i,rfl,ah⟩:=h;exact⟨i,bg.intV,q _ _ B H ah e (bM.refl _ _) (.int _)⟩
variable{a b:Expr}{bH bW:a5}{pos:Pos}
theorem ae(i:Nat){x:Str}{pos:Pos}(bI:X.N[i]?=some x:=by rfl)(aP:gF X.env.scope x:=by first|exact Sz rfl|exact Zh (Sz rfl)|exact Zh (Zh rfl))(hd:(x==("__debug__":Str))=false:=by decide)(dz:(x==("__classdict__":Str))=false:=by decide):bq X (.Name x pos) (dA i):=⟨_,ic bI aP hd dz,MB i⟩
theorem az{i j pos}:bq X (.Constant (.int i) j pos) (ql (.int i)):=⟨_,eI,D7 fun _=>.int _⟩
theorem ip{b j pos}:bq X (.Constant (.bool b) j pos) (ql (.bl b)):=⟨_,Kb,D7 fun _=>.bl _⟩
theorem eC(ay:bq X a bH)(af:bq X b bW):bq X (.BinOp a .Add b pos) (rV (fun i j=>.int (i+j)) bH bW):=by
 obtain⟨_,aa,au⟩:=ay;obtain⟨_,ab,aG⟩:=af;exact⟨_,fj uJ aa ab,u7 (fun _ _ _=>.int _) au aG⟩
theorem e8(ay:bq X a bH)(af:bq X b bW):bq X (.BinOp a .Sub b pos) (rV (fun i j=>.int (i-j)) bH bW):=by
 obtain⟨_,aa,au⟩:=ay;obtain⟨_,ab,aG⟩:=af;exact⟨_,fj Lc aa ab,u7 (fun _ _ _=>.int _) au aG⟩
theorem cy(ay:bq X a bH)(af:bq X b bW):bq X (.BinOp a .Mult b pos) (u6 zr (fun i j=>.int (i*j)) bH bW):=by
 obtain⟨_,aa,au⟩:=ay;obtain⟨_,ab,aG⟩:=af;exact⟨_,fj rP aa ab,zE (fun _ _ _=>.int _) au aG⟩
theorem dF(ay:bq X a bH)(af:bq X b bW):bq X (.BinOp a .FloorDiv b pos) (u6 qf (fun i j=>.int (i.fdiv j)) bH bW):=by
 obtain⟨_,aa,au⟩:=ay;obtain⟨_,ab,aG⟩:=af;exact⟨_,fj uX aa ab,zE (fun _ _ _=>.int _) au aG⟩
theorem u9(ay:bq X a bH)(af:bq X b bW):bq X (.BinOp a .Mod b pos) (u6 (fun _ j=>0<j) (fun i j=>.int (i%j)) bH bW):=by
 obtain⟨_,aa,au⟩:=ay;obtain⟨_,ab,aG⟩:=af;exact⟨_,fj md aa ab,zE (fun _ _ _=>.int _) au aG⟩
theorem iq(ay:bq X a bH):bq X (.UnaryOp .USub a pos) (D6 bH):=by
 obtain⟨_,aa,au⟩:=ay;exact⟨_,Lb Le aa,MD au⟩
def D8(op:CmpOp)(f:Int->Int->Bool)(X:aM):Prop:=fJ X (compareOp op) (jK fun i j=>.bl (f i j))
theorem lA{op:CmpOp}{f:Int->Int->Bool}(aE:D8 op f X)(ay:bq X a bH)(af:bq X b bW)(hm:behindInMarks op b=false):bq X (.Compare a [op] [b] pos) (rV (fun i j=>.bl (f i j)) bH bW):=by
 obtain⟨_,aa,au⟩:=ay;obtain⟨_,ab,aG⟩:=af;exact⟨_,uL aE aa ab hm,u7 (fun _ _ _=>.bl _) au aG⟩
def qn(bH:a5):dD:=fun ρ k=>bH ρ fun x=>∃c,x=.bl c/\k c
def D9(u:dD):dD:=fun ρ k=>u ρ fun c=>k (!c)
def D'(u w:dD):dD:=fun ρ k=>u ρ fun c=>if c=true then w ρ k else k false
def Ea(u w:dD):dD:=fun ρ k=>u ρ fun c=>if c=true then k true else w ρ k
theorem u'{bT:TE}{bH:a5}(ay:eL K bT bH):hK K (rC bT) (qn bH):=by
 intro ρ k h R W B H σ Q e q;refine ay ρ _ h R W B H σ _ e fun x v a4 H1 aa ai g1 au=>?_;obtain⟨c,rfl,ah⟩:=aa;exact⟨c,au.blV,q c a4 H1 ah ai g1⟩
theorem gY{e:Expr}{u:a5}(h:bq X e u)(he:∀whole,isTrue e X.env whole=(do let v <-whole;standAt e.pos;holding [v] (truthy v)):=by intro _;rfl):h2 X e (qn u):=by
 obtain⟨_,aa,au⟩:=h;exact⟨_,Kc aa he,u' au⟩
theorem fu{op:CmpOp}{f:Int->Int->Bool}(aE:D8 op f X)(ay:bq X a bH)(af:bq X b bW)(hm:behindInMarks op b=false):h2 X (.Compare a [op] [b] pos) (qn (rV (fun i j=>.bl (f i j)) bH bW)):=by
 obtain⟨_,aa,au⟩:=ay;obtain⟨_,ab,aG⟩:=af;exact⟨_,qa aE aa ab hm,u' (u7 (fun _ _ _=>.bl _) au aG)⟩
theorem ME{t:TT}{u:dD}(h:hK K t u):hK K (C' t) (D9 u):=fun ρ k z R W B H σ Q e q=>h ρ _ z R W B H σ _ e fun b ax H' aa ai g1=>q (!b) ax H' aa ai g1
theorem MF{t t':TT}{u ek:dD}(h:hK K t u)(h':hK K t' ek):hK K (C8 t t') (D' u ek):=by
 intro ρ k z R W B H σ Q e q;refine h ρ _ z R W B H σ _ e fun b a4 H1 aa ai g1=>?_;cases b with
 | true =>
  rw[if_pos rfl]at aa ⊢;exact h' ρ _ aa R W a4 H1 σ _ ai fun c bD aZ ab av g2=>q c bD aZ ab av (g1.trans g2)
 | false =>
  rw[if_neg ZR]at aa ⊢;exact q false a4 H1 aa ai g1
theorem MG{t t':TT}{u ek:dD}(h:hK K t u)(h':hK K t' ek):hK K (C9 t t') (Ea u ek):=by
 intro ρ k z R W B H σ Q e q;refine h ρ _ z R W B H σ _ e fun b a4 H1 aa ai g1=>?_;cases b with
 | false =>
  rw[if_neg ZR]at aa ⊢;exact h' ρ _ aa R W a4 H1 σ _ ai fun c bD aZ ab av g2=>q c bD aZ ab av (g1.trans g2)
 | true =>
  rw[if_pos rfl]at aa ⊢;exact q true a4 H1 aa ai g1
theorem hq{u:dD}(h:h2 X a u):h2 X (.UnaryOp .Not a pos) (D9 u):=by
 obtain⟨_,aa,au⟩:=h;exact⟨_,Kh aa,ME au⟩
theorem MH{u:dD}(h:h2 X a u):oT X (.BoolOp .And [a] pos) u:=by
 obtain⟨_,aa,au⟩:=h;exact⟨_,Kd aa,au⟩
theorem oV{u:dD}(h:h2 X a u):oT X (.BoolOp .Or [a] pos) u:=by
 obtain⟨_,aa,au⟩:=h;exact⟨_,Ke aa,au⟩
theorem w_and{rest:List Expr}{u ek:dD}(h:h2 X a u)(h':oT X (.BoolOp .And (b::rest) pos) ek):oT X (.BoolOp .And (a::b::rest) pos) (D' u ek):=by
 obtain⟨_,aa,au⟩:=h;obtain⟨_,ab,aG⟩:=h';exact⟨_,Kf aa ab,MF au aG⟩
theorem w_or{rest:List Expr}{u ek:dD}(h:h2 X a u)(h':oT X (.BoolOp .Or (b::rest) pos) ek):oT X (.BoolOp .Or (a::b::rest) pos) (Ea u ek):=by
 obtain⟨_,aa,au⟩:=h;obtain⟨_,ab,aG⟩:=h';exact⟨_,Kg aa ab,MG au aG⟩
theorem nt{u:dD}(h:oT X a u):h2 X a u:=by
 obtain⟨_,aa,au⟩:=h;exact⟨_,aa.pt,au⟩
def MI(u w:a5):a5:=fun ρ k=>u ρ fun x=>∃c,x=.bl c/\if c=true then w ρ k else k (.bl false)
def MJ(u w:a5):a5:=fun ρ k=>u ρ fun x=>∃c,x=.bl c/\if c=true then k (.bl true)else w ρ k
def MK(u:a5):a5:=fun ρ k=>u ρ fun x=>∃c,x=.bl c/\k (.bl (!c))
theorem qo{op:BoolOp}(h:bq X a bH):bq X (.BoolOp op [a] pos) bH:=by
 obtain⟨_,aa,au⟩:=h;exact⟨_,Kl aa,au⟩
theorem oW{rest:List Expr}(h:bq X a bH)(h':bq X (.BoolOp .And (b::rest) pos) bW):bq X (.BoolOp .And (a::b::rest) pos) (MI bH bW):=by
 obtain⟨_,aa,au⟩:=h;obtain⟨_,ab,aG⟩:=h';refine⟨_,Km aa ab,fun ρ k z R W B H σ Q e q=>?_⟩;refine au ρ _ z R W B H σ _ e fun x v a4 H1 z1 ai g1 s1=>?_;obtain⟨c,rfl,z1⟩:=z1;refine⟨c,s1.blV,?_⟩;cases c with
 | true =>
  rw[if_pos rfl]at z1 ⊢;exact aG ρ _ z1 R W a4 H1 σ _ ai fun d w bD aZ ab av g2 s2=>q d w bD aZ ab av (g1.trans g2) s2
 | false =>
  rw[if_neg ZR]at z1 ⊢;exact q _ _ a4 H1 z1 ai g1 (.bl _)
theorem ML{rest:List Expr}(h:bq X a bH)(h':bq X (.BoolOp .Or (b::rest) pos) bW):bq X (.BoolOp .Or (a::b::rest) pos) (MJ bH bW):=by
 obtain⟨_,aa,au⟩:=h;obtain⟨_,ab,aG⟩:=h';refine⟨_,Kn aa ab,fun ρ k z R W B H σ Q e q=>?_⟩;refine au ρ _ z R W B H σ _ e fun x v a4 H1 z1 ai g1 s1=>?_;obtain⟨c,rfl,z1⟩:=z1;refine⟨c,s1.blV,?_⟩;cases c with
 | false =>
  rw[if_neg ZR]at z1 ⊢;exact aG ρ _ z1 R W a4 H1 σ _ ai fun d w bD aZ ab av g2 s2=>q d w bD aZ ab av (g1.trans g2) s2
 | true =>
  rw[if_pos rfl]at z1 ⊢;exact q _ _ a4 H1 z1 ai g1 (.bl _)
theorem MM(h:bq X a bH):bq X (.UnaryOp .Not a pos) (MK bH):=by
 obtain⟨_,aa,au⟩:=h;refine⟨_,Ko aa,fun ρ k z R W B H σ Q e q=>?_⟩;refine au ρ _ z R W B H σ _ e fun x v a4 H1 z1 ai g1 s1=>?_;obtain⟨c,rfl,z1⟩:=z1;exact⟨c,s1.blV,q _ _ a4 H1 z1 ai g1 (.bl _)⟩
def MN(c:dD)(u w:a5):a5:=fun ρ k=>c ρ fun b=>if b=true then u ρ k else w ρ k
theorem Eb{c:Expr}{gZ:dD}(hc:h2 X c gZ)(ay:bq X a bH)(af:bq X b bW):bq X (.IfExp c a b pos) (MN gZ bH bW):=by
 obtain⟨_,h0,gw⟩:=hc;obtain⟨_,aa,au⟩:=ay;obtain⟨_,ab,aG⟩:=af;refine⟨_,Kq h0 aa ab,fun ρ k z R W B H σ Q e q=>?_⟩;refine gw ρ _ z R W B H σ _ e fun c a4 H1 z1 ai g1=>?_;cases c with
 | true =>
  rw[if_pos rfl]at z1 ⊢;exact au ρ _ z1 R W a4 H1 σ _ ai fun d w bD aZ ab av g2 s2=>q d w bD aZ ab av (g1.trans g2) s2
 | false =>
  rw[if_neg ZR]at z1 ⊢;exact aG ρ _ z1 R W a4 H1 σ _ ai fun d w bD aZ ab av g2 s2=>q d w bD aZ ab av (g1.trans g2) s2
def rW:cQ:=fun _ k=>k []
def ml(u:a5)(w:cQ):cQ:=fun ρ k=>u ρ fun d=>w ρ fun ds=>k (d::ds)
variable{e:Expr}{es:List Expr}{u:a5}{w:cQ}
theorem MO:u3 K y8 rW:=fun ρ k h R W B H σ Q e q=>q [] [] B H h e (bM.refl _ _) .nil
theorem MP{cD:TE}{t:eV}(aa:eL K cD u)(ab:u3 K t w):u3 K (y9 cD t) (ml u w):=by
 intro ρ k h R W B H σ Q e q;refine aa ρ _ h R W B H σ _ e fun d v a4 H1 z1 ai g1 au=>?_;refine ab ρ _ z1 R W a4 H1 σ _ ai fun ds vs bD aZ aT av g2 aG=>?_;exact q _ _ bD aZ aT av (g1.trans g2) (.cons (au.mono g2.s) aG)
theorem bR:oU X [] rW:=⟨_,fK,MO⟩
theorem aR(ay:bq X e u)(ak:oU X es w)(aq:starEach (e::es) X.env=(false,eval e X.env)::starEach es X.env:=by rfl):oU X (e::es) (ml u w):=by
 obtain⟨_,aa,au⟩:=ay;obtain⟨_,ab,aG⟩:=ak;exact⟨_,er aa ab aq,MP au aG⟩
def va(w:cQ):a5:=fun ρ k=>w ρ fun ds=>ds.length<=sizeLine/\k (.tup ds)
theorem cY{bK}(h:oU X es w):bq X (.Tuple es bK pos) (va w):=by
 obtain⟨_,aa,au⟩:=h;refine⟨_,y' aa,fun ρ k z R W B H σ Q e q=>?_⟩;refine au ρ _ z R W B H σ _ e fun ds vs a4 H1 z1 ai g1 s1=>?_;refine⟨by rw[s1.length];exact z1.1,fun p ag=>?_⟩;have g2:=ai.grow ag (.tup vs);exact q _ _ _ _ z1.2 (ai.alloc ag _) (g1.trans g2) (.tup ei (s1.mono g2.s))
def MQ(w:cQ):cQ:=fun ρ k=>w ρ fun ds=>ds.length<=sizeLine/\k ds
theorem fv(h:oU X es w):kq X (.List es pos) (MQ w):=by
 obtain⟨_,aa,au⟩:=h;refine⟨_,za aa,fun ρ k z R W B H σ Q e q=>?_⟩;refine au ρ _ z R W B H σ _ e fun ds vs a4 H1 z1 ai g1 s1=>?_;refine⟨by rw[s1.length];exact z1.1,fun p ag=>?_⟩;obtain⟨f1,f2,bQ⟩:=ai.toWd.fresh ag;exact q ds p vs a4 _ z1.2 (ai.allocH ag _) g1 f1 bQ ei s1 fun i m=>ai.notNew ag m rfl
def rX(w:cQ):a5:=fun ρ k=>w ρ fun ds=>k (.lst ds)
theorem MR{t:TE}(h:qj K t w):eL K t (rX w):=by
 intro ρ k z R W B H σ Q e q;refine h ρ _ z R W B H σ _ e fun ds a vs a4 H1 z1 ai g1 ak af et ir hm=>?_;obtain⟨av,g2⟩:=ai.freeze et ak af hm;exact q _ _ _ _ z1 av (g1.trans g2) (.lst ei (ir.mono g2.s))
theorem dQ(h:kq X e w):bq X e (rX w):=by
 obtain⟨_,aa,au⟩:=h;exact⟨_,aa,MR au⟩
def Ec(bH bW:a5):a5:=fun ρ k=>bH ρ fun x=>bW ρ fun y=>∃ds i d,(x=.tup ds∨x=.lst ds)/\y=.int i/\dO ds i=some d/\k d
theorem rY{B:ao}{vs:List V}{ds:List D}{i:Int}{d:D}(r:Reps K B vs ds)(h:dO ds i=some d):∃v,dO vs i=some v/\Rep K B v d:=by
 unfold dO at h ⊢;rw[r.length];cases q:ixN ds.length i with
 | none=>rw[q]at h;cases h
 | some j =>
  rw[q]at h;exact r.get h
theorem a0(ay:bq X a bH)(af:bq X b bW)(aq:uS b):bq X (.Subscript a b pos) (Ec bH bW):=by
 obtain⟨_,aa,au⟩:=ay;obtain⟨_,ab,aG⟩:=af;refine⟨_,lp oP aa ab aq,qm au aG fun x y k h R W B H σ ρ v k8 Q e bg cu q=>?_⟩;obtain⟨ds,i,d,aC,rfl,ay,ah⟩:=h;rcases aC with rfl|rfl
 ·obtain⟨p,vs,rfl,ag,ir⟩:=bg.tupV;obtain⟨z,bb,h3⟩:=rY ir ay;exact⟨p,vs,i,z,rfl,cu.intV,.inl (e.bh _ _ ag),bb,q d z B H ah e (bM.refl _ _) h3⟩
 ·obtain⟨p,vs,rfl,ag,ir⟩:=bg.lstV;obtain⟨z,bb,h3⟩:=rY ir ay;exact⟨p,vs,i,z,rfl,cu.intV,.inr (e.bh _ _ ag),bb,q d z B H ah e (bM.refl _ _) h3⟩
end
abbrev FS:=List aI->(aI->Prop)->Prop
def kr:List aI->Nat
 | []=>0
 | .bag::r=>kr r+1
 | _::r=>kr r
inductive iU (K:PySem.W.Frag) (W:Addr->Prop) (B:ao):List V->List aI->Prop where
 | nil:iU K W B [] []
 | val {v:V} {d:D} {vs:List V} {as:List aI} (h:Rep K B v d) (r:iU K W B vs as):iU K W B (v::vs) (.val d::as)
 | bag {b:Addr} {vs:List V} {as:List aI} (h:W b) (r:iU K W B vs as):iU K W B (.ref b::vs) (.bag::as)
structure MS (K:PySem.W.Frag) (W:Addr->Prop) (B H:ao) (v:V) (r:aI) (ax H':ao):Prop where
 wd:Wd H W ax H'
 g:bM H B ax
 res:zA K H ax H' v r
def aL(K:PySem.W.Frag)(n:Nat)(F:FS):gH:=fun vs H Q _=>∃(W:Addr->Prop)(B:ao)(as:List aI)(k:aI->Prop),F as k/\as.length=n/\Nat.ble (kr as) 1=true/\cm B H/\(∀a,W a->B a=none/\gv H a)/\iU K W B vs as /\
 ∀r v ax H',k r->MS K W B H v r ax H'->Q v H'
section
variable{K:PySem.W.Frag}{R:ao}{W:Addr->Prop}{B ax H H':ao}{σ:St}{ρ:List aI}
theorem iU.length:∀{vs:List V}{as:List aI},iU K W B vs as->vs.length=as.length
 | _,_,.nil=>rfl
 | _,_,.val _ r=>by rw[ZC,ZC,r.length]
 | _,_,.bag _ r=>by rw[ZC,ZC,r.length]
theorem iU.get:∀{vs:List V}{as:List aI},iU K W B vs as->∀(i:Nat)(k:aI),as[i]?=some k->(∃v d,vs[i]?=some v/\k=.val d/\Rep K B v d)∨(∃b,vs[i]?=some (.ref b)/\k=.bag/\W b)
 | _,_,.nil,i,k,e=>by simp at e
 | _,_,.val h r,0,k,e=>by simp at e;subst e;exact .inl ⟨_,_,rfl,rfl,h⟩
 | _,_,.val h r,i+1,k,e=>by simpa using r.get i k (by simpa using e)
 | _,_,.bag h r,0,k,e=>by simp at e;subst e;exact .inr ⟨_,rfl,rfl,h⟩
 | _,_,.bag h r,i+1,k,e=>by simpa using r.get i k (by simpa using e)
theorem nu:∀{as:List aI}{i:Nat},kr as=0->as[i]?≠some .bag
 | [],i,_=>by simp
 | .bag::r,i,h=>by simp[kr]at h
 | .no::r,0,h=>by simp
 | .no::r,i+1,h=>by simpa using nu (as:=r) (i:=i) h
 | .val d::r,0,h=>by simp
 | .val d::r,i+1,h=>by simpa using nu (as:=r) (i:=i) h
 | .new d::r,0,h=>by simp
 | .new d::r,i+1,h=>by simpa using nu (as:=r) (i:=i) h
 | .pin v d::r,0,h=>by simp
 | .pin v d::r,i+1,h=>by simpa using nu (as:=r) (i:=i) h
 | .own d::r,0,h=>by simp
 | .own d::r,i+1,h=>by simpa using nu (as:=r) (i:=i) h
 | .deep d::r,0,h=>by simp
 | .deep d::r,i+1,h=>by simpa using nu (as:=r) (i:=i) h
theorem nv:∀{as:List aI}{i j:Nat},kr as<=1->as[i]?=some .bag->as[j]?=some .bag->i=j
 | [],i,j,_,e,_=>by simp at e
 | .bag::r,0,0,_,_,_=>rfl
 | .bag::r,0,j+1,h,_,e=>absurd (by simpa using e) (nu (as:=r) (i:=j) (by simp[kr]at h;exact h))
 | .bag::r,i+1,_,h,e,_=>absurd (by simpa using e) (nu (as:=r) (i:=i) (by simp[kr]at h;exact h))
 | .no::r,0,_,_,e,_=>by simp at e
 | .no::r,i+1,0,_,_,e=>by simp at e
 | .no::r,i+1,j+1,h,e,aU=>by rw[nv (as:=r) (i:=i) (j:=j) h (by simpa using e) (by simpa using aU)]
 | .val d::r,0,_,_,e,_=>by simp at e
 | .val d::r,i+1,0,_,_,e=>by simp at e
 | .val d::r,i+1,j+1,h,e,aU=>by rw[nv (as:=r) (i:=i) (j:=j) h (by simpa using e) (by simpa using aU)]
 | .new d::r,0,_,_,e,_=>by simp at e
 | .new d::r,i+1,0,_,_,e=>by simp at e
 | .new d::r,i+1,j+1,h,e,aU=>by rw[nv (as:=r) (i:=i) (j:=j) h (by simpa using e) (by simpa using aU)]
 | .pin v d::r,0,_,_,e,_=>by simp at e
 | .pin v d::r,i+1,0,_,_,e=>by simp at e
 | .pin v d::r,i+1,j+1,h,e,aU=>by rw[nv (as:=r) (i:=i) (j:=j) h (by simpa using e) (by simpa using aU)]
 | .own d::r,0,_,_,e,_=>by simp at e
 | .own d::r,i+1,0,_,_,e=>by simp at e
 | .own d::r,i+1,j+1,h,e,aU=>by rw[nv (as:=r) (i:=i) (j:=j) h (by simpa using e) (by simpa using aU)]
 | .deep d::r,0,_,_,e,_=>by simp at e
 | .deep d::r,i+1,0,_,_,e=>by simp at e
 | .deep d::r,i+1,j+1,h,e,aU=>by rw[nv (as:=r) (i:=i) (j:=j) h (by simpa using e) (by simpa using aU)]
theorem Ev.after{mm:Addr->Prop}(e:Ev K R W B H σ ρ)(g0:∀a,mm a->∃i:Nat,σ[i]?=some (some (.ref a))/\ρ[i]?=some .bag)(wd:Wd H mm ax H')(g:bM H B ax):Ev K R W ax H' σ ρ/\bM R B ax:=by
 have nb:∀a,B a=none->H a≠none->ax a=none:=fun a aa ab=>by
  cases q:ax a with
  | none=>rfl
  | some o =>
   rcases g.n a o q with z|z
   ·rw[aa]at z;cases z
   ·exact absurd z ab
 have st:∀a,¬mm a->H a≠none->H' a=H a:=fun a aa ab=>by
  cases q:H a with
  | none=>exact absurd q ab
  | some o=>exact wd.fr a o q aa
 have Ed:∀a,gv H a->gv H' a:=fun a h=>by
  by_cases z:mm a
  ·exact wd.wh a z
  ·obtain⟨x,y,ai,q⟩:=h;exact⟨x,y,by rw[st a z (by rw[ai];simp)];exact ai,q⟩
 have MT:∀a,gv H a->H a≠none:=fun a ⟨x,y,ai,_⟩=>by rw[ai];simp
 refine⟨e.move ⟨fun a o h nw=>?_,wd.bh,fun a h=>nb a (e.wb a h) (MT a (e.wh a h)),fun a h=>Ed a (e.wh a h),e.wr⟩ g.s (fun i a m=>⟨nb a (e.mutOk m).1 (e.mutOk m).2,fun z=>?_,fun z=>?_⟩),⟨g.s,fun a o h=>?_⟩⟩
 ·have aa:=e.fr a o h nw;refine wd.fr a o aa fun z=>?_;obtain⟨i,z1,aT⟩:=g0 a z;obtain⟨b,bE,c3,_⟩:=e.bagAt aT;rw[z1]at bE;cases bE;rcases c3 with c3|c3
  ·exact nw c3
  ·rw[c3]at h;cases h
 ·obtain⟨b,bE,_,_,mn⟩:=e.bagAt z;rw[oS m z]at bE;cases bE;exact Ed _ mn
 ·refine st a (fun q=>?_) (e.mutOk m).2;obtain⟨j,z1,aT⟩:=g0 a q;have:=e.sep i j a m (.inl ⟨z1,.inl aT⟩);subst this;exact z aT
 ·rcases g.n a o h with z|z
  ·exact .inl z
  ·exact .inr (e.toWd.fresh z).1
theorem Ev.start{N:List Str}{vs:List V}{as:List aI}(af:kr as<=1)(sB:cm B H)(hw:∀a,W a->B a=none/\gv H a)(d4:iU K W B vs as):Ev K H W B H (L2.start N vs) (as++ZI (N.length-as.length) .no):=by
 have aj:=d4.length;have wd:Wd H W B H:=⟨fun _ _ h _=>h,sB,fun a h=>(hw a h).1,fun a h=>(hw a h).2,fun a h=>by obtain⟨x,y,q,_⟩:=(hw a h).2;rw[q];simp⟩
 have lo:∀i k,as[i]?=some k->(L2.start N vs)[i]?=(vs[i]?).map some:=fun i k h=>by
  have lt:i<as.length:=by
   by_cases z:i<as.length
   ·exact z
   ·rw[Z' (by omega)]at h;cases h
  unfold L2.start;rw[aai (by rw[YL];omega),ZL]
 have cs:∀(i:Nat)(k:aI),(as++ZI (N.length-as.length) aI.no)[i]?=some k->as[i]?=some k∨k=aI.no:=fun i k h=>by
  by_cases z:i<as.length
  ·rw[aai z]at h;exact .inl h
  ·rw[aaf (by omega)]at h;rw[aaM]at h;split at h
   ·exact .inr (ZH h).symm
   ·cases h
 have hr:∀i:Nat,(as++ZI (N.length-as.length) aI.no)[i]?=some aI.bag->as[i]?=some aI.bag:=fun i h=>by
  rcases cs i _ h with h|h
  ·exact h
  ·cases h
 refine⟨wd,by unfold L2.start;simp[aj],fun i k h=>?_,fun i j a bw b3=>?_⟩
 ·rcases cs i k h with h|rfl
  ·rw[lo i k h];rcases d4.get i k h with⟨v,d,aa,rfl,r⟩|⟨b,aa,rfl,r⟩
   ·rw[aa];exact⟨v,rfl,r⟩
   ·rw[aa];exact⟨b,rfl,.inl r,(hw b r).1,(hw b r).2⟩
  ·trivial
 ·have one:∀i,cX (L2.start N vs) (as++ZI (N.length-as.length) aI.no) i a->as[i]?=some .bag:=fun i m=>by
   rcases m with⟨_,z|⟨ds,z⟩⟩|⟨c,z,_⟩
   ·exact hr i z
   ·rcases cs i _ z with z|z
    ·rcases d4.get i _ z with⟨v,d,_,q,_⟩|⟨b,_,q,_⟩<;>cases q
    ·cases z
   ·rcases cs i _ z with z|z
    ·rcases d4.get i _ z with⟨v,d,_,q,_⟩|⟨b,_,q,_⟩<;>cases q
    ·cases z
  exact nv af (one i bw) (one j b3)
theorem di{P:Program}{w:World}{mg:Str->Option Value}{base:Heap}{x:Str}{st:Stmt}{N ps:List Str}{lv n:Nat}{F:FS}(oX:cG K mg x st ps)(S:cK N ps (b4 st))(aN:ps.length=n)(jd:∀(f:Addr) (cdv:Value) (A:Around) (outer:List abd) (s:Shared) (H:ao) (E:fB),eA lv (A.deeper (abP x (b4 st) s.heap.objs.size f cdv))->∃u,gM (kl jg P w K mg base N x (b4 st) f cdv A outer s H E).nox (kn st) u/\∀as k,as.length=n->F as k->u { nx:=fun _=>k (.val .non),rt:=k } (as++ZI (N.length-n) .no)):aJ P w K mg base x ps (lv+1) (aL K n F):=by
 refine oX.ok S (fun vs H Q E h=>?_) (fun f cdv A outer s H vs Q E ak h=>?_)
 ·obtain⟨W,B,as,k,_,aj,_,_,_,d4,_⟩:=h;rw[d4.length,aj,aN]
 ·obtain⟨W,B,as,k,jl,aj,af,sB,hw,d4,q⟩:=h;obtain⟨u,⟨t,bt,rt⟩,bF⟩:=jd f cdv A outer s H E ak;have ev:=Ev.start (N:=N) (acm af) sB hw d4;rw[aj]at ev;refine⟨t,bt,rt _ _ (bF as k aj jl) H W B H (L2.start N vs) _ ev ⟨fun ρ σ ax H' h e g=>?_,fun _ _ _ _ h=>h.elim,fun _ _ _ _ h=>h.elim,fun r v ax H' h e g z=>q r v ax H' h ⟨e,g,z⟩⟩⟩;exact q _ _ ax H' h ⟨e.toWd,g,.non⟩
end
def Arg.sl:Arg->aI
 | .val d=>.val d
 | .bag _=>.bag
def bL:aI->(D->Prop)->Prop
 | .val d,k=>k d
 | .own (.l ds),k=>k (.lst ds)
 | .new d,k=>k d
 | _,_=>False
def ny:hJ:=fun _ k=>k []
def eD(u:a5)(w:hJ):hJ:=fun ρ k=>u ρ fun d=>w ρ fun as=>k (.val d::as)
def MU(i:Nat)(w:hJ):hJ:=fun ρ k=>ρ[i]?=some .bag/\w ρ fun as=>k (.bag i::as)
def sh(as:List Arg)(n:Nat):Bool:=Nat.beq as.length n&&Nat.ble (kr (as.map Arg.sl)) 1
def ku(n:Nat)(F:FS)(w:hJ):a5:=fun ρ k=>w ρ fun as=>sh as n=true/\F (as.map Arg.sl) fun r=>bL r k
def MV(n:Nat)(F:FS)(w:hJ):cQ:=fun ρ k=>w ρ fun as=>sh as n=true/\F (as.map Arg.sl) fun r=>∃ds:List D,r=.own ds/\k ds
section
variable{K:PySem.W.Frag}{X:aM}{e:Expr}{es:List Expr}{u:a5}{w:hJ}{pos p:Pos}{n:Nat}{F:FS}
theorem aV:ly X [] ny:=⟨_,fK,fun ρ k h R W B H σ Q e q=>q [] [] B H h e (bM.refl _ _) .nil⟩
theorem aw(ay:bq X e u)(ak:ly X es w)(aq:starEach (e::es) X.env=(false,eval e X.env)::starEach es X.env:=by rfl):ly X (e::es) (eD u w):=by
 obtain⟨_,aa,au⟩:=ay;obtain⟨_,ab,aG⟩:=ak;refine⟨_,er aa ab aq,fun ρ k h R W B H σ Q e q=>?_⟩;refine au ρ _ h R W B H σ _ e fun d v a4 H1 z1 ai g1 s1=>?_;refine aG ρ _ z1 R W a4 H1 σ _ ai fun as vs bD aZ aT av g2 s2=>?_;exact q _ _ bD aZ aT av (g1.trans g2) (.val (s1.mono g2.s) s2)
theorem gx(i:Nat){x:Str}{px:Pos}(ak:ly X es w)(bI:X.N[i]?=some x:=by rfl)(aP:gF X.env.scope x:=by first|exact Sz rfl|exact Zh (Sz rfl)|exact Zh (Zh rfl))(hd:(x==("__debug__":Str))=false:=by decide)(dz:(x==("__classdict__":Str))=false:=by decide)(aq:starEach (.Name x px::es) X.env=(false,eval (.Name x px) X.env)::starEach es X.env:=by rfl):ly X (.Name x px::es) (MU i w):=by
 obtain⟨_,ab,aG⟩:=ak;refine⟨_,er (ic bI aP hd dz) ab aq,fun ρ k h R W B H σ Q e q=>?_⟩;obtain⟨af,h⟩:=h;obtain⟨b,a9,ba⟩:=e.bagAt af;refine⟨_,a9,?_⟩;refine aG ρ _ h R W B H σ _ e fun as vs bD aZ aT av g2 s2=>?_;exact q _ _ bD aZ aT av g2 (.bag a9 af s2)
theorem jj.toIn{B:ao}{σ:St}{ρ:List aI}{W:Addr->Prop}{R H:ao}{nz:Addr->Prop}(e:Ev K R nz B H σ ρ):∀{vs:List V}{as:List Arg},jj K B σ ρ vs as->(∀i b,Arg.bag i∈as->σ[i]?=some (some (.ref b))->W b)->iU K W B vs (as.map Arg.sl)
 | _,_,.nil,_=>.nil
 | _,_,.val h r,hw=>.val h (jj.toIn e r fun i b m=>hw i b (Zf _ m))
 | _,_,.bag h af r,hw=>by
  obtain⟨b,a9,_⟩:=e.bagAt af;rw[h]at a9;cases a9;exact .bag (hw _ b Zd h) (jj.toIn e r fun i c m=>hw i c (Zf _ m))
theorem jj.bagIn{B:ao}{σ:St}{ρ:List aI}:∀{vs:List V}{as:List Arg}{i:Nat},jj K B σ ρ vs as->Arg.bag i∈as->ρ[i]?=some .bag
 | _,_,_,.nil,m=>by simp at m
 | _,_,_,.val h r,m=>by
  rcases ZA.mp m with m|m
  ·cases m
  ·exact r.bagIn m
 | _,_,_,.bag h af r,m=>by
  rcases ZA.mp m with m|m
  ·cases m;exact af
  ·exact r.bagIn m
theorem qp{R:ao}{W:Addr->Prop}{B H:ao}{σ:St}{ρ:List aI}{vs:List V}{as:List Arg}{k:aI->Prop}{Q:cO}{E:fB}(e:Ev K R W B H σ ρ)(ok:jj K B σ ρ vs as)(aq:sh as n=true)(jl:F (as.map Arg.sl) k)(q:∀r v ax H',k r->Ev K R W ax H' σ ρ->bM R B ax->zA K H ax H' v r->Q v H'):aL K n F vs H Q E:=by
 rw[sh,aaY]at aq;have aa:as.length=n:=Nat.eq_of_beq_eq_true aq.1;have g0:∀a,(∃i:Nat,Arg.bag i∈as/\σ[i]?=some (some (.ref a)))->∃i:Nat,σ[i]?=some (some (.ref a))/\ρ[i]?=some .bag:=fun a ⟨i,m,z⟩=>⟨i,z,ok.bagIn m⟩;refine⟨fun a=>∃i:Nat,Arg.bag i∈as/\σ[i]?=some (some (.ref a)),B,as.map Arg.sl,k,jl,by rw[YL];exact aa,aq.2,e.bh,fun a h=>?_,ok.toIn e fun i b m z=>⟨i,m,z⟩,fun r v ax H' ah ex=>?_⟩
 ·obtain⟨i,z1,aT⟩:=g0 a h;obtain⟨b,a9,_,dG,fw⟩:=e.bagAt aT;rw[z1]at a9;cases a9;exact⟨dG,fw⟩
 ·obtain⟨av,g2⟩:=e.after g0 ex.wd ex.g;exact q r v ax H' ah av g2 ex.res
theorem a3{x:Str}{ps:List Str}{j lv:Nat}(c:aJ X.prog X.w X.K X.mg X.base x ps j (aL X.K n F))(ak:eA lv X.A)(aD:eJ X x)(ay:ly X (e::es) w)(gL:j<=lv:=by decide)(gW:(x==("__debug__":Str))=false:=by decide)(he:starEach (e::es) X.env=(false,eval e X.env)::starEach es X.env:=by rfl)(e6:(backTo pos (starEach es X.env)).any (·.1)=false:=by rfl):
  bq X (.Call (.Name x p) (e::es) [] pos) (ku n F w):=by
 obtain⟨_,aa,au⟩:=ay;refine⟨_,qg c ak aD aa gL gW he e6,fun ρ k h R W B H σ Q e q=>?_⟩;refine au ρ _ h R W B H σ _ e fun as vs a4 H1 z1 ai g1 s1=>?_;rw[ZF];refine qp ai s1 z1.1 z1.2 fun r v bD aZ ah av g2 res=>?_;cases r with
 | no=>exact ah.elim
 | bag=>exact ah.elim
 | pin v d=>exact ah.elim
 | deep c=>exact ah.elim
 | val d=>exact q d v bD aZ ah av (g1.trans g2) res
 | new d=>exact q d v bD aZ ah av (g1.trans g2) (Rep.mono iS res)
 | own c =>
  cases c with
  | d _ _ _ _=>exact ah.elim
  | l ds =>
  obtain⟨a,rfl,f1,f2,us,bQ,f4⟩:=res
  obtain⟨bC,g3⟩:=av.freeze bQ (ai.toWd.fresh f1).1 f2 fun i m=>absurd f1 (by
   have bw:cX σ ρ i a:=m
   exact(ai.mutOk bw).2)
  exact q _ _ _ _ ah bC ((g1.trans g2).trans g3) (.lst ei (f4.mono g3.s))
theorem MW{x:Str}{ps:List Str}{j lv:Nat}(c:aJ X.prog X.w X.K X.mg X.base x ps j (aL X.K n F))(ak:eA lv X.A)(aD:eJ X x)(ay:ly X (e::es) w)(gL:j<=lv:=by decide)(gW:(x==("__debug__":Str))=false:=by decide)(he:starEach (e::es) X.env=(false,eval e X.env)::starEach es X.env:=by rfl)(e6:(backTo pos (starEach es X.env)).any (·.1)=false:=by rfl):
  kq X (.Call (.Name x p) (e::es) [] pos) (MV n F w):=by
 obtain⟨_,aa,au⟩:=ay;refine⟨_,qg c ak aD aa gL gW he e6,fun ρ k h R W B H σ Q e q=>?_⟩;refine au ρ _ h R W B H σ _ e fun as vs a4 H1 z1 ai g1 s1=>?_;rw[ZF];refine qp ai s1 z1.1 z1.2 fun r v bD aZ ah av g2 res=>?_;obtain⟨ds,rfl,ah⟩:=ah;obtain⟨a,rfl,f1,f2,us,bQ,f4⟩:=res;exact q ds a us bD aZ ah av (g1.trans g2) (ai.toWd.fresh f1).1 f2 bQ f4 fun i m=>(ai.mutOk m).2 f1
end
def rZ:D->Option Nat
 | .tup ds=>some ds.length
 | .lst ds=>some ds.length
 | .scr ns=>some ns.length
 | _=>none
def MX(u:a5):a5:=fun ρ k=>u ρ fun x=>∃n,rZ x=some n/\k (.int n)
def MY(i:Nat):a5:=fun ρ k=>∃ds:List D,ρ[i]?=some (.own ds)/\k (.int ds.length)
def MZ(u:a5):a5:=fun ρ k=>u ρ fun x=>∃i,x=.int i/\k (.int (if i<0 then -i else i))
def M0(u:a5):a5:=fun ρ k=>u ρ fun x=>(∃i,x=.int i/\k (.int i))∨∃c,x=.bl c/\k (.int (if c then 1 else 0))
def Ee:D->Option String
 | .int _=>some "int"
 | .bl _=>some "bool"
 | .tup _=>some "tuple"
 | .lst _=>some "list"
 | .non=>some "NoneType"
 | .str _=>some "str"
 | _=>none
def M1(u:a5)(n:String):a5:=fun ρ k=>u ρ fun x=>∃t b,Ee x=some t/\(∀K,aca K (.type t) (.type n)=some b)/\k (.bl b)
section
variable{K:PySem.W.Frag}{X:aM}{e:Expr}{es:List Expr}{u:a5}{pos p:Pos}{n:Nat}
theorem vb{cD:TE}{r:List V->ao->cO->Prop}{f:D->(D->Prop)->Prop}(ay:eL K cD u)(ak:∀(x:D) (k:D->Prop),f x k->∀(R:ao) (W:Addr->Prop) (B H:ao) (σ:St) (ρ:List aI) (v:V) (Q:cO),Ev K R W B H σ ρ->Rep K B v x->(∀d v ax H',k d->Ev K R W ax H' σ ρ->bM R B ax->Rep K ax v d->Q v H')->r [v] H Q):
  eL K (zd r (y9 cD y8)) (fun ρ k=>u ρ fun x=>f x k):=by
 intro ρ k h R W B H σ Q e q;refine ay ρ _ h R W B H σ _ e fun x v a4 H1 aa ai g1 au=>?_;exact ak x k aa R W a4 H1 σ ρ v Q ai au fun d u nr cP aK bC g3 f7=>q d u nr cP aK bC (g1.trans g3) f7
theorem jO(ay:bq X e u)(aD:eJ X "len")(hm:X.mg "len"=none)(aq:starEach [e] X.env=(false,eval e X.env)::starEach [] X.env:=by rfl):bq X (.Call (.Name "len" p) [e] [] pos) (MX u):=by
 obtain⟨_,aa,au⟩:=ay;refine⟨_,oK zg aD hm PySem.boot_len (er aa fK aq) (by decide) (by decide) aq,vb (f:=fun x k=>∃n,rZ x=some n/\k (.int n)) au fun x k h R W B H σ ρ v Q e bg q=>?_⟩;obtain⟨n,aN,ah⟩:=h;cases x<;>first|(cases aN;done)|skip
 ·obtain⟨a,vs,rfl,ay,r⟩:=bg.tupV;cases aN;rw[<-r.length]at ah;exact⟨a,vs,rfl,.inr (en.of (e.bh _ _ ay)),q _ _ B H ah e (bM.refl _ _) (.int _)⟩
 ·obtain⟨a,vs,rfl,ay,r⟩:=bg.lstV;cases aN;rw[<-r.length]at ah;exact⟨a,vs,rfl,.inl (cJ.of (e.bh _ _ ay)),q _ _ B H ah e (bM.refl _ _) (.int _)⟩
 ·obtain⟨a,rfl,ay⟩:=bg.scrV;cases aN;refine⟨a,_,rfl,.inl (e.bh.seq ay),?_⟩;rw[YL];exact q _ _ B H ah e (bM.refl _ _) (.int _)
theorem M3(i:Nat){x:Str}{px:Pos}(aD:eJ X "len")(hm:X.mg "len"=none)(bI:X.N[i]?=some x:=by rfl)(aP:gF X.env.scope x:=by first|exact Sz rfl|exact Zh (Sz rfl)|exact Zh (Zh rfl))(hd:(x==("__debug__":Str))=false:=by decide)(dz:(x==("__classdict__":Str))=false:=by decide)(aq:starEach [.Name x px] X.env=(false,eval (.Name x px) X.env)::starEach [] X.env:=by rfl):bq X (.Call (.Name "len" p) [.Name x px] [] pos) (MY i):=by
 refine⟨_,oK zg aD hm PySem.boot_len (er (ic bI aP hd dz) fK aq) (by decide) (by decide) aq,fun ρ k h R W B H σ Q e q=>?_⟩;obtain⟨ds,aE,ah⟩:=h;obtain⟨a,vs,ai,av,bC,c6,eK⟩:=e.ownAt aE;rw[<-eK.length]at ah;exact⟨_,ai,a,vs,rfl,.inl (cJ.of c6),q _ _ B H ah e (bM.refl _ _) (.int _)⟩
theorem vc(ay:bq X e u)(aD:eJ X "abs")(hm:X.mg "abs"=none)(aq:starEach [e] X.env=(false,eval e X.env)::starEach [] X.env:=by rfl):bq X (.Call (.Name "abs" p) [e] [] pos) (MZ u):=by
 obtain⟨_,aa,au⟩:=ay;refine⟨_,oK Lk aD hm (by decide +kernel) (er aa fK aq) (by decide) (by decide) aq,vb (f:=fun x k=>∃i,x=.int i/\k (.int (if i<0 then -i else i))) au fun x k h R W B H σ ρ v Q e bg q=>?_⟩;obtain⟨i,rfl,ah⟩:=h;exact⟨i,by rw[bg.intV],q _ _ B H ah e (bM.refl _ _) (.int _)⟩
theorem Ef(ay:bq X e u)(aD:eJ X "int")(hm:X.mg "int"=none)(aq:starEach [e] X.env=(false,eval e X.env)::starEach [] X.env:=by rfl):bq X (.Call (.Name "int" p) [e] [] pos) (M0 u):=by
 obtain⟨_,aa,au⟩:=ay;refine⟨_,LA Ll aD hm (by decide +kernel) (er aa fK aq) (by decide) (by decide) aq,vb (f:=fun x k=>(∃i,x=.int i/\k (.int i))∨∃c,x=.bl c/\k (.int (if c then 1 else 0))) au fun x k h R W B H σ ρ v Q e bg q=>?_⟩;rcases h with⟨i,rfl,ah⟩|⟨c,rfl,ah⟩
 ·exact .inl ⟨i,by rw[bg.intV],q _ _ B H ah e (bM.refl _ _) (.int _)⟩
 ·exact .inr ⟨c,by rw[bg.blV],q _ _ B H ah e (bM.refl _ _) (.int _)⟩
theorem M4{B H:ao}{v:V}{x:D}{t:String}(s:cm B H)(r:Rep K B v x)(h:Ee x=some t):iN K H v (.type t):=by
 cases r<;>cases h
 ·exact .non
 ·exact .bl _
 ·exact .int _
 ·exact .str _
 ·exact .tup (s _ _ (by assumption))
 ·exact .lst (s _ _ (by assumption))
theorem mq{T:String}{y:Str}{lB:Pos}(ay:bq X e u)(aD:eJ X "isinstance")(hm:X.mg "isinstance"=none)(dC:b0 X (.Name y lB) (p1 (.ty T)))(aq:starEach [e,.Name y lB] X.env=(false,eval e X.env)::starEach [.Name y lB] X.env)(jI:starEach [.Name y lB] X.env=(false,eval (.Name y lB) X.env)::starEach [] X.env)(e6:(backTo pos (starEach [.Name y lB] X.env)).any (·.1)=false):bq X (.Call (.Name "isinstance" p) [e,.Name y lB] [] pos) (M1 u T):=by
 obtain⟨_,aa,au⟩:=ay;refine⟨_,oK Mu aD hm (by decide +kernel) (er aa (er dC fK jI) aq) (by decide) (by decide) aq e6,fun ρ k h R W B H σ Q e q=>?_⟩;refine au ρ _ h R W B H σ _ e fun x v a4 H1 aa ai g1 s1=>?_;obtain⟨t,b,bt,ah,z⟩:=aa;exact⟨v,_,T,b,rfl,M4 ai.bh s1 bt,ah _,q _ _ a4 H1 z ai g1 (.bl _)⟩
end
section
variable{K:PySem.W.Frag}{X:aM}{e:Expr}{es:List Expr}{u:a5}{w:cQ}{pos p:Pos}
def zF:cW:=fun U ρ=>U.nx ρ
def r0(s t:cW):cW:=fun U ρ=>s { U with nx:=t U } ρ
def vd(u:a5):cW:=fun U ρ=>u ρ fun d=>U.rt (.val d)
def M5(w:cQ):cW:=fun U ρ=>w ρ fun ds=>U.rt (.own ds)
def M6(i:Nat)(u:a5):cW:=fun U ρ=>u ρ fun d=>U.nx (ρ.set i (.val d))
def zG(i:Nat)(w:cQ):cW:=fun U ρ=>w ρ fun ds=>U.nx (ρ.set i (.own ds))
def zH(c:dD)(s t:cW):cW:=fun U ρ=>c ρ fun b=>if b=true then s U ρ else t U ρ
def M7(i:Nat)(s:cW):cW:=fun U ρ=>∃ds:List D,ρ[i]?=some (.own ds)/\s U (ρ.set i (.val (.lst ds)))
theorem eX:gM X [] zF:=⟨_,uy,fun U ρ h R W B H σ D e s=>s.nx ρ σ B H h e (bM.refl _ _)⟩
theorem bJ{st:Stmt}{s:cW}(h:e7 X st s):gM X [st] s:=by
 obtain⟨_,aa,au⟩:=h;exact⟨_,oE aa,au⟩
theorem a8{st:Stmt}{rest:List Stmt}{s t:cW}(h:e7 X st s)(h':gM X rest t):gM X (st::rest) (r0 s t):=by
 obtain⟨_,aa,au⟩:=h;obtain⟨_,ab,aG⟩:=h';refine⟨_,m6 aa ab,fun U ρ h R W B H σ D e dU=>?_⟩;exact au _ ρ h R W B H σ _ e ⟨fun bu a' ax H' z aU g=>aG U bu z R W ax H' a' D aU (dU.grow g),dU.bk,dU.ct,dU.rt⟩
theorem lC{st:List Stmt}{s:cW}(i:Nat)(h:gM X st s):gM X st (M7 i s):=by
 obtain⟨_,aa,au⟩:=h;refine⟨_,aa,fun U ρ h R W B H σ D e dU=>?_⟩;obtain⟨ds,aE,z⟩:=h;obtain⟨ax,aU,g⟩:=e.fz aE;exact au U _ z R W ax H σ D aU (dU.grow g)
theorem zI{st:Stmt}:e7 X st (fun _ _=>False):=⟨_,Kx,fun U ρ h=>h.elim⟩
theorem M8{st:List Stmt}:gM X st (fun _ _=>False):=⟨Dc,fun _ _ _ _ _ _ h=>h.elim,fun U ρ h=>h.elim⟩
theorem cw(h:bq X e u):e7 X (.Return (some e) pos) (vd u):=by
 obtain⟨_,aa,au⟩:=h;refine⟨_,l8 aa,fun U ρ h R W B H σ D e s=>?_⟩;exact au ρ _ h R W B H σ _ e fun d v a4 H1 z1 ai g1 s1=>s.rt _ v a4 H1 z1 ai.toWd g1 s1
theorem Eg(h:kq X e w):e7 X (.Return (some e) pos) (M5 w):=by
 obtain⟨_,aa,au⟩:=h;refine⟨_,l8 aa,fun U ρ h R W B H σ D e s=>?_⟩;exact au ρ _ h R W B H σ _ e fun ds a vs a4 H1 z1 ai g1 f1 f2 bQ f4 eo=>s.rt (.own ds) _ a4 H1 z1 ai.toWd g1 ⟨a,rfl,f1,f2,vs,bQ,f4⟩
theorem cz{i:Nat}{x:Str}{pos':Pos}(bI:X.N.Nodup)(aB:X.N[i]?=some x)(aC:Loc X.env.scope x)(he:bq X e u)(aq:swapsWith e (some (.Name x pos')) pos.line X.env=pure false:=by rfl)(hf:X.fn x=true∨X.env.scope.names.lookup x=some .local:=by first|exact .inl rfl|exact .inr rfl|assumption):
  e7 X (.Assign [.Name x pos'] e pos) (M6 i u):=by
 obtain⟨_,aa,au⟩:=he;refine⟨_,p3 bI aB aC aa aq hf,fun U ρ h R W B H σ D e s=>?_⟩;exact au ρ _ h R W B H σ _ e fun d v a4 H1 z1 ai g1 s1=>s.nx _ _ a4 H1 z1 (ai.setV i s1) g1
theorem lD{i:Nat}{x:Str}{pos':Pos}(bI:X.N.Nodup)(aB:X.N[i]?=some x)(aC:Loc X.env.scope x)(he:kq X e w)(aq:swapsWith e (some (.Name x pos')) pos.line X.env=pure false:=by rfl)(hf:X.fn x=true∨X.env.scope.names.lookup x=some .local:=by first|exact .inl rfl|exact .inr rfl|assumption):
  e7 X (.Assign [.Name x pos'] e pos) (zG i w):=by
 obtain⟨_,aa,au⟩:=he;refine⟨_,p3 bI aB aC aa aq hf,fun U ρ h R W B H σ D e s=>?_⟩;exact au ρ _ h R W B H σ _ e fun ds a vs a4 H1 z1 ai g1 f1 f2 bQ f4 eo=>s.nx _ _ a4 H1 z1 (ai.setO i f1 f2 bQ f4 fun j _=>eo j) g1
theorem eM{c:Expr}{a b:List Stmt}{gZ:dD}{s t:cW}(hc:h2 X c gZ)(ay:gM X a s)(af:gM X b t):e7 X (.If c a b pos) (zH gZ s t):=by
 obtain⟨_,h0,gw⟩:=hc;obtain⟨_,aa,au⟩:=ay;obtain⟨_,ab,aG⟩:=af;refine⟨_,uA h0 aa ab,fun U ρ h R W B H σ D e dU=>?_⟩;refine gw ρ _ h R W B H σ _ e fun c a4 H1 z1 ai g1=>?_;cases c with
 | true =>
  rw[if_pos rfl]at z1 ⊢;exact au U ρ z1 R W a4 H1 σ D ai (dU.grow g1)
 | false =>
  rw[if_neg ZR]at z1 ⊢;exact aG U ρ z1 R W a4 H1 σ D ai (dU.grow g1)
def gy(i:Nat):ee:=fun d ρ k=>k (ρ.set i (.val d))
def mr:iR:=fun ds ρ k=>ds=[]/\k ρ
def g4(g:ee)(gb:iR):iR:=fun ds ρ k=>∃d r,ds=d::r/\g d ρ fun bu=>gb r bu k
def mu(n:Nat)(gb:iR):ee:=fun d ρ k=>∃ds,d=.tup ds/\ds.length=n/\gb ds ρ k
def M9(u:a5)(g:ee):cW:=fun U ρ=>u ρ fun d=>g d ρ U.nx
theorem cq{i:Nat}{x:Str}(bI:X.N.Nodup)(aB:X.N[i]?=some x)(aC:Loc X.env.scope x)(hf:X.fn x=true∨X.env.scope.names.lookup x=some .local:=by first|exact .inl rfl|exact .inr rfl|assumption):iT X (.Name x pos) (gy i):=
 ⟨_,yT bI aB aC hf,fun d ρ k h R W B H σ v Q e r q=>q _ _ h (e.setV i r) fun j a m=>by
  exact(rS m (by simp) (by simp) rfl).2⟩
theorem gc:rU X [] mr:=⟨_,Df,fun ds ρ k h R W B H σ vs Q e r q=>by
 obtain⟨rfl,h⟩:=h;cases r
 exact⟨rfl,q _ _ h e fun _ _ m=>m⟩⟩
theorem c'{g:ee}{gb:iR}(aa:iT X e g)(ab:rU X es gb)(aq:(assignEach (e::es) X.env).map (·.2)=assign e X.env::(assignEach es X.env).map (·.2):=by rfl):rU X (e::es) (g4 g gb):=by
 obtain⟨_,aa,au⟩:=aa;obtain⟨_,ab,aG⟩:=ab;refine⟨_,Dg aa ab aq,fun ds ρ k h R W B H σ vs Q e r q=>?_⟩;obtain⟨d,hE,rfl,h⟩:=h;cases r with
 | cons cb rs =>
  refine⟨_,_,rfl,au d ρ _ h R W B H σ _ _ e cb fun bu a' z aU bA=>?_⟩;exact aG hE bu k z R W B H a' _ _ aU rs fun zJ zK aT av b3=>q zJ zK aT av fun j a m=>bA j a (b3 j a m)
theorem gz{cC:Nat}{gb:iR}{n:Nat}(hc:X.calm=true)(h:rU X es gb)(aN:(assignEach es X.env).length=n:=by rfl)(l9:(assignEach es X.env).findIdx? (·.1)=none:=by rfl):iT X (.Tuple es cC pos) (mu n gb):=by
 obtain⟨_,aa,au⟩:=h;refine⟨_,Dh hc aa aN l9,fun d ρ k h R W B H σ v Q e r q=>?_⟩;obtain⟨ds,rfl,aj,h⟩:=h;obtain⟨a,vs,rfl,ay,rs⟩:=r.tupV;exact⟨a,vs,rfl,en.of (e.bh _ _ ay),by rw[rs.length];exact aj,au ds ρ k h R W B H σ vs Q e rs q⟩
theorem hL{bG:Expr}{g:ee}(he:bq X e u)(aD:iT X bG g)(aq:swapsWithSole [bG] e pos.line X.env=pure false:=by rfl)(hw:swappedStores [bG] e X.env=pure none:=by rfl)(aa:(assignEach [bG] X.env).map (·.2)=[assign bG X.env]:=by rfl):e7 X (.Assign [bG] e pos) (M9 u g):=by
 obtain⟨_,ay,au⟩:=he;obtain⟨_,af,aG⟩:=aD;refine⟨_,uD ay af aq hw aa,fun U ρ h R W B H σ D e s=>?_⟩;refine au ρ _ h R W B H σ _ e fun d v a4 H1 z1 ai g1 s1=>?_;exact aG d ρ _ z1 R W a4 H1 σ v _ ai s1 fun bu a' aT av _=>s.nx _ _ a4 H1 aT av g1
def M'(i j:Nat)(w:cQ):cW:=fun U ρ=>w ρ fun ds=>∃x y,ds=[x,y]/\U.nx ((ρ.set i (.val x)).set j (.val y))
theorem Eh{i j:Nat}{x y:Str}{a b:Expr}{px py pt:Pos}{kt cn oG}(hc:X.calm=true)(bI:X.N.Nodup)(aB:X.N[i]?=some x)(bZ:X.N[j]?=some y)(m7:i≠j)(aC:X.env.scope.names.lookup x=some .local)(a6:X.env.scope.names.lookup y=some .local)(ay:oU X [a,b] w)(hw:swappedStores [.Tuple [.Name x px,.Name y py] kt pt] (.Tuple [a,b] cn oG) X.env=pure (some [x,y]))(aq:swapsWithSole [.Tuple [.Name x px,.Name y py] kt pt] (.Tuple [a,b] cn oG) pos.line X.env=pure false:=by rfl):
  e7 X (.Assign [.Tuple [.Name x px,.Name y py] kt pt] (.Tuple [a,b] cn oG) pos) (M' i j w):=by
 obtain⟨_,aa,au⟩:=ay;refine⟨_,KG hc bI aB bZ m7 aC a6 aa hw aq,fun U ρ h R W B H σ D e s=>?_⟩;refine au ρ _ h R W B H σ _ e fun ds vs a4 H1 z1 ai g1 s1=>?_;obtain⟨x,y,rfl,z1⟩:=z1;cases s1 with
 | cons jP rb=>cases rb with
  | cons rb rc =>
   cases rc;exact⟨_,_,rfl,s.nx _ _ a4 H1 z1 ((ai.setV i jP).setV j rb) g1⟩
def Na(c:dD)(s:cW):cW:=fun U ρ=>∃M:Nat->List aI->Prop,(∃m,M m ρ)/\∀m ρ,M m ρ->c ρ fun b=>if b=true then s { U with nx:=fun bu=>∃m',m'<m/\M m' bu,ct:=fun bu=>∃m',m'<m/\M m' bu,bk:=U.nx } ρ else U.nx ρ
theorem Ei{c:Expr}{body:List Stmt}{gZ:dD}{s:cW}(ag:PassesOwn (model X.prog X.w) X.A X.env X.xe)(hc:h2 X c gZ)(af:gM X body s):e7 X (.While c body [] pos) (Na gZ s):=by
 obtain⟨_,h0,gw⟩:=hc;obtain⟨_,aa,au⟩:=af;refine⟨_,KQ ag h0 aa,fun U ρ h R W B H σ D e dU=>?_⟩;obtain⟨M,⟨m0,hm⟩,turn⟩:=h;refine⟨fun m a' H'=>∃bu ax,M m bu/\Ev X.K R W ax H' a' bu/\bM R B ax,⟨m0,ρ,B,hm,e,bM.refl _ _⟩,?_⟩;rintro m f5 H1 ⟨gA,a4,Nb,ai,g1⟩;refine gw gA _ (turn m gA Nb) R W a4 H1 f5 _ ai fun b bD aZ aT av g2=>?_;cases b with
 | true =>
  rw[if_pos rfl]at aT ⊢;refine⟨fun a' H'=>∃bu ax,(∃m',m'<m/\M m' bu)/\Ev X.K R W ax H' a' bu/\bM R B ax,?_,?_⟩
  ·rintro a' H' ⟨bu,ax,⟨m',l,q⟩,aU,g'⟩;exact⟨m',l,bu,ax,q,aU,g'⟩
  ·have ve:=g1.trans g2;exact au _ gA aT R W bD aZ f5 _ av ⟨fun bu a' ax H' z aU g=>⟨bu,ax,z,aU,ve.trans g⟩,fun bu a' ax H' z aU g=>dU.nx bu a' ax H' z aU (ve.trans g),fun bu a' ax H' z aU g=>⟨bu,ax,z,aU,ve.trans g⟩,fun r v ax H' z aU g q=>dU.rt r v ax H' z aU (ve.trans g) q⟩
 | false =>
  rw[if_neg ZR]at aT ⊢;exact dU.nx gA f5 bD aZ aT av (g1.trans g2)
theorem jk.list{B:ao}{a:Addr}{vs:List V}{ds:List D}(h:B a=some (.lst vs))(r:Reps K B vs ds):jk K B (yX K a) ds:=by
 intro H s i;have dw:=s _ _ h;have q:cJ K H a vs:=cJ.of dw;refine⟨fun aB=>?_,fun aB=>⟨vs,q,by rw[r.length];exact aB⟩,fun x H' aB ⟨ai,av⟩=>⟨ai,?_⟩⟩
 ·obtain⟨v,e,_⟩:=r.get (ZT aB);exact⟨vs,v,q,e⟩
 ·exact r.getV (av vs q)
theorem jk.tup{B:ao}{a:Addr}{vs:List V}{ds:List D}(h:B a=some (.tup vs))(r:Reps K B vs ds):jk K B (yY K a) ds:=by
 intro H s i;have dw:=s _ _ h;have q:en K H a vs:=en.of dw;refine⟨fun aB=>?_,fun aB=>⟨vs,q,by rw[r.length];exact aB⟩,fun x H' aB ⟨ai,av⟩=>⟨ai,?_⟩⟩
 ·obtain⟨v,e,_⟩:=r.get (ZT aB);exact⟨vs,v,q,e⟩
 ·exact r.getV (av vs q)
theorem jk.rng{B:ao}(n:Nat):jk K B (p4 0 n) ((ZX n).map fun i:Nat=>D.int i):=by
 intro H s i;rw[YL,abQ];refine⟨fun aB=>aB,fun aB=>aB,fun x H' aB ⟨ai,av⟩=>⟨ai,?_⟩⟩;refine⟨.int i,?_,?_⟩
 ·rw[ZL,abR aB];rfl
 ·rw[av,Int.zero_add];exact .int _
def Nc(u:a5):cQ:=fun ρ k=>u ρ fun d=>∃ds,d=.lst ds/\k ds
def Nd(u:a5):cQ:=fun ρ k=>u ρ fun d=>∃ds,d=.tup ds/\k ds
def Nf(u:a5):cQ:=fun ρ k=>u ρ fun d=>∃j,d=.int j /\ -(2^62)<=j/\j<2^62/\k ((ZX j.toNat).map fun i:Nat=>D.int i)
variable{bG:Expr}
theorem jQ{l:Expr}(aj:bq X l u):lz X bG l (Nc u):=by
 obtain⟨_,aa,au⟩:=aj;refine⟨_,Dj aa,fun ρ k h R W B H σ Q e q=>?_⟩;refine au ρ _ h R W B H σ _ e fun d v a4 H1 z1 ai g1 s1=>?_;obtain⟨ds,rfl,z⟩:=z1;obtain⟨a,vs,rfl,ay,rs⟩:=s1.lstV;exact⟨a,rfl,⟨vs,cJ.of (ai.bh _ _ ay)⟩,q ds _ a4 H1 z ai g1 (jk.list ay rs)⟩
theorem Ej{l:Expr}(aj:bq X l u):lz X bG l (Nd u):=by
 obtain⟨_,aa,au⟩:=aj;refine⟨_,KX aa,fun ρ k h R W B H σ Q e q=>?_⟩;refine au ρ _ h R W B H σ _ e fun d v a4 H1 z1 ai g1 s1=>?_;obtain⟨ds,rfl,z⟩:=z1;obtain⟨a,vs,rfl,ay,rs⟩:=s1.tupV;exact⟨a,rfl,⟨vs,en.of (ai.bh _ _ ay)⟩,q ds _ a4 H1 z ai g1 (jk.tup ay rs)⟩
theorem zL{a:Expr}(ay:bq X a u)(aD:eJ X "range")(hm:X.mg "range"=none)(aq:starEach [a] X.env=[(false,eval a X.env)]:=by rfl):lz X bG (.Call (.Name "range" p) [a] [] pos) (Nf u):=by
 obtain⟨_,aa,au⟩:=ay;refine⟨_,K0 aD hm (er aa fK (by exact aq)) aq,fun ρ k h R W B H σ Q e q=>?_⟩;refine au ρ _ h R W B H σ _ e fun d v a4 H1 z1 ai g1 s1=>?_;obtain⟨j,rfl,Ng,eN,z⟩:=z1;exact⟨j,by rw[s1.intV],Ng,eN,q _ _ a4 H1 z ai g1 (jk.rng _)⟩
def forR(g:ee)(s:cW)(U:il):List D->List aI->Prop
 | [],ρ=>U.nx ρ
 | d::ds,ρ=>g d ρ fun bu=>s { U with nx:=forR g s U ds,ct:=forR g s U ds,bk:=U.nx } bu
def Nh(w:cQ)(g:ee)(s:cW):cW:=fun U ρ=>w ρ fun ds=>forR g s U ds ρ
theorem oY{iter:Expr}{body:List Stmt}{g:ee}{s:cW}(ag:PassesOwn (model X.prog X.w) X.A X.env X.xe)(hc:X.calm=true)(aB:lz X bG iter w)(aD:iT X bG g)(af:gM X body s)(aq:∀x,foldedSetIterable iter X.env x=pure x:=by intro _;rfl):e7 X (.For bG iter body [] pos) (Nh w g s):=by
 obtain⟨_,h0,gw⟩:=aB;obtain⟨_,aa,au⟩:=aD;obtain⟨_,ab,aG⟩:=af;refine⟨_,uG ag hc h0 aa ab aq,fun U ρ h R W B H σ D e dU=>?_⟩;refine gw ρ _ h R W B H σ _ e fun ds J a4 H1 z1 ai g1 it=>?_;refine⟨fun i m a' H'=>∃bu ax,m=ds.length-i/\i<=ds.length/\forR g s U (ds.drop i) bu/\Ev X.K R W ax H' a' bu/\bM R B ax/\cm a4 ax,⟨ds.length,ρ,a4,by simp,aaa _,z1,ai,g1,cm.refl _⟩,?_⟩;rintro i m f5 aZ ⟨gA,bD,rfl,aB,aT,av,g2,s2⟩;obtain⟨t1,cE,t3⟩:=it aZ (s2.trans av.bh) i;by_cases cM:i<ds.length
 ·refine .inr ⟨t1 cM,fun a' H'=>∃bu ax,forR g s U (ds.drop (i+1)) bu/\Ev X.K R W ax H' a' bu/\bM R B ax/\cm a4 ax,?_,?_⟩
  ·rintro a' H' ⟨bu,ax,z,aU,g',s'⟩;exact⟨ds.length-(i+1),by omega,bu,ax,rfl,cM,z,aU,g',s'⟩
  ·intro x H' y;obtain⟨rfl,d,hd,bg⟩:=t3 x H' cM y
   have gd:ds.drop i=d::ds.drop (i+1):=by
    rw[aaH cM];rw[ZT cM]at hd;rw[ZH hd]
   rw[gd]at aT;refine au d gA _ aT R W bD _ f5 x _ av (bg.mono s2) fun bu a' el aU _=>?_;exact aG _ bu el R W bD _ a' _ aU ⟨fun bu a' ax H' z aU g=>⟨bu,ax,z,aU,g2.trans g,s2.trans g.s⟩,fun bu a' ax H' z aU g=>dU.nx bu a' ax H' z aU (g2.trans g),fun bu a' ax H' z aU g=>⟨bu,ax,z,aU,g2.trans g,s2.trans g.s⟩,fun r v ax H' z aU g q=>dU.rt r v ax H' z aU (g2.trans g) q⟩
 ·have eE:i=ds.length:=by omega
  subst eE;rw[aaP]at aT;exact .inl ⟨cE (YK _),dU.nx gA f5 bD aZ aT av g2⟩
end
section
variable{K:PySem.W.Frag}{X:aM}{e:Expr}{es:List Expr}{u:a5}{w:cQ}{pos p:Pos}
theorem Ev.newO{R:ao}{W:Addr->Prop}{B H:ao}{σ:St}{ρ:List aI}(e:Ev K R W B H σ ρ){q:Addr}(aA:H q=none){vs:List V}{ds:List D}(r:Reps K B vs ds):
  Ev K R W B (upd H q (.lst vs)) σ ρ/\R q=none/\B q=none/\(upd H q (.lst vs)) q=some (.lst vs)/\∀i,¬cX σ ρ i q:=by
 obtain⟨f1,f2,bQ⟩:=e.toWd.fresh aA;exact⟨e.allocH aA _,f1,bQ,ei,fun i m=>e.notNew aA m rfl⟩
def fU{α:Type}(xs:List α)(lo aB:Option Int):List α:=(xs.drop (HT.sIx xs.length 0 lo)).take (HT.sIx xs.length xs.length aB-HT.sIx xs.length 0 lo)
theorem Reps.cut{B:ao}{vs:List V}{ds:List D}(r:Reps K B vs ds)(lo aB:Option Int):Reps K B (fU vs lo aB) (fU ds lo aB):=by
 unfold fU;rw[r.length];exact(r.drop _).take _
theorem zM{α β:Type}(f:α->β)(xs:List α)(lo aB:Option Int):fU (xs.map f) lo aB=(fU xs lo aB).map f:=by
 unfold fU;rw[YL,<-List.map_drop,<-List.map_take]
abbrev nA:=List aI->(Option Int->Prop)->Prop
def Ni(K:PySem.W.Frag)(t:qc)(u:nA):Prop:=∀(ρ:List aI)(k:Option Int->Prop),u ρ k->∀(R:ao)(W:Addr->Prop)(B H:ao)(σ:St)(Q:Option Int->ao->Prop),Ev K R W B H σ ρ ->
 (∀o ax H',k o->Ev K R W ax H' σ ρ->bM R B ax->Q o H')->t σ H Q
def qq(X:aM)(e:Option Expr)(u:nA):Prop:=∃t,rL X e t/\Ni X.K t u
def Nj:nA:=fun _ k=>k none
def Nk(u:a5):nA:=fun ρ k=>u ρ fun d=>∃i,d=.int i/\k (some i)
theorem vf:qq X none Nj:=⟨_,LL,fun ρ k h R W B H σ Q e q=>q none B H h e (bM.refl _ _)⟩
theorem qr(h:bq X e u):qq X (some e) (Nk u):=by
 obtain⟨_,aa,au⟩:=h;refine⟨_,LM aa,fun ρ k h R W B H σ Q e q=>?_⟩;refine au ρ _ h R W B H σ _ e fun d v a4 H1 z1 ai g1 s1=>?_;obtain⟨i,rfl,z⟩:=z1;exact⟨i,s1.intV,q _ a4 H1 z ai g1⟩
def Ek:D->Option (List D)
 | .lst ds=>some ds
 | .scr ns=>some (ns.map .int)
 | _=>none
theorem Nl{B H:ao}{v:V}{x:D}{ds:List D}(s:cm B H)(r:Rep K B v x)(h:Ek x=some ds):∃a vs,v=.ref a/\cJ K H a vs/\Reps K B vs ds:=by
 cases x<;>first|(cases h;done)|skip
 ·obtain⟨a,vs,rfl,ay,rs⟩:=r.lstV;cases h;exact⟨a,vs,rfl,cJ.of (s _ _ ay),rs⟩
 ·obtain⟨a,rfl,ay⟩:=r.scrV;cases h;exact⟨a,_,rfl,s.seq ay,Reps.ints _⟩
def Nm(u:a5)(l h:nA):cQ:=fun ρ k=>u ρ fun x=>l ρ fun lo=>h ρ fun aB=>∃ds,Ek x=some ds/\k (fU ds lo aB)
theorem vg{lo aB:Option Expr}{ul r1:nA}{c2:Pos}(he:bq X e u)(aj:qq X lo ul)(et:qq X aB r1):kq X (.Subscript e (.Slice lo aB none c2) pos) (Nm u ul r1):=by
 obtain⟨_,aa,au⟩:=he;obtain⟨_,ab,aG⟩:=aj;obtain⟨_,aK,f7⟩:=et;refine⟨_,DE L0 aa ab aK,fun ρ k h R W B H σ Q e q=>?_⟩;refine au ρ _ h R W B H σ _ e fun d v a4 H1 z1 ai g1 s1=>?_;refine aG ρ _ z1 R W a4 H1 σ _ ai fun lo bD aZ aT av g2=>?_;refine f7 ρ _ aT R W bD aZ σ _ av fun aB nr cP fk bC g3=>?_;obtain⟨ds,hd,z⟩:=fk;obtain⟨a,vs,rfl,ay,rs⟩:=Nl bC.bh (s1.mono (g2.trans g3).s) hd;refine⟨a,vs,rfl,ay,fun p ag=>?_⟩;obtain⟨f1,f2,bQ,f4,eo⟩:=bC.newO ag (rs.cut lo aB);exact q _ p _ nr _ z f1 ((g1.trans g2).trans g3) f2 bQ f4 (rs.cut lo aB) eo
def vh(u v:a5):cQ:=fun ρ k=>u ρ fun x=>v ρ fun y=>∃ds es,x=.lst ds/\y=.lst es/\ds.length+es.length<=sizeLine/\k (ds++es)
theorem jR{a b:Expr}{bH bW:a5}(ay:bq X a bH)(af:bq X b bW):kq X (.BinOp a .Add b pos) (vh bH bW):=by
 obtain⟨_,aa,au⟩:=ay;obtain⟨_,ab,aG⟩:=af;refine⟨_,fj Mf aa ab,fun ρ k h R W B H σ Q e q=>?_⟩;refine au ρ _ h R W B H σ _ e fun d v a4 H1 z1 ai g1 s1=>?_;refine aG ρ _ z1 R W a4 H1 σ _ ai fun d' rB bD aZ aT av g2 s2=>?_;obtain⟨ds,es,rfl,rfl,aj,z⟩:=aT;obtain⟨a,vs,rfl,ay,rs⟩:=(s1.mono g2.s).lstV;obtain⟨b,ws,rfl,af,rt⟩:=s2.lstV;refine⟨a,b,vs,ws,rfl,rfl,av.bh _ _ ay,av.bh _ _ af,by rw[rs.length,rt.length];exact aj,fun p ag=>?_⟩;obtain⟨f1,f2,bQ,f4,eo⟩:=av.newO ag (rs.append rt);exact q _ p _ bD _ z f1 (g1.trans g2) f2 bQ f4 (rs.append rt) eo
theorem El{B:ao}:∀{ns:List Int}{vs:List V},Reps K B vs (ns.map D.int)->vs=ns.map V.int
 | [],_,.nil=>rfl
 | n::r,_,.cons h t=>by rw[h.intV,El t];rfl
def zN(i:Nat)(u:a5):cW:=fun U ρ=>∃ds:List D,ρ[i]?=some (.own ds)/\u ρ fun d=>ds.length<sizeLine/\U.nx (ρ.set i (.own (ds++[d])))
theorem nB(i:Nat){x:Str}{px apos c8:Pos}(he:bq X e u)(bI:X.N[i]?=some x:=by rfl)(aP:gF X.env.scope x:=by first|exact Sz rfl|exact Zh (Sz rfl)|exact Zh (Zh rfl))(hd:(x==("__debug__":Str))=false:=by decide)(dz:(x==("__classdict__":Str))=false:=by decide)(ie:attributeBase (.Name x px) "append" X.env (eval (.Name x px) X.env)=eval (.Name x px) X.env:=by rfl)(km:((backTo c8 (starEach [e] X.env)).all (fun x => !x.1)&&(backToKw c8 (keywordEach [] X.env)).all (fun x=>x.1.isSome)
   && decide ([e].length+([]:List Keyword).length+(if([]:List Keyword).isEmpty then 0 else 1)<30))=true:=by rfl)(ig:(apos.endLine==c8.line)=true:=by rfl)(aq:starEach [e] X.env=(false,eval e X.env)::starEach [] X.env:=by rfl)(oM:(backTo c8 (starEach ([]:List Expr) X.env)).any (·.1)=false:=by rfl)(kv:swapsWith (.Call (.Attribute (.Name x px) "append" apos) [e] [] c8) none pos.line X.env=pure false:=by rfl):e7 X (.Expr (.Call (.Attribute (.Name x px) "append" apos) [e] [] c8) pos) (zN i u):=by
 obtain⟨_,aa,au⟩:=he;refine⟨_,uz (uT abv PySem.F.slot_list_append PySem.F.type_list_append DM (ic bI aP hd dz) (er aa fK aq) ie km ig aq oM) kv,fun U ρ h R W B H σ D e s=>?_⟩;obtain⟨ds,aE,h⟩:=h;obtain⟨a,vs,ai,av,bC,c6,eK⟩:=e.ownAt aE;refine⟨_,ai,.inl ⟨rfl,vs,cJ.of c6⟩,?_⟩;refine au ρ _ h R W B H σ _ e fun d v a4 H1 z1 f1 g1 s1=>?_;obtain⟨ez,kx,bU,cn,fN,iu,nC⟩:=f1.ownAt aE;rw[ai]at bU;cases bU;exact⟨a,kx,v,rfl,rfl,iu,by rw[nC.length];exact z1.1,s.nx _ _ a4 _ z1.2 (f1.write ai aE (nC.append (.cons s1 .nil))) g1⟩
def jm(ρ:List aI)(j:Nat):aI:=match ρ[j]? with
 | some (.val d)=>.val d
 | some .bag=>.bag
 | _=>.no
theorem Ev.scribble{R:ao}{W:Addr->Prop}{B H:ao}{σ:St}{ρ:List aI}(e:Ev K R W B H σ ρ){a:Addr}(ak:R a=none)(af:B a=none)(hm:∀i,¬cX σ ρ i a)(o:eS):Ev K R W B (upd H a o) σ ρ:=by
 have nw:¬W a:=fun z=>e.wr a z ak;refine e.move ⟨fun b q h z=>?_,fun b q h=>?_,e.wb,fun b z=>(e.wh b z).upd (by rintro rfl;exact nw z),e.wr⟩ (cm.refl _) fun i b m=>?_
 ·rw[dM (by rintro rfl;rw[ak]at h;cases h)];exact e.fr b q h z
 ·rw[dM (by rintro rfl;rw[af]at h;cases h)];exact e.bh b q h
 ·have n:b≠a:=by rintro rfl;exact hm i m
  refine⟨(e.mutOk m).1,fun z=>?_,fun _=>dM n⟩;obtain⟨c,aF,_,_,bP⟩:=e.bagAt z;rw[oS m z]at aF;cases aF;exact bP.upd n
theorem Nn{σ:St}{js:List Nat}{i:Nat}{o:Option V}(h:(hp σ js)[i]?=some o):∃j,js[i]?=some j/\o=(σ[j]?).join:=by
 unfold hp at h;rw[ZL]at h;cases q:js[i]? with
 | none=>rw[q]at h;cases h
 | some j=>rw[q]at h;exact⟨j,rfl,(ZH h).symm⟩
def Np(K:PySem.W.Frag)(t:TE)(u:List aI->Prop->Prop):Prop:=∀(ρ:List aI)(k:Prop),u ρ k->∀(R:ao)(W:Addr->Prop)(B H:ao)(σ:St)(Q:cO),Ev K R W B H σ ρ ->
 (∀a ax H',k->Ev K R W ax H' σ ρ->bM R B ax->R a=none->ax a=none->gv H' a->(∀i,¬cX σ ρ i a)->Q (.ref a) H')->t σ H Q
def Em(X:aM)(e:Expr)(u:List aI->Prop->Prop):Prop:=∃t,b0 X e t/\Np X.K t u
def Nq(n:Nat)(F:FS)(w:hJ):List aI->Prop->Prop:=fun ρ k=>w ρ fun as=>sh as n=true/\F (as.map Arg.sl) fun r=>r=.bag/\k
theorem Nr{n:Nat}{F:FS}{w:hJ}{x:Str}{ps:List Str}{j lv:Nat}(c:aJ X.prog X.w X.K X.mg X.base x ps j (aL X.K n F))(ak:eA lv X.A)(aD:eJ X x)(ay:ly X (e::es) w)(gL:j<=lv:=by decide)(gW:(x==("__debug__":Str))=false:=by decide)(he:starEach (e::es) X.env=(false,eval e X.env)::starEach es X.env:=by rfl)(e6:(backTo pos (starEach es X.env)).any (·.1)=false:=by rfl):
  Em X (.Call (.Name x p) (e::es) [] pos) (Nq n F w):=by
 obtain⟨_,aa,au⟩:=ay;refine⟨_,qg c ak aD aa gL gW he e6,fun ρ k h R W B H σ Q e q=>?_⟩;refine au ρ _ h R W B H σ _ e fun as vs a4 H1 z1 ai g1 s1=>?_;rw[ZF];refine qp ai s1 z1.1 z1.2 fun r v bD aZ ah av g2 res=>?_;obtain⟨rfl,ah⟩:=ah;obtain⟨a,rfl,f1,f2,bQ⟩:=res;exact q a bD aZ ah av (g1.trans g2) (ai.toWd.fresh f1).1 f2 bQ fun i m=>(ai.mutOk m).2 f1
def Nt(i:Nat)(u:List aI->Prop->Prop):cW:=fun U ρ=>u ρ (U.nx (ρ.set i .bag))
theorem Nu{i:Nat}{x:Str}{pos':Pos}{u:List aI->Prop->Prop}(bI:X.N.Nodup)(aB:X.N[i]?=some x)(aC:Loc X.env.scope x)(he:Em X e u)(aq:swapsWith e (some (.Name x pos')) pos.line X.env=pure false:=by rfl)(hf:X.fn x=true∨X.env.scope.names.lookup x=some .local:=by first|exact .inl rfl|exact .inr rfl|assumption):
  e7 X (.Assign [.Name x pos'] e pos) (Nt i u):=by
 obtain⟨_,aa,au⟩:=he;refine⟨_,p3 bI aB aC aa aq hf,fun U ρ h R W B H σ D e s=>?_⟩;refine au ρ _ h R W B H σ _ e fun a a4 H1 z1 ai g1 f1 f2 bQ f4=>s.nx _ _ a4 H1 z1 (ai.set i ⟨a,rfl,.inr f1,f2,bQ⟩ fun b z _ j _=>?_) g1;cases z;exact f4 j
end
end L3
namespace L3
open PySem L2
inductive hM where
 | I|B|N|S|T (ss:List hM)|L (s:hM)
mutual
def has:hM->D->Bool
 | .I,.int _=>true
 | .B,.bl _=>true
 | .N,.non=>true
 | .S,.str _=>true
 | .T ss,.tup xs=>hass ss xs
 | .L s,.lst xs=>xs.all fun x=>has s x
 | _,_=>false
def hass:List hM->List D->Bool
 | [],[]=>true
 | s::ss,x::xs=>has s x&&hass ss xs
 | _,_=>false
end
mutual
def dep:hM->Nat
 | .T ss=>deps ss+1
 | .L s=>dep s+1
 | _=>0
def deps:List hM->Nat
 | []=>0
 | s::ss=>max (dep s) (deps ss)
end
noncomputable def eqD(x y:D):Bool :=@decide (x=y) (aa0 _)
theorem zO{x y:D}:eqD x y=true↔x=y:=by unfold eqD;exact @decide_eq_true_iff _ (aa0 _)
theorem mv(x:D):eqD x x=true:=zO.mpr rfl
theorem mw{x y:D}{b:Bool}(h:b=true↔x=y):eqD x y=b:=by
 rw[acn,zO,h]
section
variable{K:PySem.W.Frag}{B:ao}
theorem has_int{x:D}(h:has .I x=true):∃i,x=.int i:=by cases x<;>first|exact⟨_,rfl⟩|(simp[has]at h)
theorem vi{x:D}(h:has .B x=true):∃i,x=.bl i:=by cases x<;>first|exact⟨_,rfl⟩|(simp[has]at h)
theorem vj{x:D}(h:has .N x=true):x=.non:=by cases x<;>first|rfl|(simp[has]at h)
theorem has_str{x:D}(h:has .S x=true):∃i,x=.str i:=by cases x<;>first|exact⟨_,rfl⟩|(simp[has]at h)
theorem vk{x:D}{ss:List hM}(h:has (.T ss) x=true):∃xs,x=.tup xs/\hass ss xs=true:=by
 cases x<;>first|exact⟨_,rfl,by simpa[has]using h⟩|(simp[has]at h)
theorem vl{x:D}{s:hM}(h:has (.L s) x=true):∃xs,x=.lst xs/\∀y∈xs,has s y=true:=by
 cases x<;>first|exact⟨_,rfl,by simpa[has]using h⟩|(simp[has]at h)
theorem r2:∀{ss:List hM}{xs:List D},hass ss xs=true->xs.length=ss.length
 | [],[],_=>rfl
 | [],_::_,h=>by simp[hass]at h
 | _::_,[],h=>by simp[hass]at h
 | s::ss,x::xs,h=>by
  simp[hass]at h;simp[r2 h.2]
mutual
theorem oZ:∀(sh:hM){x y:D}{v:V},has sh x=true->has sh y=true->Rep K B v x->Rep K B v y->x=y
 | .I,x,y,v,aa,ab,au,aG=>by
  obtain⟨i,rfl⟩:=has_int aa;obtain⟨j,rfl⟩:=has_int ab
  have e:=au.intV.symm.trans aG.intV
  cases e;rfl
 | .B,x,y,v,aa,ab,au,aG=>by
  obtain⟨i,rfl⟩:=vi aa;obtain⟨j,rfl⟩:=vi ab
  have e:=au.blV.symm.trans aG.blV
  cases e;rfl
 | .N,x,y,v,aa,ab,au,aG=>by rw[vj aa,vj ab]
 | .S,x,y,v,aa,ab,au,aG=>by
  obtain⟨i,rfl⟩:=has_str aa;obtain⟨j,rfl⟩:=has_str ab
  cases au;cases aG;rfl
 | .T ss,x,y,v,aa,ab,au,aG=>by
  obtain⟨xs,rfl,aW⟩:=vk aa;obtain⟨ys,rfl,bS⟩:=vk ab
  obtain⟨a,vs,rfl,ay,jP⟩:=au.tupV
  obtain⟨b,ws,e,af,rb⟩:=aG.tupV
  cases e
  rw[ay]at af;cases af
  rw[reps_fn ss aW bS jP rb]
 | .L s,x,y,v,aa,ab,au,aG=>by
  obtain⟨xs,rfl,aW⟩:=vl aa;obtain⟨ys,rfl,bS⟩:=vl ab
  obtain⟨a,vs,rfl,ay,jP⟩:=au.lstV
  obtain⟨b,ws,e,af,rb⟩:=aG.lstV
  cases e
  rw[ay]at af;cases af
  have:xs=ys:=by
   apply abc
   intro i
   cases zP:xs[i]? with
   | none =>
    have:ys[i]?=none:=by
     have aa:=jP.length
     have ab:=rb.length
     have aK:=acY.mp zP
     exact acY.mpr (by omega)
    rw[this]
   | some d =>
    obtain⟨v,ev,cb⟩:=jP.get zP
    obtain⟨d',gd,iv⟩:=rb.getV ev
    rw[gd,oZ s (aW d (aag zP)) (bS d' (aag gd)) cb iv]
  rw[this]
theorem reps_fn:∀(ss:List hM){xs ys:List D}{vs:List V},hass ss xs=true->hass ss ys=true->Reps K B vs xs->Reps K B vs ys->xs=ys
 | [],xs,ys,vs,aa,ab,au,aG=>by
  have ai:=r2 aa;have av:=r2 ab
  rw[aaQ]at ai av
  rw[acZ ai,acZ av]
 | s::ss,[],ys,vs,aa,ab,au,aG=>by simp[hass]at aa
 | s::ss,x::xs,[],vs,aa,ab,au,aG=>by simp[hass]at ab
 | s::ss,x::xs,y::ys,vs,aa,ab,au,aG=>by
  simp[hass]at aa ab
  cases au with
  | cons a1 a9=>cases aG with
   | cons a2 ba=>rw[oZ s aa.1 ab.1 a1 a2,reps_fn ss aa.2 ab.2 a9 ba]
end
end
section
variable{X:aM}{pins:List (Addr×Obj)}{σ:St}{H B:ao}{s:Shared}
theorem En{xs ys:List D}{n:Nat}{e:Nat->Bool}(aN:n=xs.length)(aj:xs.length=ys.length)(he:∀j,j<n->(e j=true↔xs[j]?=ys[j]?)):((ZX n).all e)=true↔xs=ys:=by
 rw[ac0];constructor
 ·intro h;apply abc;intro i;by_cases aB:i<n
  ·exact(he i aB).mp (h i (aar.mpr aB))
  ·rw[Z' (by omega),Z' (by omega)]
 ·rintro rfl j bZ;exact(he j (aar.mp bZ)).mpr rfl
noncomputable def ky(xs ys:List D)(j:Nat):Bool :=@decide (xs[j]?=ys[j]?) (aa0 _)
theorem r3{xs ys:List D}{j:Nat}:ky xs ys j=true↔xs[j]?=ys[j]?:=by unfold ky;exact @decide_eq_true_iff _ (aa0 _)
theorem Eo{xs ys:List D}{j:Nat}{x y:D}(aa:xs[j]?=some x)(ab:ys[j]?=some y):ky xs ys j=eqD x y:=by
 rw[acn,r3,zO,aa,ab];constructor
 ·intro h;exact ZH h
 ·intro h;rw[h]
structure Nv (A:Around) (s:Shared) (u w:Value) (x y:D):Prop where
 rc:SeqAt.RcAt A s u w (eqD x y)
 ne:SeqAt.RcNeAt A s u w (!eqD x y)
 eq:SeqAt.EqAt A s u w (eqD x y)
mutual
theorem r4(I:Inv X pins σ H s)(sB:cm B H):∀(sh:hM){A:Around}{x y:D}{v w:V}{u ek:Value},has sh x=true->has sh y=true->Rep X.K B v x->Rep X.K B w y->RelV v u->RelV w ek->A.units+dep sh<cLine->Nv A s u ek x y
 | .I,A,x,y,v,w,u,ek,aa,ab,au,aG,bx,bB,bF=>by
  obtain⟨i,rfl⟩:=has_int aa;obtain⟨j,rfl⟩:=has_int ab
  cases au.intV;cases aG.intV
  obtain⟨t,rfl⟩:=bx;obtain⟨t',rfl⟩:=bB
  have e:eqD (.int i) (.int j)=(i==j):=mw (by simp)
  refine⟨?_,?_,?_⟩<;>rw[e]
  ·exact SeqAt.RcAt.int_int i t j t'
  ·exact SeqAt.RcNeAt.int_int i t j t'
  ·exact SeqAt.EqAt.int_int i t j t'
 | .B,A,x,y,v,w,u,ek,aa,ab,au,aG,bx,bB,bF=>by
  obtain⟨i,rfl⟩:=vi aa;obtain⟨j,rfl⟩:=vi ab
  cases au.blV;cases aG.blV
  cases bx;cases bB
  have e:eqD (.bl i) (.bl j)=(i==j):=mw (by simp)
  refine⟨?_,?_,?_⟩<;>rw[e]
  ·exact SeqAt.RcAt.bool_bool i j
  ·exact SeqAt.RcNeAt.bool_bool i j
  ·exact SeqAt.EqAt.bool_bool i j
 | .N,A,x,y,v,w,u,ek,aa,ab,au,aG,bx,bB,bF=>by
  cases vj aa;cases vj ab
  cases au.nonV;cases aG.nonV
  cases bx;cases bB
  have e:eqD .non .non=true:=mv _
  refine⟨?_,?_,?_⟩<;>rw[e]
  ·exact SeqAt.RcAt.none_none
  ·exact SeqAt.RcNeAt.none_none
  ·exact SeqAt.EqAt.same _
 | .S,A,x,y,v,w,u,ek,aa,ab,au,aG,bx,bB,bF=>by
  obtain⟨i,rfl⟩:=has_str aa;obtain⟨j,rfl⟩:=has_str ab
  cases au;cases aG
  obtain⟨t,rfl⟩:=bx;obtain⟨t',rfl⟩:=bB
  have e:eqD (.str i) (.str j)=(i==j):=mw (by simp)
  refine⟨?_,?_,?_⟩<;>rw[e]
  ·exact SeqAt.RcAt.str_str i t j t'
  ·exact SeqAt.RcNeAt.str_str i t j t'
  ·exact SeqAt.EqAt.str_str i t j t'
 | .T ss,A,x,y,v,w,u,ek,aa,ab,au,aG,bx,bB,bF=>by
  have vm:=au
  have vn:=aG
  obtain⟨xs,rfl,aW⟩:=vk aa;obtain⟨ys,rfl,bS⟩:=vk ab
  obtain⟨a,vs,rfl,ay,jP⟩:=au.tupV
  obtain⟨b,ws,rfl,af,rb⟩:=aG.tupV
  cases bx;cases bB
  obtain⟨its,bU,t1,_⟩:=I.tuple (en.of (sB _ _ ay))
  obtain⟨fT,cn,cE,_⟩:=I.tuple (en.of (sB _ _ af))
  have bN:dep (.T ss)=deps ss+1:=by simp[dep]
  have Ep:=r2 aW
  have YS:=r2 bS
  have z1:=jP.length;have aT:=rb.length;have fk:=bU.length;have eW:=cn.length
  have o1:=eqs_sh I sB ss (A:=A.in1) aW bS jP rb bU cn (by show A.units+1+deps ss<cLine;omega)
  have he:∀j (aa:j<its.toArray.size) (ab:j<fT.toArray.size),SeqAt.EqAt A.in1 s its.toArray[j] fT.toArray[j] (ky xs ys j):=fun j g1 g2=>by
   have:=o1 j (by simpa using g1) (by simpa using g2)
   simpa using this
  have e:eqD (.tup xs) (.tup ys)=((ZX (min its.toArray.size fT.toArray.size)).all (ky xs ys)&&its.toArray.size==fT.toArray.size):=by
   refine mw ?_
   have s1:its.toArray.size=xs.length:=by simp;omega
   have s2:fT.toArray.size=xs.length:=by simp;omega
   rw[s1,s2,Nat.min_self,aaY]
   have:=En (xs:=xs) (ys:=ys) (n:=xs.length) (e:=ky xs ys) rfl (by omega) (fun j _=>r3)
   constructor
   ·intro h;rw[this.mp h.1]
   ·intro h;cases h;exact⟨this.mpr rfl,by simp⟩
  have rc:SeqAt.RcAt A s (.ref a) (.ref b) (eqD (.tup xs) (.tup ys)):=by rw[e];exact SeqAt.RcAt.tuples t1 cE (by omega) he
  refine⟨rc,by rw[e];exact SeqAt.RcNeAt.tuples t1 cE (by omega) he,?_⟩
  by_cases hs:a=b
  ·subst hs
   have:=oZ (.T ss) aa ab vm vn
   rw[this,mv]
   exact SeqAt.EqAt.same _
  ·exact SeqAt.EqAt.of_refs hs rc
 | .L sh,A,x,y,v,w,u,ek,aa,ab,au,aG,bx,bB,bF=>by
  have vm:=au
  have vn:=aG
  obtain⟨xs,rfl,aW⟩:=vl aa;obtain⟨ys,rfl,bS⟩:=vl ab
  obtain⟨a,vs,rfl,ay,jP⟩:=au.lstV
  obtain⟨b,ws,rfl,af,rb⟩:=aG.lstV
  cases bx;cases bB
  obtain⟨its,bU,cN,_⟩:=I.list (cJ.of (sB _ _ ay))
  obtain⟨fT,cn,c2,_⟩:=I.list (cJ.of (sB _ _ af))
  have t1:=cN.isList
  have cE:=c2.isList
  have bN:dep (.L sh)=dep sh+1:=by simp[dep]
  have z1:=jP.length;have aT:=rb.length;have fk:=bU.length;have eW:=cn.length
  have he:∀j (aa:j<its.toArray.size) (ab:j<fT.toArray.size),SeqAt.EqAt A.in1 s its.toArray[j] fT.toArray[j] (ky xs ys j):=fun j g1 g2=>by
   have Nw:j<its.length:=by simpa using g1
   have Nx:j<fT.length:=by simpa using g2
   obtain⟨v1,ai,Ny⟩:=bU.getR (ZT Nw)
   obtain⟨v2,av,Nz⟩:=cn.getR (ZT Nx)
   obtain⟨aF,f1,NA⟩:=jP.getV ai
   obtain⟨aH,f2,NB⟩:=rb.getV av
   rw[Eo f1 f2]
   have:=(r4 I sB sh (A:=A.in1) (aW aF (aag f1)) (bS aH (aag f2)) NA NB Ny Nz (by show A.units+1+dep sh<cLine;omega)).eq
   simpa using this
  by_cases je:its.toArray.size=fT.toArray.size
  ·have s1:its.toArray.size=xs.length:=by simp;omega
   have s2:xs.length=ys.length:=by simp at je;omega
   have e:eqD (.lst xs) (.lst ys)=(ZX its.toArray.size).all (ky xs ys):=by
    refine mw ?_
    rw[En (xs:=xs) (ys:=ys) s1 s2 (fun j _=>r3)]
    constructor
    ·intro h;rw[h]
    ·intro h;cases h;rfl
   have rc:SeqAt.RcAt A s (.ref a) (.ref b) (eqD (.lst xs) (.lst ys)):=by rw[e];exact SeqAt.RcAt.lists t1 cE je (by omega) he
   refine⟨rc,by rw[e];exact SeqAt.RcNeAt.lists t1 cE je (by omega) he,?_⟩
   by_cases hs:a=b
   ·subst hs
    have:=oZ (.L sh) aa ab vm vn
    rw[this,mv]
    exact SeqAt.EqAt.same _
   ·exact SeqAt.EqAt.of_refs hs rc
  ·have e:eqD (.lst xs) (.lst ys)=false:=mw (by
    constructor
    ·intro h;cases h
    ·intro h;cases h;simp at je;omega)
   have jS:(its.toArray.size != fT.toArray.size)=true:=by simpa using je
   have rc:SeqAt.RcAt A s (.ref a) (.ref b) (eqD (.lst xs) (.lst ys)):=by rw[e];exact SeqAt.RcAt.lists_lengths t1 cE jS (by omega)
   refine⟨rc,by rw[e];exact SeqAt.RcNeAt.lists_lengths t1 cE jS (by omega),?_⟩
   refine SeqAt.EqAt.of_refs (fun hs=>?_) rc
   subst hs
   have:=oZ (.L sh) aa ab vm vn
   cases this
   simp at je;omega
theorem eqs_sh(I:Inv X pins σ H s)(sB:cm B H):∀(ss:List hM){A:Around}{xs ys:List D}{vs ws:List V}{us jn:List Value},hass ss xs=true->hass ss ys=true->Reps X.K B vs xs->Reps X.K B ws ys->Vals vs us->Vals ws jn->A.units+deps ss<cLine ->
  ∀j (aa:j<us.length) (ab:j<jn.length),SeqAt.EqAt A s us[j] jn[j] (ky xs ys j)
 | [],A,[],ys,_,_,_,_,aa,ab,.nil,aG,.nil,bB,bF,j,g1,g2=>absurd g1 (by simp)
 | [],A,x::xs,ys,_,_,_,_,aa,ab,au,aG,bx,bB,bF,j,g1,g2=>by simp[hass]at aa
 | s::ss,A,[],ys,vs,ws,us,jn,aa,ab,au,aG,bx,bB,bF,j,g1,g2=>by simp[hass]at aa
 | s::ss,A,x::xs,[],vs,ws,us,jn,aa,ab,au,aG,bx,bB,bF,j,g1,g2=>by simp[hass]at ab
 | s::ss,A,x::xs,y::ys,v::vs,w::ws,u::us,ek::jn,aa,ab,.cons a1 a9,.cons a2 ba,.cons aF bN,.cons aH b1,bF,0,g1,g2=>by
  have o2:has s x=true:=by simp[hass]at aa;exact aa.1
  have o3:has s y=true:=by simp[hass]at ab;exact ab.1
  have h4:deps (s::ss)=max (dep s) (deps ss):=by simp[deps]
  have:=(r4 I sB s (A:=A) o2 o3 a1 a2 aF aH (by omega)).eq
  rw[Eo (xs:=x::xs) (ys:=y::ys) (j:=0) rfl rfl]
  exact this
 | s::ss,A,x::xs,y::ys,v::vs,w::ws,u::us,ek::jn,aa,ab,.cons a1 a9,.cons a2 ba,.cons aF bN,.cons aH b1,bF,j+1,g1,g2=>by
  have o2:hass ss xs=true:=by simp[hass]at aa;exact aa.2
  have o3:hass ss ys=true:=by simp[hass]at ab;exact ab.2
  have h4:deps (s::ss)=max (dep s) (deps ss):=by simp[deps]
  have:=eqs_sh I sB ss (A:=A) o2 o3 a9 ba bN b1 (by omega) j (by simpa using g1) (by simpa using g2)
  have e:ky (x::xs) (y::ys) (j+1)=ky xs ys j:=by
   rw[acn,r3,r3];simp
  rw[e]
  exact this
end
def zQ(K:PySem.W.Frag)(ng:Bool):e5:=fun x y H Q=>∃B d e sh,Rep K B x d/\Rep K B y e/\cm B H/\has sh d=true/\has sh e=true/\dep sh<=50/\Q (.bl (if ng then !eqD d e else eqD d e)) H
theorem Er(bF:X.A.units+64<cLine):fJ X (compareOp .Eq) (zQ X.K false):=by
 intro pins s σ H x y v u Q I bg cu h;obtain⟨B,d,e,sh,au,aG,sB,aa,ab,hd,q⟩:=h;exact(r4 I sB sh (A:=X.A) aa ab au aG bg cu (by omega)).rc _ _ _ _ ⟨.bl _,H,I,rfl,q⟩
theorem NC(bF:X.A.units+64<cLine):fJ X (compareOp .NotEq) (zQ X.K true):=by
 intro pins s σ H x y v u Q I bg cu h;obtain⟨B,d,e,sh,au,aG,sB,aa,ab,hd,q⟩:=h;exact(r4 I sB sh (A:=X.A) aa ab au aG bg cu (by omega)).ne _ _ _ _ ⟨.bl _,H,I,rfl,q⟩
def zR(K:PySem.W.Frag)(ng:Bool):e5:=fun x y H Q=>∃B d es sh,Rep K B x d/\(Rep K B y (.lst es)∨Rep K B y (.tup es))/\cm B H/\has sh d=true/\(∀e∈es,has sh e=true)/\dep sh<=50/\∀b:Bool,(b=true↔d∈es)->Q (.bl (if ng then !b else b)) H
noncomputable def kz(K:PySem.W.Frag)(B:ao)(sh:hM)(d:D)(u:Value):Bool :=@decide (∃v,RelV v u/\Rep K B v d) (aa0 _)
theorem zS{K:PySem.W.Frag}{sh:hM}{d:D}{u:Value}:kz K B sh d u=true↔∃v,RelV v u/\Rep K B v d:=by unfold kz;exact @decide_eq_true_iff _ (aa0 _)
theorem Es{v w:V}{u:Value}(aa:RelV v u)(ab:RelV w u):v=w:=by
 cases v<;>cases w<;>simp only[RelV]at aa ab<;>first
  | rfl
  | (obtain⟨t,rfl⟩:=aa;obtain⟨t',e⟩:=ab;cases e;rfl)
  | (obtain⟨t,rfl⟩:=aa;obtain⟨t',e⟩:=ab;cases e;done)
  | (obtain⟨t,rfl⟩:=aa;cases ab;done)
  | (obtain⟨t,rfl⟩:=ab;cases aa;done)
  | (subst aa;cases ab;rfl)
  | (subst aa;cases ab;done)
theorem vo{K:PySem.W.Frag}{sh:hM}{d:D}{vs:List V}{es:List D}{its:List Value}(aa:has sh d=true)(ab:∀e∈es,has sh e=true)(r:Reps K B vs es)(l:Vals vs its):its.toArray.any (kz K B sh d)=true↔d∈es:=by
 rw[show its.toArray.any (kz K B sh d)=its.any (kz K B sh d) by simp,List.any_eq_true];constructor
 ·rintro⟨u,bF,z⟩;obtain⟨v,lv,cb⟩:=zS.mp z;obtain⟨j,bZ⟩:=aaO bF;obtain⟨w,ho,lw⟩:=l.getR bZ;cases Es lv lw;obtain⟨e,kA,re⟩:=r.getV ho;have ik:=aag kA;rw[oZ sh aa (ab e ik) cb re];exact ik
 ·intro m;obtain⟨j,bZ⟩:=aaO m;obtain⟨v,ev,cb⟩:=r.get bZ;obtain⟨u,ND,r5⟩:=l.get ev;exact⟨u,aag ND,zS.mpr ⟨v,r5,cb⟩⟩
theorem vp(I:Inv X pins σ H s)(sB:cm B H){A:Around}{sh:hM}{d:D}{vs:List V}{es:List D}{its:List Value}{x:V}{v:Value}(aa:has sh d=true)(ab:∀e∈es,has sh e=true)(bg:Rep X.K B x d)(Ep:RelV x v)(r:Reps X.K B vs es)(l:Vals vs its)(bF:A.units+dep sh<cLine):∀y,y∈its.toArray->SeqAt.EqAt A s y v (kz X.K B sh d y):=fun y a6=>by
 obtain⟨j,bZ⟩:=aaO (show y∈its by simpa using a6);obtain⟨w,ho,lw⟩:=l.getR bZ;obtain⟨e,kA,re⟩:=r.getV ho;have he:=ab e (aag kA);have q:=(r4 I sB sh (A:=A) he aa re bg lw Ep bF).eq
 have z:eqD e d=kz X.K B sh d y:=mw (by
  rw[zS];constructor
  ·rintro⟨rB,g5,d0⟩;cases Es g5 lw;exact oZ sh he aa re d0
  ·rintro rfl
   exact⟨w,lw,re⟩)
 rw[<-z];exact q
theorem NF(bF:X.A.units+64<cLine):fJ X (compareOp .In) (zR X.K false):=by
 intro pins s σ H x y v u Q I bg cu h;obtain⟨B,d,es,sh,au,aG,sB,aa,ab,hd,q⟩:=h;rcases aG with aG|aG
 ·obtain⟨a,vs,rfl,ay,rs⟩:=aG.lstV;cases cu;obtain⟨its,bU,cN,_⟩:=I.list (cJ.of (sB _ _ ay));exact SeqAt.in_listAt (kz X.K B sh d) cN.isList (vp I sB (A:=X.A.in1) aa ab au bg rs bU (by show X.A.units+1+_<cLine;omega)) ⟨.bl _,H,I,rfl,q _ (vo aa ab rs bU)⟩
 ·obtain⟨a,vs,rfl,ay,rs⟩:=aG.tupV;cases cu;obtain⟨its,bU,cN,_⟩:=I.tuple (en.of (sB _ _ ay));exact SeqAt.in_tupleAt (kz X.K B sh d) cN (vp I sB (A:=X.A.in1) aa ab au bg rs bU (by show X.A.units+1+_<cLine;omega)) ⟨.bl _,H,I,rfl,q _ (vo aa ab rs bU)⟩
theorem NG(bF:X.A.units+64<cLine):fJ X (compareOp .NotIn) (zR X.K true):=by
 intro pins s σ H x y v u Q I bg cu h;obtain⟨B,d,es,sh,au,aG,sB,aa,ab,hd,q⟩:=h;rcases aG with aG|aG
 ·obtain⟨a,vs,rfl,ay,rs⟩:=aG.lstV;cases cu;obtain⟨its,bU,cN,_⟩:=I.list (cJ.of (sB _ _ ay));exact SeqAt.notIn_listAt (kz X.K B sh d) cN.isList (vp I sB (A:=X.A.in1) aa ab au bg rs bU (by show X.A.units+1+_<cLine;omega)) ⟨.bl _,H,I,rfl,q _ (vo aa ab rs bU)⟩
 ·obtain⟨a,vs,rfl,ay,rs⟩:=aG.tupV;cases cu;obtain⟨its,bU,cN,_⟩:=I.tuple (en.of (sB _ _ ay));exact SeqAt.notIn_tupleAt (kz X.K B sh d) cN (vp I sB (A:=X.A.in1) aa ab au bg rs bU (by show X.A.units+1+_<cLine;omega)) ⟨.bl _,H,I,rfl,q _ (vo aa ab rs bU)⟩
end
section
variable{K:PySem.W.Frag}{X:aM}{a b:Expr}{bH bW:a5}{pos:Pos}
def r6(ng:Bool)(bH bW:a5):a5:=fun ρ k=>bH ρ fun x=>bW ρ fun y=>∃sh,has sh x=true/\has sh y=true/\dep sh<=50/\k (.bl (if ng then !eqD x y else eqD x y))
def zT(ng:Bool)(bH bW:a5):a5:=fun ρ k=>bH ρ fun x=>bW ρ fun y=>∃sh es,(y=.lst es∨y=.tup es)/\has sh x=true/\(∀e∈es,has sh e=true)/\dep sh<=50/\∀b:Bool,(b=true↔x∈es)->k (.bl (if ng then !b else b))
theorem zU{bT tb:TE}{ng:Bool}(ay:eL K bT bH)(af:eL K tb bW):eL K (mc (zQ K ng) bT tb) (r6 ng bH bW):=
 qm ay af fun x y k h R W B H σ ρ v w Q e bg cu q=>by
  obtain⟨sh,aa,ab,hd,ah⟩:=h;exact⟨B,x,y,sh,bg,cu,e.bh,aa,ab,hd,q _ _ B H ah e (bM.refl _ _) (.bl _)⟩
theorem Et{bT tb:TE}{ng:Bool}(ay:eL K bT bH)(af:eL K tb bW):eL K (mc (zR K ng) bT tb) (zT ng bH bW):=
 qm ay af fun x y k h R W B H σ ρ v w Q e bg cu q=>by
  obtain⟨sh,es,a6,aa,ab,hd,ah⟩:=h;refine⟨B,x,es,sh,bg,?_,e.bh,aa,ab,hd,fun b af=>q _ _ B H (ah b af) e (bM.refl _ _) (.bl _)⟩;rcases a6 with rfl|rfl
  ·exact .inl cu
  ·exact .inr cu
theorem Eu(bF:X.A.units+64<cLine)(ay:bq X a bH)(af:bq X b bW)(hm:behindInMarks .Eq b=false):bq X (.Compare a [.Eq] [b] pos) (r6 false bH bW):=by
 obtain⟨_,aa,au⟩:=ay;obtain⟨_,ab,aG⟩:=af;exact⟨_,uL (Er bF) aa ab hm,zU au aG⟩
theorem NH(bF:X.A.units+64<cLine)(ay:bq X a bH)(af:bq X b bW)(hm:behindInMarks .NotEq b=false):bq X (.Compare a [.NotEq] [b] pos) (r6 true bH bW):=by
 obtain⟨_,aa,au⟩:=ay;obtain⟨_,ab,aG⟩:=af;exact⟨_,uL (NC bF) aa ab hm,zU au aG⟩
theorem zV(bF:X.A.units+64<cLine)(ay:bq X a bH)(af:bq X b bW)(hm:behindInMarks .Eq b=false):h2 X (.Compare a [.Eq] [b] pos) (qn (r6 false bH bW)):=by
 obtain⟨_,aa,au⟩:=ay;obtain⟨_,ab,aG⟩:=af;exact⟨_,qa (Er bF) aa ab hm,u' (zU au aG)⟩
theorem Ew(bF:X.A.units+64<cLine)(ay:bq X a bH)(af:bq X b bW)(hm:behindInMarks .NotIn b=false):bq X (.Compare a [.NotIn] [b] pos) (zT true bH bW):=by
 obtain⟨_,aa,au⟩:=ay;obtain⟨_,ab,aG⟩:=af;exact⟨_,uL (NG bF) aa ab hm,Et au aG⟩
theorem Ex(bF:X.A.units+64<cLine)(ay:bq X a bH)(af:bq X b bW)(hm:behindInMarks .In b=false):h2 X (.Compare a [.In] [b] pos) (qn (zT false bH bW)):=by
 obtain⟨_,aa,au⟩:=ay;obtain⟨_,ab,aG⟩:=af;exact⟨_,qa (NF bF) aa ab hm,u' (Et au aG)⟩
end
end L3
namespace L3
open PySem L2
open PySem.Builtin.Int (intBits)
theorem NI{K:PySem.W.Frag}{P:Program}{w:World}{mg:Str->Option Value}{base:Heap}{x qual:Str}{st:Stmt}{f:Addr}{fd:FuncData}{N ps:List Str}{lv n:Nat}{F:FS}(oX:lq K x qual st f fd)(S:cK N ps (b4 st))(aN:ps.length=n)(jd:∀(cdv:Value) (A:Around) (outer:List abd) (s:Shared) (H:ao) (E:fB),eA lv (A.deeper (abP qual (b4 st) s.heap.objs.size f cdv))->∃u,gM (kl jg P w K mg base N qual (b4 st) f cdv A outer s H E).nox (kn st) u/\∀as k,as.length=n->F as k->u { nx:=fun _=>k (.val .non),rt:=k } (as++ZI (N.length-n) .no)):iO P w K mg base jg (lv+1) f fd ps (aL K n F):=by
 refine oX.ok S (fun vs H Q E h=>?_) (fun cdv A outer s H vs Q E ak h=>?_)
 ·obtain⟨W,B,as,k,_,aj,_,_,_,d4,_⟩:=h;rw[d4.length,aj,aN]
 ·obtain⟨W,B,as,k,jl,aj,af,sB,hw,d4,q⟩:=h;obtain⟨u,⟨t,bt,rt⟩,bF⟩:=jd cdv A outer s H E ak;have ev:=Ev.start (N:=N) (acm af) sB hw d4;rw[aj]at ev;refine⟨t,bt,rt _ _ (bF as k aj jl) H W B H (L2.start N vs) _ ev ⟨fun ρ σ ax H' h e g=>?_,fun _ _ _ _ h=>h.elim,fun _ _ _ _ h=>h.elim,fun r v ax H' h e g z=>q r v ax H' h ⟨e,g,z⟩⟩⟩;exact q _ _ ax H' h ⟨e.toWd,g,.non⟩
def vq(K:PySem.W.Frag):gH:=fun vs H Q _=>∃(a:Addr)(ns:List Int),vs=[.ref a]/\cJ K H a (ns.map V.int)/\ns.length<=63/\∀H',Q (.bl true) H'
def Ey:FS:=fun as k=>∃ns:List Int,as=[.val (.scr ns)]/\ns.length<=63/\k (.val (.bl true))
theorem NJ{K:PySem.W.Frag}{vs:List V}{H:ao}{Q:cO}{E:fB}(h:vq K vs H Q E):aL K 1 Ey vs H Q E:=by
 obtain⟨a,ns,rfl,cp,aj,q⟩:=h;refine⟨fun _=>False,H,[.val (.scr ns)],fun r=>r=.val (.bl true),⟨ns,rfl,aj,rfl⟩,rfl,rfl,cm.refl _,fun _ z=>z.elim,.val (.scr cp) .nil,fun r v ax H' ak ex=>?_⟩;subst ak;have:=ex.res;rw[Rep.blV this];exact q H'
def Ez(K:PySem.W.Frag):gH:=fun vs H Q _=>∃(a:Addr)(k:Int)(ns:List Int),vs=[.ref a,.int k]/\cJ K H a (ns.map V.int)/\0<=k/\∀z,Q (.int z) H
def zW:FS:=fun as k=>∃(ns:List Int)(i:Int),as=[.val (.scr ns),.val (.int i)]/\0<=i/\∀z:Int,k (.val (.int z))
theorem Wd.entry{H B:ao}{W:Addr->Prop}(sB:cm B H)(hw:∀a,W a->B a=none/\gv H a):Wd H W B H :=
 ⟨fun _ _ h _=>h,sB,fun a h=>(hw a h).1,fun a h=>(hw a h).2,fun a h=>by obtain⟨x,y,q,_⟩:=(hw a h).2;rw[q];simp⟩
theorem NK{K:PySem.W.Frag}{vs:List V}{H:ao}{Q:cO}{E:fB}(h:aL K 2 zW vs H Q E):Ez K vs H Q E:=by
 obtain⟨W,B,as,k,⟨ns,i,rfl,aB,ah⟩,aj,af,sB,hw,d4,q⟩:=h;cases d4 with
 | val au d4=>cases d4 with
  | val aG d4 =>
   cases d4;obtain⟨a,rfl,ay⟩:=au.scrV;cases aG.intV;exact⟨a,i,ns,rfl,sB.seq ay,aB,fun z=>q _ _ B H (ah z) ⟨Wd.entry sB hw,bM.refl _ _,.int z⟩⟩
def EA:gH:=fun vs H Q _=>∃c:Int,vs=[.int c]/\∀(b:Addr)(x y:Int),H b=none->0<=x->0<=y->y<2147483647->Q (.ref b) (upd H b (.lst [.int x,.int y]))
def zX:FS:=fun as k=>∃c:Int,as=[.val (.int c)]/\k .bag
theorem NL{K:PySem.W.Frag}{vs:List V}{H:ao}{Q:cO}{E:fB}(h:aL K 1 zX vs H Q E):EA vs H Q E:=by
 obtain⟨W,B,as,k,⟨c,rfl,ah⟩,aj,af,sB,hw,d4,q⟩:=h;cases d4 with
 | val au d4 =>
  cases d4;cases au.intV;refine⟨c,rfl,fun b x y aN x0 bX bE=>?_⟩;have wd:=Wd.entry sB hw;exact q .bag _ B _ ah ⟨wd.allocH aN _,bM.refl _ _,b,rfl,aN,(wd.fresh aN).2.2,x,y,ei,x0,bX,bE⟩
def EB(lim:Nat):gH:=fun vs H Q _=>∃(b:Addr)(m:Int),vs=[.ref b,.int m]/\gv H b/\0<m/\intBits m<=lim/\∀(r:Int)(H':ao),Ext b H H'->gv H' b->0<=r->r<m->Q (.int r) H'
def qs(lim:Nat):FS:=fun as k=>∃m:Int,as=[.bag,.val (.int m)]/\0<m/\intBits m<=lim/\∀r:Int,0<=r->r<m->k (.val (.int r))
theorem NM{K:PySem.W.Frag}{lim:Nat}{vs:List V}{H:ao}{Q:cO}{E:fB}(h:aL K 2 (qs lim) vs H Q E):EB lim vs H Q E:=by
 obtain⟨W,B,as,k,⟨m,rfl,m0,gn,ah⟩,aj,af,sB,hw,d4,q⟩:=h;cases d4 with
 | bag g0 d4=>cases d4 with
  | val aG d4 =>
   cases d4;cases aG.intV
   rename_i b
   refine⟨b,m,rfl,(hw b g0).2,m0,gn,fun r H' ex hr gw au=>?_⟩;have wd:=Wd.entry sB hw;refine q _ _ B H' (ah r gw au) ⟨⟨fun a o aa ab=>ex a o (by rintro rfl;exact ab g0) aa,fun a o aa=>ex a o (by rintro rfl;rw[(hw _ g0).1]at aa;cases aa) (sB a o aa),wd.wb,fun a z=>?_,wd.wr⟩,bM.refl _ _,.int r⟩;by_cases e:a=b
   ·subst e;exact hr
   ·obtain⟨x,y,aa,ab⟩:=(hw a z).2;exact⟨x,y,ex a _ e aa,ab⟩
theorem qt{c:Bool}{A B:Prop}(h:c=true)(a:A):if c=true then A else B:=by rw[if_pos h];exact a
theorem qu{c:Bool}{A B:Prop}(h:c=false)(b:B):if c=true then A else B:=by rw[h,if_neg ZR];exact b
theorem cZ{u:cW}{U:il}{ρ r:List aI}(e:ρ=r)(h:u U r):u U ρ:=by rw[e];exact h
theorem mx{s t:cW}{U:il}{ρ:List aI}(first:∀N:List aI->Prop,N ρ->s { U with nx:=N } ρ)(rest:t U ρ):r0 s t U ρ:=first (t U) rest
theorem eF{s t:cW}{U:il}{ρ:List aI}(I:List aI->Prop)(rest:∀bu,I bu->t U bu)(first:∀N:List aI->Prop,(∀bu,I bu->N bu)->s { U with nx:=N } ρ):r0 s t U ρ:=first _ rest
end L3
namespace L3
open PySem L2
section
variable{X:aM}
theorem iw{cl cs:List (Str×Addr)}(h:∀p∈cl,cs.lookup p.1=some p.2):∀y c,cl.lookup y=some c->cs.lookup y=some c:=fun y c e=>h (y,c) (aaW e)
theorem iV{names:List (Str×NameKind)}{cl:List (Str×Addr)}(h:(names.all fun p => !(p.2==.cell||p.2==.free)||(cl.lookup p.1).isSome)=true):∀y,(names.lookup y=some .cell∨names.lookup y=some .free)->∃c,cl.lookup y=some c:=fun y e=>by
 have key:∀k:NameKind,(k==.cell||k==.free)=true->names.lookup y=some k->∃c,cl.lookup y=some c:=fun k ah e=>by
  have q:=ac0.mp h (y,k) (aaW e);have q:(!(k==.cell||k==.free)||(cl.lookup y).isSome)=true:=q;rw[ah]at q;exact acQ.mp (by simpa using q)
 rcases e with e|e
 ·exact key _ rfl e
 ·exact key _ rfl e
end
end L3
namespace L2
open PySem PySem.Spec PyProof.Rows
def nD(X:aM)(ifs:List Expr)(tt:TT):Prop:=∀(pins:List (Addr×Obj))(s:Shared)(σ:St)(H:ao)(Q:Bool->ao->Prop),Inv X pins σ H s->tt σ H Q ->
 wpAny (model X.prog X.w) X.A (forIn ifs true fun t r=>if r=true then do let z <-isTrue t X.env (eval t X.env);pure (abS z)else pure (abS r)) (uw X pins σ Q) X.xe s
def NN:TT:=fun _ H Q=>Q true H
theorem NO{X:aM}:nD X [] NN:=fun _ _ _ H _ I h=>wpAny_tests_nil ⟨H,I,h⟩
theorem NP{X:aM}{c:Expr}{tt:TT}(h:h9 X c tt):nD X [c] tt:=fun pins s σ H Q I q=>wpAny_tests_one (h pins s σ H Q I q)
theorem NQ{P:Program}{w:World}{A:Around}{R:Result->Shared->Prop}{s:Shared}{elt bG src:Expr}{ifs:List Expr}{sc:Scope}{ps:Pos}{m9 acc:Value}{env:abd}(r7:Nat->Shared->Prop)(n:Nat)(h0:r7 n s)(turn:∀n s,r7 n s->wpAny (model P w) A (pyNext m9) (fun r s1=>match r with
   | none=>R (.ok .next) s1
   | some v=>wpAny (model P w) A (letOwnedTupleGo bG m9 v) (fun _ sg=>wpAny (model P w) A (assign bG env v) (fun _ s2 =>
     wpAny (model P w) A (forIn ifs true fun t r=>if r=true then do let z <-isTrue t env (eval t env);pure (abS z)else pure (abS r)) (fun z s3 =>
      if z=true then wpAny (model P w) A (eval elt env) (fun y s4=>wpAny (model P w) A (call (.builtin "list.append") [acc,y]) (fun _ s5=>∃m,m<n/\r7 m s5) (notedBy (model P w) A env fun e s'=>R (.error e) s') s4) (notedBy (model P w) A env fun e s'=>R (.error e) s') s3
      else ∃m,m<n/\r7 m s3) (notedBy (model P w) A env fun e s'=>R (.error e) s') s2) (notedBy (model P w) A env fun e s'=>R (.error e) s') sg) (notedBy (model P w) A env fun e s'=>R (.error e) s') s1) (notedBy (model P w) A env fun e s'=>R (.error e) s') s):
  codeAny (model P w) A (.compLoop (.ListComp elt [⟨bG,src,ifs,0⟩] sc ps) 0 m9 acc env) R s:=by
 refine codeAny_loop rfl r7 (fun k s' aP=>?_) n h0;show wpAny _ A ((compTurn (.ListComp elt [⟨bG,src,ifs,0⟩] sc ps) 0 m9 acc env).onRaise (fun z=>do noteFrame z env;theTreesLotGoes z)) _ _ s';rw[compTurn_list];refine wpAny_noted (wpAny_bind (wpAny_standAt (wpAny_bind (wpAny_mono (turn k s' aP) (fun r s1 aa=>?_) fun _ _ z=>z))));cases r with
 | none=>exact wpAny_pure aa
 | some v =>
  refine wpAny_bind (wpAny_mono aa (fun _ sg aD=>wpAny_bind (wpAny_mono aD (fun _ s2 ab=>wpAny_bind (wpAny_mono ab (fun z s3 aK=>?_) fun _ _ q=>q)) fun _ _ q=>q)) fun _ _ q=>q);cases z with
  | false=>exact wpAny_pure ⟨rfl,aK⟩
  | true=>exact wpAny_bind (wpAny_bind (wpAny_mono aK (fun y s4 bo=>wpAny_bind (wpAny_mono bo (fun _ s5 df=>wpAny_pure (wpAny_pure ⟨rfl,df⟩)) fun _ _ q=>q)) fun _ _ q=>q))
def NR(J:hX)(g:gq)(tt:TT)(cD:TE)(NS:St)(D:Addr)(H1:ao)(Q:cO):Prop:=∃W:Nat->Nat->St->ao->Prop,(∃m,W 0 m NS (upd H1 D (.lst [])))/\∀i m σ H,W i m σ H ->
 (J.stop i H/\Q (.ref D) H)∨(J.go i H/\∀x H',J.yld i H x H'->g x σ H' fun p6 aZ=>tt p6 aZ fun b cP=>if b=true then cD p6 cP fun y kB=>∃ys,kB D=some (.lst ys)/\ys.length<sizeLine/\∃m',m'<m/\W (i+1) m' p6 (upd kB D (.lst (ys++[y])))else ∃m',m'<m/\W (i+1) m' p6 cP)
def qv(ft:TI)(g:gq)(tt:TT)(cD:TE)(dE:Nat)(js:List Nat):TE:=fun σ H Q=>ft σ H fun J H1=>∀D,H1 D=none->NR J g tt cD (ZI dE none++hp σ js) D H1 Q
section
variable{X:aM}
structure nE (X:aM) (scope:Scope) (cl:List (Str×Addr)) (fr:List Str) (js:List Nat):Prop where
 clos:closureFor scope X.env=pure cl
 cell:∀y∈scope.names,y.2≠.cell
 kind:scope.kind=.function
 names:∀y∈scope.names,y.2=.local->scope.names.lookup y.1=some .local
 sub:∀y c,cl.lookup y=some c->X.env.cells.lookup y=some c
 has:∀y,((relabel scope X.env).names.lookup y=some .cell∨(relabel scope X.env).names.lookup y=some .free)->∃c,cl.lookup y=some c
 frn:∀(i:Nat)(y:Str),fr[i]?=some y->∃j:Nat,js[i]?=some j/\X.N[j]?=some y/\X.env.kindOf y=some .cell/\((relabel scope X.env).names.lookup y=some .cell∨(relabel scope X.env).names.lookup y=some .free)/\∃c,cl.lookup y=some c
 len:js.length=fr.length
theorem EC{elt iter bG:Expr}{ifs:List Expr}{pos:Pos}{scope:Scope}{cl:List (Str×Addr)}{ts fr:List Str}{js:List Nat}{ft:TI}{g:gq}{tt:TT}{cD:TE}{use:Option (Value->Sem Unit)}{RQ:Value->Shared->Prop}{QE:cO}(aB:jG X bG iter ft)(aD:∀C s H ex,iK (dn X (ts++fr) scope cl C s H ex) bG g)(ix:∀C s H ex,nD (dn X (ts++fr) scope cl C s H ex) ifs tt)(iy:∀C s H ex,b0 (dn X (ts++fr) scope cl C s H ex) elt cD)(F:nE X scope cl fr js)(hc:X.calm=true)(aq:∀v,foldedSetIterable iter X.env v=pure v){pins:List (Addr×Obj)}{s:Shared}{σ:St}{H:ao}(I:Inv X pins σ H s)(h:qv ft g tt cD ts.length js σ H QE)(ED:Sem Value)(NT:ED=newList [])(pp:Pos)(EE:∀(D C:Addr) (fI:ao) (hY:Shared) (m:Str->Option Value),hY.heap.Ns C m->fI C=none->C≠X.env.locals->X.s₀.heap.objs.size<=C->(∀x c,X.env.cells.lookup x=some c->c≠C)->(∀p∈X.pn++pins,p.1≠C)->C∉X.fs->(∀h':Heap,(∀b u,b≠C->hY.heap.get? b=some u->h'.get? b=some u)->Inv X pins σ fI { hY with heap:=h' })->QE (.ref D) fI->compPost (model X.prog X.w) X.A X.xe use RQ (.ref D) C (.ok .next) hY):
  wpAny (model X.prog X.w) X.A (comprehension (.ListComp elt [⟨bG,iter,ifs,0⟩] scope pos) scope X.env pp ED false (eval iter X.env) use) RQ X.xe s:=by
 refine wpAny_comprehension_free (use:=use) rfl aq F.clos F.kind F.names (ck (aB pins s σ H _ I h) fun YT s1 aa=>ck aa fun m9 s2 ab=>?_);obtain⟨it,cB,hG,J,aZ,rfl,ec,T,oI,f2,ab⟩:=ab;have gJ:aZ s2.heap.objs.size=none:=ec.fresh;obtain⟨W,⟨m0,w0⟩,turn⟩:=ab _ gJ;rw[NT];refine wpAny_newObj_type ?_;have de:Inv X pins σ (upd aZ s2.heap.objs.size (.lst [])) { s2 with heap:=s2.heap.push { cls:=.type "list",data:=.seq ([]:List Value).toArray } }:=ec.lnew (t':=s2.toks) (its:=[]) .nil (by show 0<=sizeLine;decide);generalize qw:({ s2 with heap:=s2.heap.push { cls:=.type "list",data:=.seq ([]:List Value).toArray } }:Shared)=s3 at de;have bC:s3.heap=s2.heap.push { cls:=.type "list",data:=.seq ([]:List Value).toArray }:=by rw[<-qw]
 generalize EF:upd aZ s2.heap.objs.size (.lst [])=cP at de w0;generalize NU:s2.heap.objs.size=D at gJ EF w0 turn;have fN:∀b o,s2.heap.get? b=some o->s3.heap.get? b=some o:=fun b o e=>by rw[bC];exact Heap.get?_push_of_some _ e
 have bQ:∀b∈cB,jF X pins cP b:=fun b af=>by
  obtain⟨o,aE,_⟩:=T.obj _ _ oI b af;have lt:=Heap.lt_size aE;refine⟨?_,(f2 b af).2⟩;rw[<-EF,dM (by rw[<-NU];exact Z0 lt)];exact(f2 b af).1
 refine wpAny_newFunctionEnv F.cell (by intro y a6;simp at a6) (fun aa nj NV=>?_) F.kind;have NW:s3.heap.get? s3.heap.objs.size=none:=Heap.get?_none_of_le (YK _);have iu:∀b o,s3.heap.get? b=some o->aa.get? b=some o:=fun b o e=>NV.extBut b o (Z0 (Heap.lt_size e)) (Heap.get?_push_of_some _ e);show codeAny (model X.prog X.w) X.A (.compStart (.ListComp elt [⟨bG,iter,ifs,0⟩] scope pos) 0 (.ref it) (.ref D) (compEnvC scope cl s3.heap.objs.size X.env)) (compPost (model X.prog X.w) X.A X.xe use RQ (.ref D) s3.heap.objs.size) _
 have ok:(dn X (ts++fr) scope cl s3.heap.objs.size s3 cP cB).Ok:=by
  refine⟨de.ok.mod,F.kind,de.ok.glob,de.ok.blt,YK _,fun y z c ai av=>de.ok.inj y z c (F.sub _ _ ai) (F.sub _ _ av),fun y a6=>F.has y a6,fun y c z=>absurd z ZR,de.ok.hd,de.ok.frames,.inl rfl,fun b af=>?_,de.bs,Gg de.ok.bsz de.sz,
   fun b o e af=>?_,fun b af hf=>?_,de.stack,de.stkFree⟩
  ·obtain⟨o,aE,_⟩:=T.obj _ _ oI b af;exact⟨Z0 (Heap.lt_size (fN b o aE)),fun y c e=>(bQ b af).2.2.2.2.1 y c (F.sub _ _ e)⟩
  ·obtain⟨_,_,_,z,_⟩:=bQ b af;rcases z with z|z
   ·exact de.ok.noex b o e z
   ·exact absurd (Z7 (Heap.lt_size (de.ok.bs b o e).1) z) (aaC _)
  ·rcases ZA.mp (de.stkSub b hf)with z|z
   ·exact(bQ b af).2.1 z
   ·exact(bQ b af).2.2.1 z
 have NX:∀(et:Heap),(∀b u,s3.heap.get? b=some u->et.get? b=some u)->∀(i:Nat)(y:Str)(v:V),fr[i]?=some y->(hp σ js)[i]?=some (some v)->∃u,RelV v u/\∀m,Look (compEnvC scope cl s3.heap.objs.size X.env) et m y u:=fun et aY i y v ai av=>by
  obtain⟨j,NY,r8,ah,NZ,c,vr⟩:=F.frn i y ai
  have vt:σ[j]?=some (some v):=by
   unfold hp at av;rw[ZL,NY,abw]at av;have av:=ZH av;cases q:σ[j]? with
   | none=>rw[q]at av;simp at av
   | some z=>rw[q]at av;simpa using av
  obtain⟨m,aN,aj⟩:=de.loc;obtain⟨u,r,l⟩:=aj j y v r8 vt (.inr (.inl ah));refine⟨u,r,fun m'=>.inr ⟨NZ,c,vr,?_⟩⟩;rcases l with⟨z,_⟩|⟨_,eU,uv,N0⟩
  ·rw[ah]at z;cases z
  ·have e:=F.sub _ _ vr;rw[uv]at e;cases e;obtain⟨nF,aW,bS⟩:=N0;exact⟨nF,aY _ _ aW,bS⟩
 have m8:Inv (dn X (ts++fr) scope cl s3.heap.objs.size s3 cP cB) [] (ZI ts.length none++hp σ js) cP { s3 with heap:=aa,toks:=s3.toks+([]:List (Str×Value)).length }:=by
  refine⟨ok,rfl,de.bare,fq.kept iu,⟨_,nj,fun i y v ai av bC=>?_⟩,fun y c e=>?_,de.fresh,fun y c e=>de.freeC y c (F.sub _ _ e),fun p ag=>absurd (show p∈([]:List (Addr×Obj))from ag) (by simp),de.hok.kept iu,?_⟩
  ·by_cases cM:i<ts.length
   ·rw[aai (by simpa using cM),aaM,if_pos cM]at av;cases av
   ·have ai:(ts++fr)[i]?=some y:=ai;rw[aaf (by omega)]at ai;rw[aaf (by simp;omega),aaF]at av;obtain⟨u,r,l⟩:=NX aa iu _ y v ai av;exact⟨u,r,l _⟩
  ·obtain⟨v,nF,aW,bS⟩:=de.cell y c (F.sub _ _ e);exact⟨v,nF,iu _ _ aW,bS⟩
  ·show _=(ts++fr).length
   rw[Zg,Zg,aaF];unfold hp;rw[YL,F.len]
 have oJ:∀{H':ao},(∀b∈cB,H' b=none)->∀b∈cB,jF (dn X (ts++fr) scope cl s3.heap.objs.size s3 cP cB) [] H' b:=fun aN b af=>by
  obtain⟨o,aE,_⟩:=T.obj _ _ oI b af;exact⟨aN b af,(ok.exf b af).1,ok.exfs b af,.inl af,(ok.exf b af).2,fun p ag=>absurd (show p∈([]:List (Addr×Obj))from ag) (by simp)⟩
 have loop:∀s4:Shared,s4={ s3 with heap:=aa,toks:=s3.toks+([]:List (Str×Value)).length } ->
   codeAny (model X.prog X.w) X.A (.compLoop (.ListComp elt [⟨bG,iter,ifs,0⟩] scope pos) 0 (.ref it) (.ref D) (compEnvC scope cl s3.heap.objs.size X.env)) (compPost (model X.prog X.w) X.A X.xe use RQ (.ref D) s3.heap.objs.size) s4:=by
  intro s4 c6;rw[<-c6]at m8;have N1:hG 0 s4.heap:=T.keep _ _ _ oI fun b _ o e=>by rw[c6];exact iu b o (fN b o e)
  refine NQ (fun n s'=>∃i a' H',Inv (dn X (ts++fr) scope cl s3.heap.objs.size s3 cP cB) [] a' H' s'/\hG i s'.heap/\(∀b∈cB,H' b=none)/\W i n a' H') m0 ⟨0,_,cP,m8,N1,fun b af=>(bQ b af).1,w0⟩ ?_;rintro n s5 ⟨i,vu,fI,oH,p7,uH,N2⟩;rcases turn i n vu fI N2 with⟨stop,q⟩|⟨go,step⟩
  ·refine ck (T.done (dn X (ts++fr) scope cl s3.heap.objs.size s3 cP cB) rfl rfl rfl hc i [] s5 vu fI _ oH (oJ uH) p7 stop) fun r hY ⟨ak,jJ⟩=>?_;subst ak;obtain⟨m,aN,_⟩:=id jJ.loc;refine EE D s3.heap.objs.size fI hY m aN jJ.free (abF de.lt) de.sz (fun y c e z=>?_) (fun p ag z=>?_) (de.nofs (YK _)) (fun h' vv=>?_) q
   ·obtain⟨v,nF,aW,bS⟩:=de.cell y c e;exact absurd (Heap.lt_size aW) (by rw[z];exact aaC _)
   ·exact absurd (Heap.lt_size (de.pin p ag).1) (by rw[z];exact aaC _)
   ·refine de.call' (s':={ hY with heap:=h' }) (ch:=cB) jJ.os ((show fq (jD X.stack) cB cP fI s3.heap hY.heap from jJ.base).but NW vv) (jJ.hok.but jJ.free vv) jJ.bare (fun b af=>?_);obtain⟨_,z1,_,fk,eW,kC⟩:=bQ b af;exact⟨fk,z1,eW,kC⟩
  ·refine ck (T.item (dn X (ts++fr) scope cl s3.heap.objs.size s3 cP cB) rfl rfl rfl hc i [] s5 vu fI _ oH (oJ uH) p7 go) fun r hY ⟨u,ak,fl⟩=>?_;subst ak;refine ck fl fun _ mb ⟨v,iM,hZ,y0,N3,zY,N4⟩=>?_;have N5:=hZ.pinned (oJ N4) (T.obj _ _ zY)
   have back:∀{qx:Shared}{vw:St}{qy:ao}{n':Nat},Inv (dn X (ts++fr) scope cl s3.heap.objs.size s3 cP cB) ([]++rF cB mb.heap) vw qy qx->W (i+1) n' vw qy->∃i a' H',Inv (dn X (ts++fr) scope cl s3.heap.objs.size s3 cP cB) [] a' H' qx/\hG i qx.heap/\(∀b∈cB,H' b=none)/\W i n' a' H':=fun{qx vw qy n'} qz zZ=>by
    refine⟨i+1,vw,qy,qz.unpinned (pins:=[]),T.keep _ _ _ zY fun b af nF kA=>(qz.pin (b,nF) (Z9 _ (Z9 _ (uF af kA)))).1,fun b af=>?_,zZ⟩;obtain⟨nF,kA,_⟩:=T.obj _ _ zY b af;exact(qz.pin (b,nF) (Z9 _ (Z9 _ (uF af kA)))).2.1
   refine wpAny_mono (aD s3.heap.objs.size s3 cP cB _ mb vu iM v u _ N5 y0 (step v iM N3)) (fun _ N6 ⟨N7,N8,N9,r9⟩=>?_) (fun _ _ z=>z.elim);refine wpAny_mono (ix s3.heap.objs.size s3 cP cB _ N6 N7 N8 _ N9 r9) (fun b qx ⟨qy,qz,qA⟩=>?_) (fun _ _ z=>z.elim);cases b with
   | false =>
    rw[if_neg ZR]at qA ⊢;obtain⟨m',lm,zZ⟩:=qA;exact⟨m',lm,back qz zZ⟩
   | true =>
    rw[if_pos rfl]at qA ⊢;refine wpAny_mono (iy s3.heap.objs.size s3 cP cB _ qx _ qy _ qz qA) (fun Oa Ob ⟨y,EG,Oc,Od,ys,Oe,Of,m',lm,Og⟩=>?_) (fun _ _ z=>z.elim);have mt:=DM (X:=dn X (ts++fr) scope cl s3.heap.objs.size s3 cP cB) _ Ob _ EG (.ref D) [y] (.ref D) [Oa] (fun _ H'=>H'=upd EG D (.lst (ys++[y]))) Oc rfl (.cons Od .nil) ⟨D,ys,y,rfl,rfl,Oe,Of,rfl⟩;refine wpAny_mono mt (fun _ YU ⟨_,YV,Oh,_,Oi⟩=>?_) (fun _ _ z=>z.elim);subst Oi;exact⟨m',lm,back Oh Og⟩
 exact codeAny_compStart_list (loop _ rfl) (T.self _ 0 _ _ _ (T.keep _ _ _ oI fun b _ o e=>iu b o (fN b o e)) (loop _ rfl))
theorem z2{elt iter bG:Expr}{ifs:List Expr}{pos:Pos}{scope:Scope}{cl:List (Str×Addr)}{ts fr:List Str}{js:List Nat}{ft:TI}{g:gq}{tt:TT}{cD:TE}(aB:jG X bG iter ft)(aD:∀C s H ex,iK (dn X (ts++fr) scope cl C s H ex) bG g)(ix:∀C s H ex,nD (dn X (ts++fr) scope cl C s H ex) ifs tt)(iy:∀C s H ex,b0 (dn X (ts++fr) scope cl C s H ex) elt cD)(F:nE X scope cl fr js)(hc:X.calm=true)(aq:∀v,foldedSetIterable iter X.env v=pure v):b0 X (.ListComp elt [⟨bG,iter,ifs,0⟩] scope pos) (qv ft g tt cD ts.length js):=by
 intro pins s σ H Q I h;rw[eval_ListComp];refine EC aB aD ix iy F hc aq I h _ rfl _ fun D C fI hY m aN _ _ _ _ _ _ hD q=>⟨m,aN,fun h' dV=>⟨.ref D,fI,hD h' fun b u af e=>dV.extBut b u af e,rfl,q⟩⟩
theorem EH{elt iter bG:Expr}{ifs:List Expr}{pos:Pos}{scope:Scope}{cl:List (Str×Addr)}{ts fr:List Str}{js:List Nat}{ft:TI}{g:gq}{tt:TT}{cD:TE}{i:Nat}{y:Str}{py nG:Pos}(bI:X.N.Nodup)(r':X.N[i]?=some y)(a6:X.env.scope.names.lookup y=some .local)(aB:jG X bG iter ft)(aD:∀C s H ex,iK (dn X (ts++fr) scope cl C s H ex) bG g)(ix:∀C s H ex,nD (dn X (ts++fr) scope cl C s H ex) ifs tt)(iy:∀C s H ex,b0 (dn X (ts++fr) scope cl C s H ex) elt cD)(F:nE X scope cl fr js)(hc:X.calm=true)(aq:∀v,foldedSetIterable iter X.env v=pure v)(kv:swapsWith (.ListComp elt [⟨bG,iter,ifs,0⟩] scope pos) (some (.Name y py)) nG.line X.env=pure true):
  ia X (.Assign [.Name y py] (.ListComp elt [⟨bG,iter,ifs,0⟩] scope pos) nG) (yV (qv ft g tt cD ts.length js) (uC i)):=by
 intro pins s σ H D I h;rw[exec_Assign_Name_used _ _ _ _ kv];refine wpAny_bind (wpAny_standAt (wpAny_bind ?_));show wpAny _ X.A (do let _ <-comprehension (.ListComp elt [⟨bG,iter,ifs,0⟩] scope pos) scope X.env _ (newList []) false (eval iter X.env) (some (assign (.Name y py) X.env))) _ _ s
 refine wpAny_bind (ck (EC (RQ:=fun _ s'=>∃a' H',Inv X pins a' H' s'/\D.nx a' H') (QE:=fun v H1=>uC i v σ H1 D.nx) aB aD ix iy F hc aq I h _ rfl _ ?_) fun _ s' q=>wpAny_pure (wpAny_pure q));intro L C fI hY m aN hf eT je vr Oj Ol hD q;obtain⟨o,es,br,aE,hd,r⟩:=id aN;have jJ:Inv X pins σ fI hY:=hD hY.heap fun b u _ e=>e
 have Om:Inv X (pins++[(C,o)]) σ fI hY:=jJ.pins_of fun p ag=>by
  rcases ZK.mp ag with z|z
  ·exact jJ.pin p (Z9 _ z)
  ·have z:p=(C,o):=by simpa using z
   subst z;exact⟨aE,hf,eT,Ol,fun v z=>by rw[hd]at z;cases z⟩
 show wpAny _ X.A (assign (.Name y py) X.env (.ref L)) _ _ _
 refine wpAny_assign_Name (pZ Om bI r' (.inl a6) (v:=.ref L) rfl (fun mb hZ=>?_) (.inr a6));have lE:mb.heap.get? C=some o:=(hZ.pin (C,o) (Z9 _ (Z9 _ (ZG.mpr rfl)))).1;refine⟨m,⟨o,es,br,lE,hd,r⟩,fun h' dV=>⟨_,fI,?_,q⟩⟩;exact hZ.unpinned.turned (t':=mb.toks) (fun b u af e=>dV.extBut b u af e) hf eT (.inr je) vr Oj
end
end L2
namespace L3
open PySem L2
def gN(g:ee)(ut:dD)(u:a5):List D->List aI->(List D->Prop)->Prop
 | [],_,k=>k []
 | d::ds,ρ,k=>g d ρ fun gA=>ut gA fun b=>if b=true then u gA fun y=>gN g ut u ds gA fun ys=>k (y::ys)else gN g ut u ds gA k
def lF:dD:=fun _ k=>k true
def nH(w:cQ)(g:ee)(ut:dD)(u:a5)(dE:Nat)(js:List Nat):cQ:=fun ρ k=>w ρ fun ds=>ds.length<=sizeLine/\gN g ut u ds (ZI dE .no++js.map (jm ρ)) k
section
variable{K:PySem.W.Frag}{X:aM}{e:Expr}{es:List Expr}{u:a5}{w:cQ}{pos p:Pos}
theorem z3{ρ:List aI}(j:Nat):jm ρ j=.no∨(∃d,jm ρ j=.val d/\ρ[j]?=some (.val d))∨(jm ρ j=.bag/\ρ[j]?=some .bag):=by
 unfold jm;split
 ·rename_i d bZ;exact .inr (.inl ⟨d,rfl,bZ⟩)
 ·rename_i bZ;exact .inr (.inr ⟨rfl,bZ⟩)
 ·exact .inl rfl
theorem Ev.within{R:ao}{W:Addr->Prop}{B H:ao}{σ:St}{ρ:List aI}(e:Ev K R W B H σ ρ)(dE:Nat){js:List Nat}(o4:js.Nodup):
  Ev K H (fun a=>∃j,j∈js/\σ[j]?=some (some (.ref a))/\ρ[j]?=some .bag) B H (ZI dE none++hp σ js) (ZI dE .no++js.map (jm ρ)):=by
 have hr:∀(a:Addr)(j:Nat),σ[j]?=some (some (V.ref a))->ρ[j]?=some aI.bag->B a=none/\gv H a:=fun a j z1 aT=>by
  obtain⟨c,aF,_,bV,bP⟩:=e.bagAt aT;rw[z1]at aF;cases aF;exact⟨bV,bP⟩
 refine⟨⟨fun _ _ z _=>z,e.bh,fun a ⟨j,_,z1,aT⟩=>(hr a j z1 aT).1,fun a ⟨j,_,z1,aT⟩=>(hr a j z1 aT).2,fun a ⟨j,_,z1,aT⟩=>?_⟩,?_,fun n aY ah=>?_,fun n m a bw b3=>?_⟩
 ·obtain⟨x,y,q,_⟩:=(hr a j z1 aT).2;rw[q];simp
 ·unfold hp;simp
 ·by_cases cM:n<dE
  ·rw[aai (by simpa using cM),aaM,if_pos cM]at ah;cases ah;trivial
  ·rw[aaf (by simp;omega),aaF,ZL]at ah;cases iW:js[n-dE]? with
   | none=>rw[iW]at ah;cases ah
   | some j =>
    rw[iW]at ah;have ah:=ZH ah
    have z4:((ZI dE none++hp σ js)[n]?).join=(σ[j]?).join:=by
     rw[aaf (by simp;omega),aaF];unfold hp;rw[ZL,iW];rfl
    rw[z4,<-ah];rcases z3 (ρ:=ρ) j with z|⟨h4,z,bZ⟩|⟨z,bZ⟩<;>rw[z]
    ·trivial
    ·obtain⟨v,v1,v2⟩:=e.ok j _ bZ;exact⟨v,v1,v2⟩
    ·obtain⟨c,aF,_,bV,bP⟩:=e.ok j _ bZ;exact⟨c,aF,.inl ⟨j,aag iW,join_some aF,bZ⟩,bV,bP⟩
 ·have back:∀n,cX (ZI dE none++hp σ js) (ZI dE .no++js.map (jm ρ)) n a->∃j,dE<=n/\js[n-dE]?=some j/\cX σ ρ j a:=fun n bA=>by
   rcases bA with⟨bw,b3⟩|⟨c,bw,_⟩
   rotate_left
   ·by_cases cM:n<dE
    ·rw[aai (by simpa using cM),aaM,if_pos cM]at bw;cases bw
    ·rw[aaf (by simp;omega),aaF,ZL]at bw;cases iW:js[n-dE]? with
     | none=>rw[iW]at bw;cases bw
     | some j =>
      rw[iW,abw]at bw;rcases z3 (ρ:=ρ) j with z|⟨h4,z,bZ⟩|⟨z,bZ⟩<;>rw[z]at bw<;>cases bw
   by_cases cM:n<dE
   ·rw[aai (by simpa using cM),aaM,if_pos cM]at bw;cases bw
   ·rw[aaf (by simp;omega),aaF]at bw;obtain⟨j,iW,Oo⟩:=Nn bw;rw[aaf (by simp;omega),aaF,ZL,iW]at b3;refine⟨j,by omega,iW,.inl ⟨join_some Oo.symm,.inl ?_⟩⟩;rcases z3 (ρ:=ρ) j with z|⟨h4,z,bZ⟩|⟨z,bZ⟩
    ·rw[abw,z]at b3;rcases b3 with q|⟨_,q⟩<;>cases q
    ·rw[abw,z]at b3;rcases b3 with q|⟨_,q⟩<;>cases q
    ·exact bZ
  obtain⟨j,bx,iW,Oq⟩:=back n bw;obtain⟨qB,bB,Ot,Ou⟩:=back m b3;have:=e.sep j qB a Oq Ou;subst this
  have e9:n-dE<js.length:=by
   by_cases z:n-dE<js.length
   ·exact z
   ·rw[Z' (by omega)]at iW;cases iW
  have:=(List.getElem?_inj e9 o4).mp (iW.trans Ot.symm);omega
theorem vx{R:ao}{W:Addr->Prop}{B:ao}{a:Addr}{vs:List V}(h:R a=some (.lst vs))(nw:¬W a):fD R W B a=some (.lst vs):=by
 unfold fD;rw[h];dsimp only;rw[if_neg nw]
theorem z5{R:ao}{W:Addr->Prop}{B:ao}{a:Addr}(h:W a):fD R W B a=B a:=by
 unfold fD;split
 ·rw[if_pos h]
 ·rfl
theorem vy{R:ao}{W:Addr->Prop}{B:ao}{a:Addr}(h:∀vs,R a≠some (.lst vs)):fD R W B a=B a:=by
 unfold fD;split
 ·rename_i vs e;exact absurd e (h vs)
 ·rfl
theorem vz{R:ao}{W:Addr->Prop}{B:ao}{a:Addr}{o:eS}(h:fD R W B a=some o):B a=some o∨(¬W a/\R a=some o/\∃vs,o=.lst vs):=by
 unfold fD at h;split at h
 ·rename_i vs e
  split at h
  ·exact .inl h
  ·rename_i z;cases h;exact .inr ⟨z,e,vs,rfl⟩
 ·exact .inl h
theorem EI{R:ao}{W:Addr->Prop}{B H:ao}(w:Wd R W B H):cm B (fD R W B):=fun a o h=>by
 by_cases z:W a
 ·rw[z5 z];exact h
 ·by_cases q:∃vs,R a=some (.lst vs)
  ·obtain⟨vs,q⟩:=q;have aa:=w.fr a _ q z;rw[w.bh a o h]at aa;cases aa;exact vx q z
  ·rw[vy fun vs e=>q ⟨vs,e⟩];exact h
theorem nI{R:ao}{W:Addr->Prop}{B H:ao}(w:Wd R W B H):cm (fD R W B) H:=fun a o h=>by
 rcases vz h with h|⟨aa,ab,_⟩
 ·exact w.bh a o h
 ·exact w.fr a o ab aa
theorem vA{R:ao}{W mm:Addr->Prop}{B ax H:ao}(w:Wd R W B H)(s:cm B ax)(sB:cm ax H)(hw:∀a,mm a->R a≠none->W a)(af:∀a,mm a->ax a=none):cm (fD R W B) (fD H mm ax):=fun a o h=>by
 have dw:=nI w a o h;rcases vz h with h|⟨aa,ab,vs,rfl⟩
 ·have h':=s a o h;by_cases z:mm a
  ·rw[af a z]at h';cases h'
  ·by_cases q:∃vs,H a=some (.lst vs)
   ·obtain⟨vs,q⟩:=q;rw[dw]at q;cases q;exact vx dw z
   ·rw[vy fun vs e=>q ⟨vs,e⟩];exact h'
 ·exact vx dw fun z=>aa (hw a z (by rw[ab];simp))
theorem Ev.rebase{R:ao}{W:Addr->Prop}{B H:ao}{σ:St}{ρ:List aI}(e:Ev K R W B H σ ρ)(hm:∀j a,cX σ ρ j a->W a):Ev K H W B H σ ρ:=by
 refine⟨⟨fun _ _ z _=>z,e.bh,e.wb,e.wh,fun a z=>by obtain⟨gu,eu,gk,_⟩:=e.wh a z;rw[gk];simp⟩,e.len,fun j aY bZ=>?_,e.sep⟩;have:=e.ok j aY bZ;cases aY with
 | no=>trivial
 | new d =>
  obtain⟨v,aa,ab⟩:=this;exact⟨v,aa,ab.mono (vA e.toWd (cm.refl _) e.bh (fun _ z _=>z) e.wb)⟩
 | pin v d=>exact⟨this.1,this.2.mono (vA e.toWd (cm.refl _) e.bh (fun _ z _=>z) e.wb)⟩
 | val d=>exact this
 | own ds =>
  obtain⟨a,aW,bS,_⟩:=this;exact absurd bS (e.wr a (hm j a (.inl ⟨join_some aW,.inr ⟨ds,bZ⟩⟩)))
 | deep c=>exact absurd (this.2.fr _ Zd).1 (e.wr _ (hm j _ (.inr ⟨c,bZ,Zd⟩)))
 | bag =>
  obtain⟨c,aF,aH,bV,bP⟩:=this;exact⟨c,aF,.inl (hm j c (.inl ⟨join_some aF,.inl bZ⟩)),bV,bP⟩
theorem Ev.unbase{R:ao}{W:Addr->Prop}{B H ax H':ao}{σ:St}{ρ:List aI}(e:Ev K R W B H σ ρ)(hm:∀j a,cX σ ρ j a->W a)(aU:Ev K H W ax H' σ ρ)(g:bM H B ax):Ev K R W ax H' σ ρ/\bM R B ax:=by
 refine⟨⟨⟨fun a o z nw=>aU.fr a o (e.fr a o z nw) nw,aU.bh,aU.wb,aU.wh,e.wr⟩,aU.len,fun j aY bZ=>?_,aU.sep⟩,⟨g.s,fun a o z=>?_⟩⟩
 ·have:=aU.ok j aY bZ;cases aY with
  | no=>trivial
  | new d =>
   obtain⟨v,aa,ab⟩:=e.ok j _ bZ;exact⟨v,aa,ab.mono (oQ g.s)⟩
  | pin v d =>
   obtain⟨aa,ab⟩:=e.ok j _ bZ;exact⟨aa,ab.mono (oQ g.s)⟩
  | val d=>exact this
  | own ds =>
   obtain⟨a,aW,bS,_⟩:=e.ok j _ bZ;exact absurd bS (e.wr a (hm j a (.inl ⟨join_some aW,.inr ⟨ds,bZ⟩⟩)))
  | deep c=>exact absurd ((e.deepAt bZ).2.fr _ Zd).1 (e.wr _ (hm j _ (.inr ⟨c,bZ,Zd⟩)))
  | bag =>
   obtain⟨c,aF,aH,bV,bP⟩:=this;exact⟨c,aF,.inl (hm j c (.inl ⟨join_some aF,.inl bZ⟩)),bV,bP⟩
 ·rcases g.n a o z with q|q
  ·exact .inl q
  ·exact .inr (e.toWd.fresh q).1
theorem z6{ft:TI}{g:gq}{tt:TT}{cD:TE}{eY:ee}{ut:dD}{dE:Nat}{js:List Nat}(h0:zB K ft w)(aD:qk K g eY)(bt:hK K tt ut)(aa:eL K cD u)(o4:js.Nodup):qj K (qv ft g tt cD dE js) (nH w eY ut u dE js):=by
 intro ρ k h R W B H σ Q e q;refine h0 ρ _ h R W B H σ _ e fun ds J a4 H1 z1 ai g1 it=>?_;obtain⟨aj,z1⟩:=z1;intro D gJ;obtain⟨f1,f2,bQ⟩:=ai.toWd.fresh gJ;have nJ:∀i,¬cX σ ρ i D:=fun i m=>ai.notNew gJ m rfl;have eE:=ai.within dE o4
 have kD:∀j a,cX (ZI dE none++hp σ js) (ZI dE .no++js.map (jm ρ)) j a->∃j,j∈js/\σ[j]?=some (some (V.ref a))/\ρ[j]?=some aI.bag:=fun j a m=>by
  have bS:=(eE.mutOk m).2;rcases m with⟨bw,z|⟨es,z⟩⟩|⟨c,z,oN⟩
  ·obtain⟨c,aF,aH,_⟩:=eE.bagAt z;rw[bw]at aF;cases aF;rcases aH with aH|aH
   ·exact aH
   ·exact absurd aH bS
  ·obtain⟨c,aF,aH,_⟩:=eE.ownC z;rw[bw]at aF;cases aF;exact absurd aH bS
  ·exact absurd ((eE.deepAt z).2.fr a oN).1 bS
 generalize nK:(fun a=>∃j,j∈js/\σ[j]?=some (some (V.ref a))/\ρ[j]?=some aI.bag)=e' at eE;have kD:∀j a,cX (ZI dE none++hp σ js) (ZI dE .no++js.map (jm ρ)) j a->e' a:=fun j a m=>by rw[<-nK];exact kD j a m
 have g0:∀a,e' a->∃i:Nat,σ[i]?=some (some (.ref a))/\ρ[i]?=some .bag:=fun a z=>by
  rw[<-nK]at z;obtain⟨j,_,z⟩:=z;exact⟨j,z⟩
 have kE:¬e' D:=fun z=>by
  obtain⟨o5,bE,c3⟩:=g0 D z;exact nJ o5 (.inl ⟨bE,.inl c3⟩)
 refine⟨fun i m iX H'=>∃ax ys es hN,m=ds.length-i/\i<=ds.length/\Ev K H1 e' ax H' iX hN/\bM H1 a4 ax/\H' D=some (.lst ys)/\ax D=none/\(∀j a,cX iX hN j a->e' a)/\ys.length<=i/\Reps K ax ys es/\gN eY ut u (ds.drop i) hN fun r=>k (es++r),
  ⟨ds.length,a4,[],[],_,by simp,aaa _,eE.allocH gJ _,bM.refl _ _,ei,bQ,kD,YK _,.nil,by simpa using z1⟩,?_⟩
 rintro i m iX aZ ⟨bD,ys,es,hN,rfl,aB,av,g2,a6,af,sb,EJ,cu,aT⟩;obtain⟨t1,cE,t3⟩:=it aZ (g2.s.trans av.bh) i;by_cases cM:i<ds.length
 ·refine .inr ⟨t1 cM,fun x H' y=>?_⟩;obtain⟨rfl,d,hd,bg⟩:=t3 x H' cM y
  have gd:ds.drop i=d::ds.drop (i+1):=by
   rw[aaH cM];rw[ZT cM]at hd;rw[ZH hd]
  rw[gd]at aT;refine aD d hN _ aT H1 e' bD H' iX x _ av (bg.mono g2.s) fun hO fS fk bC bA=>?_;have gO:∀j a,cX fS hO j a->e' a:=fun j a m=>sb j a (bA j a m)
  have kF:∀{fV:ao},bM H' bD fV->fV D=none:=fun{fV} dx=>by
   cases sd:fV D with
   | none=>rfl
   | some o =>
    rcases dx.n D o sd with z|z
    ·rw[af]at z;cases z
    ·rw[a6]at z;cases z
  refine bt hO _ fk H' e' bD H' fS _ (bC.rebase gO) fun b fV kB eW c6 dx=>?_;have se:kB D=some (.lst ys):=c6.fr D _ a6 kE;cases b with
  | false =>
   rw[if_neg ZR]at eW ⊢;obtain⟨eK,iY⟩:=bC.unbase gO c6 dx;exact⟨ds.length-(i+1),by omega,fV,ys,es,hO,rfl,cM,eK,g2.trans iY,se,kF dx,gO,by omega,cu.mono dx.s,eW⟩
  | true =>
   rw[if_pos rfl]at eW ⊢;refine aa hO _ eW H' e' fV kB fS _ c6 fun eu v sf fI kC eK iY s5=>?_;have iZ:=dx.trans iY;have si:fI D=some (.lst ys):=eK.fr D _ a6 kE;obtain⟨mj,sj⟩:=bC.unbase gO eK iZ;refine⟨ys,si,by omega,ds.length-(i+1),by omega,sf,ys++[v],es++[eu],hO,rfl,cM,mj.scribble gJ (kF iZ) (fun j m=>kE (gO j D m)) _,g2.trans sj,ei,kF iZ,gO,by rw[Zg,aal];omega,(cu.mono iZ.s).append (.cons s5 .nil),?_⟩;simpa[ZU]using kC
 ·have eq:i=ds.length:=by omega
  subst eq;rw[aaP]at aT;obtain⟨c6,dx⟩:=ai.after g0 av.toWd g2;refine .inl ⟨cE (YK _),q _ D ys bD aZ (by simpa[gN]using aT) c6 (g1.trans dx) f1 af a6 cu nJ⟩
def nL(X:aM)(ifs:List Expr)(ut:dD):Prop:=∃t,nD X ifs t/\hK X.K t ut
theorem jT:nL X [] lF:=⟨_,NO,fun ρ k h R W B H σ Q e q=>q true B H h e (bM.refl _ _)⟩
theorem EK{c:Expr}{ut:dD}(h:h2 X c ut):nL X [c] ut:=by
 obtain⟨_,aa,au⟩:=h;exact⟨_,NP aa,au⟩
theorem vB{elt:Expr}{α:Type}{Xs:α->aM}(e4:∀a,(Xs a).K=K)(h:∀a,bq (Xs a) elt u):∃t,(∀a,b0 (Xs a) elt t)/\eL K t u:=by
 refine⟨fun σ H Q=>∀a,∃t,b0 (Xs a) elt t/\eL K t u/\t σ H Q,fun a pins s σ H Q I q=>?_,fun ρ k q R W B H σ Q e z a=>?_⟩
 ·obtain⟨t,bt,_,aA⟩:=q a;exact bt pins s σ H Q I aA
 ·obtain⟨t,bt,ak⟩:=h a;rw[e4 a]at ak;exact⟨t,bt,ak,ak ρ k q R W B H σ Q e z⟩
theorem sk{ifs:List Expr}{ut:dD}{α:Type}{Xs:α->aM}(e4:∀a,(Xs a).K=K)(h:∀a,nL (Xs a) ifs ut):∃t,(∀a,nD (Xs a) ifs t)/\hK K t ut:=by
 refine⟨fun σ H Q=>∀a,∃t,nD (Xs a) ifs t/\hK K t ut/\t σ H Q,fun a pins s σ H Q I q=>?_,fun ρ k q R W B H σ Q e z a=>?_⟩
 ·obtain⟨t,bt,_,aA⟩:=q a;exact bt pins s σ H Q I aA
 ·obtain⟨t,bt,ak⟩:=h a;rw[e4 a]at ak;exact⟨t,bt,ak,ak ρ k q R W B H σ Q e z⟩
theorem sm{bG:Expr}{eY:ee}{α:Type}{Xs:α->aM}(e4:∀a,(Xs a).K=K)(h:∀a,iT (Xs a) bG eY):∃t,(∀a,iK (Xs a) bG t)/\qk K t eY:=by
 refine⟨fun v σ H Q=>∀a,∃t,iK (Xs a) bG t/\qk K t eY/\t v σ H Q,fun a pins s σ H v x Q I r q=>?_,fun d ρ k q R W B H σ v Q e r z a=>?_⟩
 ·obtain⟨t,bt,_,aA⟩:=q a;exact bt pins s σ H v x Q I r aA
 ·obtain⟨t,bt,ak⟩:=h a;rw[e4 a]at ak;exact⟨t,bt,ak,ak d ρ k q R W B H σ v Q e r z⟩
variable{elt iter bG:Expr}{ifs:List Expr}{scope:Scope}{cl:List (Str×Addr)}{ts fr:List Str}{js:List Nat}{eY:ee}{ut:dD}
theorem o6(aB:lz X bG iter w)(aD:∀C s H ex,iT (dn X (ts++fr) scope cl C s H ex) bG eY)(ix:∀C s H ex,nL (dn X (ts++fr) scope cl C s H ex) ifs ut)(iy:∀C s H ex,bq (dn X (ts++fr) scope cl C s H ex) elt u)(F:nE X scope cl fr js)(my:js.Nodup:=by decide)(hc:X.calm=true:=by rfl)(aq:∀v,foldedSetIterable iter X.env v=pure v:=by intro _;rfl):kq X (.ListComp elt [⟨bG,iter,ifs,0⟩] scope pos) (nH w eY ut u ts.length js):=by
 obtain⟨_,h0,gw⟩:=aB;obtain⟨vC,mz,rg⟩:=sm (K:=X.K) (Xs:=fun a:Addr×Shared×ao×List Addr=>dn X (ts++fr) scope cl a.1 a.2.1 a.2.2.1 a.2.2.2) (fun _=>rfl) fun a=>aD a.1 a.2.1 a.2.2.1 a.2.2.2;obtain⟨tt,mA,rt⟩:=sk (K:=X.K) (Xs:=fun a:Addr×Shared×ao×List Addr=>dn X (ts++fr) scope cl a.1 a.2.1 a.2.2.1 a.2.2.2) (fun _=>rfl) fun a=>ix a.1 a.2.1 a.2.2.1 a.2.2.2;obtain⟨cD,mB,re⟩:=vB (K:=X.K) (Xs:=fun a:Addr×Shared×ao×List Addr=>dn X (ts++fr) scope cl a.1 a.2.1 a.2.2.1 a.2.2.2) (fun _=>rfl) fun a=>iy a.1 a.2.1 a.2.2.1 a.2.2.2;exact⟨_,z2 h0 (fun C s H ex=>mz (C,s,H,ex)) (fun C s H ex=>mA (C,s,H,ex)) (fun C s H ex=>mB (C,s,H,ex)) F hc aq,z6 gw rg rt re my⟩
theorem z7{i:Nat}{y:Str}{py nG:Pos}(bI:X.N.Nodup)(r':X.N[i]?=some y)(a6:X.env.scope.names.lookup y=some .local)(aB:lz X bG iter w)(aD:∀C s H ex,iT (dn X (ts++fr) scope cl C s H ex) bG eY)(ix:∀C s H ex,nL (dn X (ts++fr) scope cl C s H ex) ifs ut)(iy:∀C s H ex,bq (dn X (ts++fr) scope cl C s H ex) elt u)(F:nE X scope cl fr js)(my:js.Nodup:=by decide)(hc:X.calm=true:=by rfl)(aq:∀v,foldedSetIterable iter X.env v=pure v:=by intro _;rfl)(kv:swapsWith (.ListComp elt [⟨bG,iter,ifs,0⟩] scope pos) (some (.Name y py)) nG.line X.env=pure true:=by rfl):
  e7 X (.Assign [.Name y py] (.ListComp elt [⟨bG,iter,ifs,0⟩] scope pos) nG) (zG i (nH w eY ut u ts.length js)):=by
 obtain⟨_,h0,gw⟩:=aB;obtain⟨vC,mz,rg⟩:=sm (K:=X.K) (Xs:=fun a:Addr×Shared×ao×List Addr=>dn X (ts++fr) scope cl a.1 a.2.1 a.2.2.1 a.2.2.2) (fun _=>rfl) fun a=>aD a.1 a.2.1 a.2.2.1 a.2.2.2;obtain⟨tt,mA,rt⟩:=sk (K:=X.K) (Xs:=fun a:Addr×Shared×ao×List Addr=>dn X (ts++fr) scope cl a.1 a.2.1 a.2.2.1 a.2.2.2) (fun _=>rfl) fun a=>ix a.1 a.2.1 a.2.2.1 a.2.2.2;obtain⟨cD,mB,re⟩:=vB (K:=X.K) (Xs:=fun a:Addr×Shared×ao×List Addr=>dn X (ts++fr) scope cl a.1 a.2.1 a.2.2.1 a.2.2.2) (fun _=>rfl) fun a=>iy a.1 a.2.1 a.2.2.1 a.2.2.2;refine⟨_,EH bI r' a6 h0 (fun C s H ex=>mz (C,s,H,ex)) (fun C s H ex=>mA (C,s,H,ex)) (fun C s H ex=>mB (C,s,H,ex)) F hc aq kv,fun U ρ h R W B H σ D e s=>?_⟩;exact z6 gw rg rt re my ρ _ h R W B H σ _ e fun ds a vs a4 H1 z1 ai g1 f1 f2 bQ f4 eo=>s.nx _ _ a4 H1 z1 (ai.setO i f1 f2 bQ f4 fun j _=>eo j) g1
theorem vD{st:Stmt}{s:cW}(i:Nat)(h:e7 X st s):e7 X st (fun U ρ=>s { U with nx:=fun bu=>∃ds:List D,bu[i]?=some (.own ds)/\U.nx (bu.set i (.val (.lst ds))) } ρ):=by
 obtain⟨_,aa,au⟩:=h;refine⟨_,aa,fun U ρ h R W B H σ D e dU=>?_⟩;refine au _ ρ h R W B H σ D e ⟨fun bu a' ax H' z aU g=>?_,dU.bk,dU.ct,dU.rt⟩;obtain⟨ds,aE,z⟩:=z;obtain⟨bD,av,g2⟩:=aU.fz aE;exact dU.nx _ a' bD H' z av (g.trans g2)
end
theorem qC{α:Type}{f:α->D}{s:cW}{U:il}{m:Nat}(I:List α->List aI->Prop):∀{rs done:List α}{ρ:List aI},I done ρ ->
  (∀(pre:List α)(r:α)(rest:List α) ρ,done++rs=pre++r::rest->I pre ρ->∀N:List aI->Prop,(∀d0,I (pre++[r]) d0->N d0)->s { U with nx:=N,ct:=N,bk:=U.nx } (ρ.set m (.val (f r))))->(∀ρ,I (done++rs) ρ->U.nx ρ)->forR (gy m) s U (rs.map f) ρ
 | [],done,ρ,h0,_,ab=>ab ρ (by rw[ZF];exact h0)
 | r::rs,done,ρ,h0,aa,ab=>by
  refine aa done r rs ρ rfl h0 _ fun d0 ak=>?_;have e:done++r::rs=(done++[r])++rs:=by simp
  rw[e]at aa ab;exact qC I ak aa ab
theorem EL{s:cW}{U:il}{m:Nat}(I:Nat->List aI->Prop):∀{n i:Nat}{ρ:List aI},I i ρ->(∀(j:Nat) ρ,i<=j->j<i+n->I j ρ->∀N:List aI->Prop,(∀r,I (j+1) r->N r)->s { U with nx:=N,ct:=N,bk:=U.nx } (ρ.set m (.val (.int j)))) ->
  (∀ρ,I (i+n) ρ->U.nx ρ)->forR (gy m) s U ((List.range' i n).map fun j:Nat=>D.int j) ρ
 | 0,i,ρ,h0,_,ab=>ab ρ h0
 | n+1,i,ρ,h0,aa,ab=>by
  show forR (gy m) s U (D.int i::(List.range' (i+1) n).map fun j:Nat=>D.int j) ρ
  refine aa i ρ (YK _) (by omega) h0 _ fun r ak=>?_;exact EL I ak (fun j ρ bZ YW=>aa j ρ (by omega) (by omega)) fun ρ h=>ab ρ (by rw[show i+(n+1)=i+1+n by omega];exact h)
theorem EM{s:cW}{U:il}{m n:Nat}{ρ:List aI}(I:Nat->List aI->Prop)(h0:I 0 ρ)(aa:∀(j:Nat) ρ,j<n->I j ρ->∀N:List aI->Prop,(∀r,I (j+1) r->N r)->s { U with nx:=N,ct:=N,bk:=U.nx } (ρ.set m (.val (.int j))))(ab:∀ρ,I n ρ->U.nx ρ):forR (gy m) s U ((ZX n).map fun j:Nat=>D.int j) ρ:=by
 rw[List.range_eq_range'];exact EL I h0 (fun j ρ _ bZ=>aa j ρ (by omega)) fun ρ h=>ab ρ (by rw[aav]at h;exact h)
theorem lG{α:Type}{f h:α->D}{u:a5}{fs:List aI}:∀{rs:List α}{v0:aI}{k:List D->Prop},(∀r∈rs,∀k:D->Prop,k (h r)->u (.val (f r)::fs) k)->k (rs.map h)->gN (gy 0) lF u (rs.map f) (v0::fs) k
 | [],v0,k,_,ah=>ah
 | r::rs,v0,k,bF,ah=>by
  show(if true=true then u (.val (f r)::fs) fun y=>gN (gy 0) lF u (rs.map f) (.val (f r)::fs) fun ys=>k (y::ys)else gN (gy 0) lF u (rs.map f) (.val (f r)::fs) k)
  rw[if_pos rfl];exact bF r Zd _ (lG (fun q aA=>bF q (Zf _ aA)) ah)
theorem so{α β:Type}{f:α->β}{rs:List α}{i:Int}{r:α}(h:dO rs i=some r):dO (rs.map f) i=some (f r):=by
 unfold dO at h ⊢;rw[YL];cases q:ixN rs.length i with
 | none=>rw[q]at h;cases h
 | some j =>
  rw[q]at h;show(rs.map f)[j]?=_
  rw[ZL,show rs[j]?=some r from h];rfl
theorem Ov{α:Type}{rs:List α}{i:Nat}(h:i<rs.length):dO rs (i:Int)=some rs[i]:=by
 unfold dO ixN;rw[if_pos (by omega),if_pos (by omega)];show rs[((i:Int)).toNat]?=_
 rw[show((i:Int)).toNat=i by omega,ZT h]
theorem Ow{α:Type}{xs:List α}{i:Int}(h0:0<=i)(aa:i<=xs.length):fU xs (some i) none=xs.drop i.toNat:=by
 unfold fU
 have ai:HT.sIx xs.length 0 (some i)=i.toNat:=by
  unfold HT.sIx
  first|omega|(simp only[];split<;>omega)|(split<;>omega)|(dsimp only;split<;>(try split)<;>omega)
 have av:HT.sIx xs.length xs.length none=xs.length:=rfl;rw[ai,av];exact aco (by rw[aaX];omega)
theorem EN{α:Type}{xs:List α}{i:Int}(h0:0<=i)(aa:i<=xs.length):fU xs none (some i)=xs.take i.toNat:=by
 unfold fU
 have ai:HT.sIx xs.length xs.length (some i)=i.toNat:=by
  unfold HT.sIx
  first|omega|(simp only[];split<;>omega)|(split<;>omega)|(dsimp only;split<;>(try split)<;>omega)
 have av:HT.sIx xs.length 0 none=0:=rfl;rw[ai,av];rfl
section
variable{X:aM}{e:Expr}{u:a5}{pos p:Pos}
def Ox(u:a5):a5:=fun ρ k=>u ρ fun x=>∃ds,x=.lst ds/\(∀d∈ds,d=.bl true)/\k (.bl true)
theorem z8(ay:bq X e u)(hc:X.calm=true)(aD:eJ X "all")(hm:X.mg "all"=none)(aq:starEach [e] X.env=(false,eval e X.env)::starEach [] X.env:=by rfl):bq X (.Call (.Name "all" p) [e] [] pos) (Ox u):=by
 obtain⟨_,aa,au⟩:=ay;refine⟨_,oK (Mw hc) aD hm (by decide +kernel) (er aa fK aq) (by decide) (by decide) aq,vb (f:=fun x k=>∃ds,x=.lst ds/\(∀d∈ds,d=.bl true)/\k (.bl true)) au fun x k h R W B H σ ρ v Q e bg q=>?_⟩;obtain⟨ds,rfl,hd,ah⟩:=h;obtain⟨a,vs,rfl,ay,rs⟩:=bg.lstV;refine⟨a,vs,rfl,e.bh _ _ ay,fun y a6=>?_,q _ _ B H ah e (bM.refl _ _) (.bl _)⟩;obtain⟨j,bZ⟩:=aaO a6;obtain⟨d,gd,iv⟩:=rs.getV bZ;have:=hd d (aag gd);subst this;exact iv.blV
end
section
variable{X:aM}{e:Expr}{u:a5}{pos p:Pos}
def Oy(u:a5)(l h:nA):a5:=fun ρ k=>u ρ fun x=>l ρ fun lo=>h ρ fun aB=>∃ds,x=.tup ds/\¬(HT.sIx ds.length 0 lo=0/\HT.sIx ds.length ds.length aB=ds.length)/\k (.tup (fU ds lo aB))
theorem Oz{lo aB:Option Expr}{ul r1:nA}{c2:Pos}(he:bq X e u)(aj:qq X lo ul)(et:qq X aB r1):bq X (.Subscript e (.Slice lo aB none c2) pos) (Oy u ul r1):=by
 obtain⟨_,aa,au⟩:=he;obtain⟨_,ab,aG⟩:=aj;obtain⟨_,aK,f7⟩:=et;refine⟨_,DE LP aa ab aK,fun ρ k h R W B H σ Q e q=>?_⟩;refine au ρ _ h R W B H σ _ e fun d v a4 H1 z1 ai g1 s1=>?_;refine aG ρ _ z1 R W a4 H1 σ _ ai fun lo bD aZ aT av g2=>?_;refine f7 ρ _ aT R W bD aZ σ _ av fun aB nr cP fk bC g3=>?_;obtain⟨ds,rfl,aN,z⟩:=fk;obtain⟨a,vs,rfl,ay,rs⟩:=(s1.mono (g2.trans g3).s).tupV;refine⟨a,vs,rfl,en.of (bC.bh _ _ ay),by rw[rs.length];exact aN,fun p ag=>?_⟩;have dx:=bC.grow ag (.tup (oL vs lo aB));exact q _ _ _ _ z (bC.alloc ag _) (((g1.trans g2).trans g3).trans dx) (.tup ei ((rs.cut lo aB).mono dx.s))
def OA(i:Nat)(u:a5):cW:=fun U ρ=>∃ds:List D,ρ[i]?=some (.own ds)/\u ρ fun d=>∃es,d=.lst es/\ds.length+es.length<=sizeLine/\U.nx (ρ.set i (.own (ds++es)))
theorem EO(i:Nat){x:Str}{px apos c8:Pos}(he:bq X e u)(bI:X.N[i]?=some x:=by rfl)(aP:gF X.env.scope x:=by first|exact Sz rfl|exact Zh (Sz rfl)|exact Zh (Zh rfl))(hd:(x==("__debug__":Str))=false:=by decide)(dz:(x==("__classdict__":Str))=false:=by decide)(ie:attributeBase (.Name x px) "extend" X.env (eval (.Name x px) X.env)=eval (.Name x px) X.env:=by rfl)(km:((backTo c8 (starEach [e] X.env)).all (fun x => !x.1)&&(backToKw c8 (keywordEach [] X.env)).all (fun x=>x.1.isSome)
   && decide ([e].length+([]:List Keyword).length+(if([]:List Keyword).isEmpty then 0 else 1)<30))=true:=by rfl)(ig:(apos.endLine==c8.line)=true:=by rfl)(aq:starEach [e] X.env=(false,eval e X.env)::starEach [] X.env:=by rfl)(oM:(backTo c8 (starEach ([]:List Expr) X.env)).any (·.1)=false:=by rfl)(kv:swapsWith (.Call (.Attribute (.Name x px) "extend" apos) [e] [] c8) none pos.line X.env=pure false:=by rfl):e7 X (.Expr (.Call (.Attribute (.Name x px) "extend" apos) [e] [] c8) pos) (OA i u):=by
 obtain⟨_,aa,au⟩:=he;refine⟨_,uz (uT abv ac1 ac2 L9 (ic bI aP hd dz) (er aa fK aq) ie km ig aq oM) kv,fun U ρ h R W B H σ D e s=>?_⟩;obtain⟨ds,aE,h⟩:=h;obtain⟨a,vs,ai,av,bC,c6,eK⟩:=e.ownAt aE;refine⟨_,ai,.inl ⟨rfl,vs,cJ.of c6⟩,?_⟩;refine au ρ _ h R W B H σ _ e fun d v a4 H1 z1 f1 g1 s1=>?_;obtain⟨ez,kx,bU,cn,fN,iu,nC⟩:=f1.ownAt aE;rw[ai]at bU;cases bU;obtain⟨es,rfl,aj,z⟩:=z1;obtain⟨b,ws,rfl,af,rt⟩:=s1.lstV;exact⟨a,b,kx,ws,rfl,rfl,iu,f1.bh _ _ af,by rw[nC.length,rt.length];exact aj,s.nx _ _ a4 _ z (f1.write ai aE (nC.append rt)) g1⟩
end
end L3
namespace Cut
open PySem L2 L3
open PySem.Builtin.Int (intBits)
def dR(r:Int×Int):D:=.tup [.int r.1,.int r.2]
def dP(p:Int×Int×Int):D:=.tup [.int p.1,.int p.2.1,.int p.2.2]
def sq(t b:Int):Int:=if b<0 then -((YJ t b:Nat):Int)else((YJ t b:Nat):Int)
def cA(t b:Int):Int×Int:=(t.fdiv (sq t b),b.fdiv (sq t b))
theorem g6{t b:Int}(af:b≠0):aO (cA t b).1 (cA t b).2/\(cA t b).1*b=t*(cA t b).2/\(cA t b).1.natAbs<=t.natAbs/\(cA t b).2.natAbs<=b.natAbs:=by
 unfold cA sq;split
 ·exact DU af rfl (.inr ⟨rfl,by assumption⟩)
 ·exact DU af rfl (.inl ⟨rfl,by omega⟩)
def g3(a b n:Int):Int:=((YJ (YJ a n:Nat) b:Nat):Int)
def jo(a b n:Int):Int:=if n<0 then -g3 a b n else g3 a b n
def cx(a b n:Int):Int×Int×Int:=(a.fdiv (jo a b n),b.fdiv (jo a b n),n.fdiv (jo a b n))
theorem iz{a b n:Int}(aN:n≠0):lu (cx a b n).1 (cx a b n).2.1 (cx a b n).2.2/\(cx a b n).1*n=a*(cx a b n).2.2/\(cx a b n).2.1*n=b*(cx a b n).2.2/\(cx a b n).1.natAbs<=a.natAbs/\(cx a b n).2.1.natAbs<=b.natAbs/\(cx a b n).2.2.natAbs<=n.natAbs:=by
 unfold cx jo;split
 ·exact DX aN rfl (.inr ⟨rfl,by assumption⟩)
 ·exact DX aN rfl (.inl ⟨rfl,by omega⟩)
theorem OB(a b n:Int):((YJ (YJ a b:Nat) n:Nat):Int)=g3 a b n:=by
 unfold g3;rw[u0];rfl
theorem OC(a b n:Int):((YJ (YJ n a:Nat) b:Nat):Int)=g3 a b n:=by
 unfold g3;rw[Mx]
theorem EP{a b n:Int}(aN:n≠0):0<g3 a b n:=DV aN
theorem ER{a b n:Int}{k:Nat}(aN:n≠0)(h:intBits n<=k):intBits (g3 a b n)<=k:=My aN h
theorem kG{a b:Int}{k:Nat}(af:b≠0)(h:intBits b<=k):intBits ((YJ a b:Nat):Int)<=k:=by
 refine intBits_le_of_natAbs ?_ h;exact ack (by omega) (by simpa using abu.mpr (abr a b))
theorem OD{x:Int}(h0 : -(10^30)<x)(aa:x<10^30):intBits x<=100:=by
 refine intBits_le_iff.mpr ?_;have OE:(10:Int)^30=1000000000000000000000000000000:=rfl;have OF:(2:Nat)^100=1267650600228229401496703205376:=rfl;rw[OE]at h0 aa;rw[OF];omega
theorem hP{a s x:Int}(h:a=s*x)(s0:s≠0):a.fdiv s=x:=by rw[h];exact aa' x s0
theorem OG{a b s x y:Int}(aa:a=s*x)(ab:b=s*y):YJ a b=s.natAbs*YJ x y:=by rw[aa,ab,acg]
theorem ES{p q:Int×Int×Int}(h:dP p=dP q):p=q:=by
 obtain⟨a,b,c⟩:=p;obtain⟨d,e,f⟩:=q;unfold dP at h;cases h;rfl
theorem ET{p q:Int×Int}(h:dR p=dR q):p=q:=by
 obtain⟨a,b⟩:=p;obtain⟨d,e⟩:=q;unfold dR at h;cases h;rfl
theorem OH{t b:Int}(af:b≠0):cA (-t) (-b)=cA t b:=by
 obtain⟨bx,ai,_⟩:=g6 (t :=-t) (b :=-b) (by omega);obtain⟨bB,av,_⟩:=g6 (t:=t) af
 have e:(cA (-t) (-b)).1*(cA t b).2=(cA t b).1*(cA (-t) (-b)).2:=by
  refine aaj af ?_;grind
 obtain⟨a,c⟩:=zu bx bB e;exact aaB a c
theorem OI{a b c d:Int}(af:b≠0)(hd:d≠0)(h:a*d=c*b):cA a b=cA c d:=by
 obtain⟨bx,ai,_⟩:=g6 (t:=a) af;obtain⟨bB,av,_⟩:=g6 (t:=c) hd
 have e:(cA a b).1*(cA c d).2=(cA c d).1*(cA a b).2:=by
  refine aaj (ZN af hd) ?_;grind
 obtain⟨x,y⟩:=zu bx bB e;exact aaB x y
theorem OJ{x y:Int}(h:aO x y):cA x y=(x,y):=by
 obtain⟨l,e,_⟩:=g6 (t:=x) (YM h.1);obtain⟨a,b⟩:=zu l h e;exact aaB a b
abbrev P3:=Int×Int×Int
def crs(p q:P3):P3:=(p.2.1*q.2.2-p.2.2*q.2.1,p.2.2*q.1-p.1*q.2.2,p.1*q.2.1-p.2.1*q.1)
def sc(c:Int)(p:P3):P3:=(c*p.1,c*p.2.1,c*p.2.2)
def lc(a:Int)(p:P3)(b:Int)(q:P3):P3:=(a*p.1+b*q.1,a*p.2.1+b*q.2.1,a*p.2.2+b*q.2.2)
def nP(p:P3):P3:=cx p.1 p.2.1 p.2.2
theorem ef{p q:P3}(aa:p.1=q.1)(ab:p.2.1=q.2.1)(aK:p.2.2=q.2.2):p=q:=aaB aa (aaB ab aK)
variable{P:Program}{w:World}{K:PySem.W.Frag}{mg:Str->Option Value}{base:Heap}
theorem z9{c d:Int}{p q:P3}(h:sc c p=sc d q):c*p.1=d*q.1/\c*p.2.1=d*q.2.1/\c*p.2.2=d*q.2.2 :=
 ⟨congrArg (·.1) h,congrArg (·.2.1) h,congrArg (·.2.2) h⟩
theorem z'(c d:Int)(p q:P3):crs (sc c p) (sc d q)=sc (c*d) (crs p q):=by
 refine ef ?_ ?_ ?_<;>simp only[crs,sc]<;>grind
theorem EU(c d:Int)(p:P3):sc c (sc d p)=sc (c*d) p:=by
 refine ef ?_ ?_ ?_<;>simp only[sc]<;>grind
theorem i0{p:P3}(aN:p.2.2≠0):∃g,g≠0/\p=sc g (nP p):=by
 obtain⟨pt,ai,av,_⟩:=iz (a:=p.1) (b:=p.2.1) aN;have z0:(nP p).2.2≠0:=YM pt.1;obtain⟨g,aD⟩:=zx pt.2 ai av;have a7:g≠0:=fun z=>aN (by rw[aD,z,ZO]);refine⟨g,a7,ef ?_ ?_ ?_⟩
 ·refine aaj z0 ?_;show p.1*(cx p.1 p.2.1 p.2.2).2.2=g*(cx p.1 p.2.1 p.2.2).1*(cx p.1 p.2.1 p.2.2).2.2
  rw[<-ai];grind
 ·refine aaj z0 ?_;show p.2.1*(cx p.1 p.2.1 p.2.2).2.2=g*(cx p.1 p.2.1 p.2.2).2.1*(cx p.1 p.2.1 p.2.2).2.2
  rw[<-av];grind
 ·show p.2.2=g*(cx p.1 p.2.1 p.2.2).2.2
  rw[ZQ];exact aD
abbrev aS(p:P3):Prop:=lu p.1 p.2.1 p.2.2
theorem fg{p:P3}(aN:p.2.2≠0):aS (nP p):=(iz aN).1
theorem qD{M h:P3}{G c:Int}(EV:G≠0)(hc:c≠0)(ag:aS h)(e:sc G M=sc c h):M.2.2≠0/\nP M=h:=by
 obtain⟨ai,av,bC⟩:=z9 e;have h0:h.2.2≠0:=YM ag.1
 have m0:M.2.2≠0:=fun z=>by
  rw[z,ZO]at bC;exact ZN hc h0 bC.symm
 refine⟨m0,?_⟩;obtain⟨pt,f1,f2,_⟩:=iz (a:=M.1) (b:=M.2.1) m0;have bU:M.1*h.2.2=h.1*M.2.2:=ac3 (ZN EV hc) (by grind);have cn:M.2.1*h.2.2=h.2.1*M.2.2:=ac3 (ZN EV hc) (by grind);obtain⟨aW,bS,fC⟩:=u1 pt ag (aaj m0 (by grind)) (aaj m0 (by grind));exact ef aW bS fC
theorem EW{h:P3}(ag:aS h):nP h=h:=(qD (M:=h) (h:=h) (G:=1) (c:=1) (by decide) (by decide) ag rfl).2
structure cj (m:Nat) (p:P3):Prop where
 a:intBits p.1<=m
 b:intBits p.2.1<=m
 c:intBits p.2.2<=m
theorem cj.mono{m n:Nat}{p:P3}(h:cj m p)(l:m<=n):cj n p:=⟨Gg h.a l,Gg h.b l,Gg h.c l⟩
theorem cj.nP{m:Nat}{p:P3}(h:cj m p)(aN:p.2.2≠0):cj m (Cut.nP p):=by
 obtain⟨_,_,_,aF,aH,bV⟩:=iz (a:=p.1) (b:=p.2.1) aN;exact⟨d6 aF h.a,d6 aH h.b,d6 bV h.c⟩
theorem cj.crs{m n:Nat}{p q:P3}(ag:cj m p)(aA:cj n q):cj (m+n+1) (Cut.crs p q):=by
 have e:∀{x y u v:Int},intBits x<=m->intBits y<=n->intBits u<=m->intBits v<=n->intBits (x*y-u*v)<=m+n+1:=fun a b c d=>Gg (intBits_sub_le (intBits_mul_le a b) (intBits_mul_le c d)) (by omega);exact⟨e ag.b aA.c ag.c aA.b,e ag.c aA.a ag.a aA.c,e ag.a aA.b ag.b aA.a⟩
end Cut
namespace Cut
open PySem L2 L3
open PySem.Builtin.Int (intBits)
abbrev bj:=Int×Int
end Cut
namespace L3
open PySem L2
section
variable{K:PySem.W.Frag}{R:ao}{W:Addr->Prop}{B ax H H':ao}{σ:St}{ρ:List aI}
def vE:aI->aI
 | .own (.l ds)=>.val (.lst ds)
 | .own (.d b _ ks ds)=>.val (.dct b ks ds)
 | .deep _=>.no
 | s=>s
def i1(W:Addr->Prop)(σ:St)(ρ:List aI)(a:Addr):Prop:=W a∨∃i:Nat,σ[i]?=some (some (.ref a))/\ρ[i]?=some .bag
def lH(σ:St)(ρ:List aI)(a:Addr):Prop:=∃(i:Nat)(ds:lx),σ[i]?=some (some (.ref a))/\ρ[i]?=some (.own ds)
open Classical in
noncomputable def nM(B H:ao)(σ:St)(ρ:List aI):ao:=fun a=>if lH σ ρ a then H a else B a
theorem qE{a:Addr}(h:lH σ ρ a):nM B H σ ρ a=H a:=by unfold nM;rw[if_pos h]
theorem qF{a:Addr}(h:¬lH σ ρ a):nM B H σ ρ a=B a:=by unfold nM;rw[if_neg h]
theorem Ev.frW_B(e:Ev K R W B H σ ρ){a:Addr}(h:i1 W σ ρ a):B a=none/\gv H a:=by
 rcases h with h|⟨i,aa,ab⟩
 ·exact⟨e.wb a h,e.wh a h⟩
 ·obtain⟨b,aF,_,bV,bP⟩:=e.bagAt ab;rw[aa]at aF;cases aF;exact⟨bV,bP⟩
theorem Ev.own_out(e:Ev K R W B H σ ρ){a:Addr}(h:lH σ ρ a):R a=none/\B a=none/\H a≠none/\¬i1 W σ ρ a:=by
 obtain⟨i,ds,aa,ab⟩:=h;obtain⟨b,aF,aH,bV,bP⟩:=e.ownC ab;rw[aa]at aF;cases aF;refine⟨aH,bV,bP.ne,fun z=>?_⟩;rcases z with z|⟨j,z1,aT⟩
 ·exact e.wr a z aH
 ·have:=e.sep i j a (.inl ⟨aa,.inr ⟨ds,ab⟩⟩) (.inl ⟨z1,.inl aT⟩);subst this;rw[ab]at aT;cases aT
theorem Ev.deep_out(e:Ev K R W B H σ ρ){i:Nat}{c:ko}(h:ρ[i]?=some (.deep c)){a:Addr}(m:a∈c.adr::c.ins):¬i1 W σ ρ a:=fun z=>by
 rcases z with z|⟨j,z1,aT⟩
 ·exact e.wr a z ((e.deepAt h).2.fr a m).1
 ·have:=e.sep i j a (.inr ⟨c,h,m⟩) (.inl ⟨z1,.inl aT⟩);subst this;rw[h]at aT;cases aT
theorem Ev.frB_same(e:Ev K R W B H σ ρ):cm B (nM B H σ ρ):=fun a o h=>by
 by_cases z:lH σ ρ a
 ·rw[(e.own_out z).2.1]at h;cases h
 ·rw[qF z];exact h
theorem Ev.frame(e:Ev K R W B H σ ρ):Ev K H (i1 W σ ρ) (nM B H σ ρ) H σ (ρ.map vE):=by
 have nb:∀a,i1 W σ ρ a->nM B H σ ρ a=none:=fun a h=>by
  by_cases z:lH σ ρ a
  ·exact absurd h (e.own_out z).2.2.2
  ·rw[qF z];exact(e.frW_B h).1
 refine⟨⟨fun _ _ z _=>z,fun a o h=>?_,nb,fun a h=>(e.frW_B h).2,fun a h=>?_⟩,by rw[YL];exact e.len,fun i k h=>?_,fun i j a bw b3=>?_⟩
 ·by_cases z:lH σ ρ a
  ·rw[qE z]at h;exact h
  ·rw[qF z]at h;exact e.bh a o h
 ·obtain⟨x,y,q,_⟩:=(e.frW_B h).2;rw[q];simp
 ·rw[ZL]at h;cases q:ρ[i]? with
  | none=>rw[q]at h;cases h
  | some cC =>
   rw[q]at h;have h:=ZH h;subst h;have z:=e.ok i _ q;cases cC with
   | no=>trivial
   | new d =>
    obtain⟨v,aa,ab⟩:=z;refine⟨v,aa,ab.mono (vA e.toWd e.frB_same (fun a o h=>?_) (fun a z ak=>?_) nb)⟩
    ·by_cases z:lH σ ρ a
     ·rw[qE z]at h;exact h
     ·rw[qF z]at h;exact e.bh a o h
    ·rcases z with z|⟨i,z1,aT⟩
     ·exact z
     ·obtain⟨b,aF,aH,_⟩:=e.bagAt aT;rw[z1]at aF;cases aF;exact aH.resolve_right ak
   | deep c=>trivial
   | pin v d =>
    obtain⟨aa,ab⟩:=z;refine⟨aa,ab.mono (vA e.toWd e.frB_same (fun a o h=>?_) (fun a z ak=>?_) nb)⟩
    ·by_cases z:lH σ ρ a
     ·rw[qE z]at h;exact h
     ·rw[qF z]at h;exact e.bh a o h
    ·rcases z with z|⟨i,z1,aT⟩
     ·exact z
     ·obtain⟨b,aF,aH,_⟩:=e.bagAt aT;rw[z1]at aF;cases aF;exact aH.resolve_right ak
   | val d =>
    obtain⟨v,aa,ab⟩:=z;exact⟨v,aa,ab.mono e.frB_same⟩
   | own ds =>
    obtain⟨a,aa,ab,aK,z⟩:=z;cases ds with
    | l ds =>
     obtain⟨vs,bo,df⟩:=z;exact⟨.ref a,aa,.lst (by rw[qE ⟨i,_,join_some aa,q⟩];exact bo) (df.mono e.frB_same)⟩
    | d b t ks ds =>
     obtain⟨br,as,vs,_,bo,df,fl,lE⟩:=z;exact⟨.ref a,aa,.dct (by rw[qE ⟨i,_,join_some aa,q⟩];exact bo) (df.mono e.frB_same) fl (lE.mono e.frB_same)⟩
   | bag =>
    obtain⟨b,aa,ab,aK,bo⟩:=z;have w:i1 W σ ρ b:=.inr ⟨i,join_some aa,q⟩;exact⟨b,aa,.inl w,nb b w,bo⟩
 ·have back:∀i,cX σ (ρ.map vE) i a->cX σ ρ i a:=fun i m=>by
   rcases m with⟨aa,ab⟩|⟨c,aa,_⟩
   rotate_left
   ·rw[ZL]at aa;cases q:ρ[i]? with
    | none=>rw[q]at aa;cases aa
    | some cC =>
     rw[q]at aa;cases cC with
     | own ds=>cases ds<;>cases aa
     | _=>cases aa
   refine .inl ⟨aa,?_⟩;rw[ZL]at ab;cases q:ρ[i]? with
   | none=>rw[q]at ab;rcases ab with ab|⟨_,ab⟩<;>cases ab
   | some cC =>
    rw[q]at ab;cases cC with
    | bag=>exact .inl rfl
    | no=>rcases ab with ab|⟨_,ab⟩<;>cases ab
    | new d=>rcases ab with ab|⟨_,ab⟩<;>cases ab
    | pin v d=>rcases ab with ab|⟨_,ab⟩<;>cases ab
    | deep d=>rcases ab with ab|⟨_,ab⟩<;>cases ab
    | val d=>rcases ab with ab|⟨_,ab⟩<;>cases ab
    | own ds=>cases ds<;>rcases ab with ab|⟨_,ab⟩<;>cases ab
  exact e.sep i j a (back i bw) (back j b3)
theorem Ev.unframe(e:Ev K R W B H σ ρ)(fr:∀a o,H a=some o->¬i1 W σ ρ a->H' a=some o)(wh:∀a,i1 W σ ρ a->gv H' a):Ev K R W B H' σ ρ:=by
 have OK:∀a,R a≠none->¬W a->¬i1 W σ ρ a:=fun a aa ab z=>by
  rcases z with z|⟨i,z1,aT⟩
  ·exact ab z
  ·obtain⟨b,aF,aH,_⟩:=e.bagAt aT;rw[z1]at aF;cases aF;rcases aH with aH|aH
   ·exact ab aH
   ·exact aa aH
 refine⟨⟨fun a o h nw=>fr a o (e.fr a o h nw) (OK a (by rw[h];simp) nw),fun a o h=>fr a o (e.bh a o h) fun z=>?_,e.wb,fun a h=>wh a (.inl h),e.wr⟩,e.len,fun i k h=>?_,e.sep⟩
 ·rw[(e.frW_B z).1]at h;cases h
 ·have z:=e.ok i k h;cases k with
  | no=>trivial
  | new d=>exact z
  | pin v d=>exact z
  | val d=>exact z
  | own ds =>
   obtain⟨a,aa,ab,aK,bo⟩:=z;refine⟨a,aa,ab,aK,bo.mono (cm.refl _) ?_⟩;cases q:H a with
   | none=>exact absurd q bo.ne
   | some o=>exact fr a _ q (e.own_out ⟨i,ds,join_some aa,h⟩).2.2.2
  | deep c =>
   refine⟨z.1,z.2.fr,z.2.nd,z.2.ok.mono (cm.refl _) fun a ij=>?_⟩;cases q:H a with
   | none=>exact absurd q (z.2.ok.ne ij)
   | some o=>exact fr a _ q (e.deep_out h ij)
  | bag =>
   obtain⟨b,aa,ab,aK,bo⟩:=z;exact⟨b,aa,ab,aK,wh b (.inr ⟨i,join_some aa,h⟩)⟩
end
section
variable{K:PySem.W.Frag}{X:aM}{e:Expr}{es:List Expr}{u:a5}{w:cQ}{pos p:Pos}
mutual
def flat:D->Bool
 | .tup xs=>flats xs
 | .lst _=>false
 | .scr _=>false
 | .ktup _=>false
 | .kfn _=>false
 | .dct _ _ _=>false
 | .non=>true
 | .bl _=>true
 | .int _=>true
 | .str _=>true
 | .ty _=>true
def flats:List D->Bool
 | []=>true
 | x::r=>flat x&&flats r
end
theorem EX{R B:ao}{a:Addr}{vs:List V}(h:B a=some (.tup vs)):eB R B a=some (.tup vs):=by
 unfold eB;rw[h]
mutual
theorem Rep.flat{R B:ao}:∀{v:V}{d:D},Rep K B v d->flat d=true->Rep K (eB R B) v d
 | _,_,.non,_=>.non
 | _,_,.bl b,_=>.bl b
 | _,_,.int i,_=>.int i
 | _,_,.str x,_=>.str x
 | _,_,.ty n,_=>.ty n
 | _,_,.tup h r,f=>.tup (EX h) (Reps.flat r f)
 | _,_,.lst h r,f=>by simp[L3.flat]at f
 | _,_,.scr h,f=>by simp[L3.flat]at f
 | _,_,.ktup h _,f=>by simp[L3.flat]at f
 | _,_,.kfn _,f=>by simp[L3.flat]at f
 | _,_,.dct _ _ _ _,f=>by simp[L3.flat]at f
theorem Reps.flat{R B:ao}:∀{vs:List V}{ds:List D},Reps K B vs ds->flats ds=true->Reps K (eB R B) vs ds
 | _,_,.nil,_=>.nil
 | _,_,.cons h r,f=>by
  rw[flats,aaY]at f
  exact .cons (Rep.flat h f.1) (Reps.flat r f.2)
end
def sr(K:PySem.W.Frag)(t:TE)(u:a5):Prop:=∀(ρ:List aI)(k:D->Prop),u ρ k->∀(R:ao)(W:Addr->Prop)(B H:ao)(σ:St)(Q:cO),Ev K R W B H σ ρ ->
 (∀d v ax H',k d->Ev K R W ax H' σ ρ->bM R B ax->Rep K (eB R ax) v d->Q v H')->t σ H Q
def OL(K:PySem.W.Frag)(t:eV)(u:cQ):Prop:=∀(ρ:List aI)(k:List D->Prop),u ρ k->∀(R:ao)(W:Addr->Prop)(B H:ao)(σ:St)(Q:List V->ao->Prop),Ev K R W B H σ ρ ->
 (∀ds vs ax H',k ds->Ev K R W ax H' σ ρ->bM R B ax->Reps K (eB R ax) vs ds->Q vs H')->t σ H Q
def jU(X:aM)(e:Expr)(u:a5):Prop:=∃t,b0 X e t/\sr X.K t u
def vF(X:aM)(es:List Expr)(u:cQ):Prop:=∃t,hn X es t/\OL X.K t u
def OM(u:a5):a5:=fun ρ k=>u ρ fun d=>flat d=true/\k d
def ON(w:cQ):a5:=fun ρ k=>w ρ fun ds=>flats ds=true/\k (.lst ds)
theorem EY(h:bq X e u):jU X e (OM u):=by
 obtain⟨_,aa,au⟩:=h;refine⟨_,aa,fun ρ k h R W B H σ Q e q=>?_⟩;exact au ρ _ h R W B H σ _ e fun d v a4 H1 z1 ai g1 s1=>q d v a4 H1 z1.2 ai g1 (s1.flat z1.1)
theorem OO(h:kq X e w):jU X e (ON w):=by
 obtain⟨_,aa,au⟩:=h;refine⟨_,aa,fun ρ k h R W B H σ Q e q=>?_⟩;refine au ρ _ h R W B H σ _ e fun ds a vs a4 H1 z1 ai g1 f1 f2 bQ f4 eo=>?_;obtain⟨av,g2⟩:=ai.freeze bQ f1 f2 eo;exact q _ _ _ _ z1.2 av (g1.trans g2) (.lst (u5 ei f1) ((f4.mono g2.s).flat z1.1))
theorem OP:vF X [] rW:=⟨_,fK,fun ρ k h R W B H σ Q e q=>q [] [] B H h e (bM.refl _ _) .nil⟩
theorem Aa(ay:jU X e u)(ak:vF X es w)(aq:starEach (e::es) X.env=(false,eval e X.env)::starEach es X.env:=by rfl):vF X (e::es) (ml u w):=by
 obtain⟨_,aa,au⟩:=ay;obtain⟨_,ab,aG⟩:=ak;refine⟨_,er aa ab aq,fun ρ k h R W B H σ Q e q=>?_⟩;refine au ρ _ h R W B H σ _ e fun d v a4 H1 z1 ai g1 s1=>?_;refine aG ρ _ z1 R W a4 H1 σ _ ai fun ds vs bD aZ aT av g2 s2=>?_;exact q _ _ bD aZ aT av (g1.trans g2) (.cons (s1.mono (rT g2.s)) s2)
theorem OQ{bK}(h:vF X es w):jU X (.Tuple es bK pos) (va w):=by
 obtain⟨_,aa,au⟩:=h;refine⟨_,y' aa,fun ρ k z R W B H σ Q e q=>?_⟩;refine au ρ _ z R W B H σ _ e fun ds vs a4 H1 z1 ai g1 s1=>?_;refine⟨by rw[s1.length];exact z1.1,fun p ag=>?_⟩;have g2:=ai.grow ag (.tup vs);exact q _ _ _ _ z1.2 (ai.alloc ag _) (g1.trans g2) (.tup (EX ei) (s1.mono (rT g2.s)))
def OR(n:Nat)(F:FS)(w:hJ):a5:=fun ρ k=>w ρ fun as=>sh as n=true/\F (as.map Arg.sl) fun r=>∃d,r=.new d/\k d
theorem su{n:Nat}{F:FS}{w:hJ}{x:Str}{ps:List Str}{j lv:Nat}(c:aJ X.prog X.w X.K X.mg X.base x ps j (aL X.K n F))(ak:eA lv X.A)(aD:eJ X x)(ay:ly X (e::es) w)(gL:j<=lv:=by decide)(gW:(x==("__debug__":Str))=false:=by decide)(he:starEach (e::es) X.env=(false,eval e X.env)::starEach es X.env:=by rfl)(e6:(backTo pos (starEach es X.env)).any (·.1)=false:=by rfl):
  jU X (.Call (.Name x p) (e::es) [] pos) (OR n F w):=by
 obtain⟨_,aa,au⟩:=ay;refine⟨_,qg c ak aD aa gL gW he e6,fun ρ k h R W B H σ Q e q=>?_⟩;refine au ρ _ h R W B H σ _ e fun as vs a4 H1 z1 ai g1 s1=>?_;rw[ZF];refine qp ai s1 z1.1 z1.2 fun r v bD aZ ah av g2 res=>?_;obtain⟨d,rfl,ah⟩:=ah;have res:Rep X.K (eB H1 bD) v d:=res;exact q d v bD aZ ah av (g1.trans g2) (res.mono (zC fun a z=>(ai.toWd.fresh z).1))
def OS(u:a5):cW:=fun U ρ=>u ρ fun d=>U.rt (.new d)
theorem EZ(h:jU X e u):e7 X (.Return (some e) pos) (OS u):=by
 obtain⟨_,aa,au⟩:=h;refine⟨_,l8 aa,fun U ρ h R W B H σ D e s=>?_⟩;exact au ρ _ h R W B H σ _ e fun d v a4 H1 z1 ai g1 s1=>s.rt (.new d) v a4 H1 z1 ai.toWd g1 s1
theorem OT{ft:TI}{g:gq}{tt:TT}{cD:TE}{eY:ee}{ut:dD}{dE:Nat}{js:List Nat}(h0:zB K ft w)(aD:qk K g eY)(bt:hK K tt ut)(aa:sr K cD u)(o4:js.Nodup):sr K (qv ft g tt cD dE js) (fun ρ k=>nH w eY ut u dE js ρ fun ds=>k (.lst ds)):=by
 intro ρ k h R W B H σ Q e q;refine h0 ρ _ h R W B H σ _ e fun ds J a4 H1 z1 ai g1 it=>?_;obtain⟨aj,z1⟩:=z1;intro D gJ;obtain⟨f1,f2,bQ⟩:=ai.toWd.fresh gJ;have nJ:∀i,¬cX σ ρ i D:=fun i m=>ai.notNew gJ m rfl;have eE:=ai.within dE o4
 have kD:∀j a,cX (ZI dE none++hp σ js) (ZI dE .no++js.map (jm ρ)) j a->∃j,j∈js/\σ[j]?=some (some (V.ref a))/\ρ[j]?=some aI.bag:=fun j a m=>by
  have bS:=(eE.mutOk m).2;rcases m with⟨bw,z|⟨es,z⟩⟩|⟨c,z,oN⟩
  ·obtain⟨c,aF,aH,_⟩:=eE.bagAt z;rw[bw]at aF;cases aF;rcases aH with aH|aH
   ·exact aH
   ·exact absurd aH bS
  ·obtain⟨c,aF,aH,_⟩:=eE.ownC z;rw[bw]at aF;cases aF;exact absurd aH bS
  ·exact absurd ((eE.deepAt z).2.fr a oN).1 bS
 generalize nK:(fun a=>∃j,j∈js/\σ[j]?=some (some (V.ref a))/\ρ[j]?=some aI.bag)=e' at eE;have kD:∀j a,cX (ZI dE none++hp σ js) (ZI dE .no++js.map (jm ρ)) j a->e' a:=fun j a m=>by rw[<-nK];exact kD j a m
 have g0:∀a,e' a->∃i:Nat,σ[i]?=some (some (.ref a))/\ρ[i]?=some .bag:=fun a z=>by
  rw[<-nK]at z;obtain⟨j,_,z⟩:=z;exact⟨j,z⟩
 have kE:¬e' D:=fun z=>by
  obtain⟨o5,bE,c3⟩:=g0 D z;exact nJ o5 (.inl ⟨bE,.inl c3⟩)
 refine⟨fun i m iX H'=>∃ax ys es hN,m=ds.length-i/\i<=ds.length/\Ev K H1 e' ax H' iX hN/\bM H1 a4 ax/\H' D=some (.lst ys)/\ax D=none/\(∀j a,cX iX hN j a->e' a)/\ys.length<=i/\Reps K (eB H1 ax) ys es/\gN eY ut u (ds.drop i) hN fun r=>k (.lst (es++r)),
  ⟨ds.length,a4,[],[],_,by simp,aaa _,eE.allocH gJ _,bM.refl _ _,ei,bQ,kD,YK _,.nil,by simpa using z1⟩,?_⟩
 rintro i m iX aZ ⟨bD,ys,es,hN,rfl,aB,av,g2,a6,af,sb,EJ,cu,aT⟩;obtain⟨t1,cE,t3⟩:=it aZ (g2.s.trans av.bh) i;by_cases cM:i<ds.length
 ·refine .inr ⟨t1 cM,fun x H' y=>?_⟩;obtain⟨rfl,d,hd,bg⟩:=t3 x H' cM y
  have gd:ds.drop i=d::ds.drop (i+1):=by
   rw[aaH cM];rw[ZT cM]at hd;rw[ZH hd]
  rw[gd]at aT;refine aD d hN _ aT H1 e' bD H' iX x _ av (bg.mono g2.s) fun hO fS fk bC bA=>?_;have gO:∀j a,cX fS hO j a->e' a:=fun j a m=>sb j a (bA j a m)
  have kF:∀{fV:ao},bM H' bD fV->fV D=none:=fun{fV} dx=>by
   cases sd:fV D with
   | none=>rfl
   | some o =>
    rcases dx.n D o sd with z|z
    ·rw[af]at z;cases z
    ·rw[a6]at z;cases z
  refine bt hO _ fk H' e' bD H' fS _ (bC.rebase gO) fun b fV kB eW c6 dx=>?_;have se:kB D=some (.lst ys):=c6.fr D _ a6 kE;cases b with
  | false =>
   rw[if_neg ZR]at eW ⊢;obtain⟨eK,iY⟩:=bC.unbase gO c6 dx;exact⟨ds.length-(i+1),by omega,fV,ys,es,hO,rfl,cM,eK,g2.trans iY,se,kF dx,gO,by omega,cu.mono (rT dx.s),eW⟩
  | true =>
   rw[if_pos rfl]at eW ⊢;refine aa hO _ eW H' e' fV kB fS _ c6 fun eu v sf fI kC eK iY s5=>?_;have iZ:=dx.trans iY;have si:fI D=some (.lst ys):=eK.fr D _ a6 kE;obtain⟨mj,sj⟩:=bC.unbase gO eK iZ;have s5:=s5.mono (zC (R:=H1) fun a z=>(av.toWd.fresh z).1);refine⟨ys,si,by omega,ds.length-(i+1),by omega,sf,ys++[v],es++[eu],hO,rfl,cM,mj.scribble gJ (kF iZ) (fun j m=>kE (gO j D m)) _,g2.trans sj,ei,kF iZ,gO,by rw[Zg,aal];omega,(cu.mono (rT iZ.s)).append (.cons s5 .nil),?_⟩;simpa[ZU]using kC
 ·have eq:i=ds.length:=by omega
  subst eq;rw[aaP]at aT;obtain⟨c6,dx⟩:=ai.after g0 av.toWd g2;obtain⟨eK,iY⟩:=c6.freeze a6 f1 af nJ;refine .inl ⟨cE (YK _),q _ (.ref D) _ aZ (by simpa[gN]using aT) eK ((g1.trans dx).trans iY) (.lst (u5 ei f1) ?_)⟩;exact(cu.mono (zC fun a z=>(ai.toWd.fresh z).1)).mono (rT iY.s)
theorem OU{elt:Expr}{α:Type}{Xs:α->aM}(e4:∀a,(Xs a).K=K)(h:∀a,jU (Xs a) elt u):∃t,(∀a,b0 (Xs a) elt t)/\sr K t u:=by
 refine⟨fun σ H Q=>∀a,∃t,b0 (Xs a) elt t/\sr K t u/\t σ H Q,fun a pins s σ H Q I q=>?_,fun ρ k q R W B H σ Q e z a=>?_⟩
 ·obtain⟨t,bt,_,aA⟩:=q a;exact bt pins s σ H Q I aA
 ·obtain⟨t,bt,ak⟩:=h a;rw[e4 a]at ak;exact⟨t,bt,ak,ak ρ k q R W B H σ Q e z⟩
variable{elt iter bG:Expr}{ifs:List Expr}{scope:Scope}{cl:List (Str×Addr)}{ts fr:List Str}{js:List Nat}{eY:ee}{ut:dD}
def OV(w:cQ):a5:=fun ρ k=>w ρ fun ds=>k (.lst ds)
theorem OW(aB:lz X bG iter w)(aD:∀C s H ex,iT (dn X (ts++fr) scope cl C s H ex) bG eY)(ix:∀C s H ex,nL (dn X (ts++fr) scope cl C s H ex) ifs ut)(iy:∀C s H ex,jU (dn X (ts++fr) scope cl C s H ex) elt u)(F:nE X scope cl fr js)(my:js.Nodup:=by decide)(hc:X.calm=true:=by rfl)(aq:∀v,foldedSetIterable iter X.env v=pure v:=by intro _;rfl):jU X (.ListComp elt [⟨bG,iter,ifs,0⟩] scope pos) (OV (nH w eY ut u ts.length js)):=by
 obtain⟨_,h0,gw⟩:=aB;obtain⟨vC,mz,rg⟩:=sm (K:=X.K) (Xs:=fun a:Addr×Shared×ao×List Addr=>dn X (ts++fr) scope cl a.1 a.2.1 a.2.2.1 a.2.2.2) (fun _=>rfl) fun a=>aD a.1 a.2.1 a.2.2.1 a.2.2.2;obtain⟨tt,mA,rt⟩:=sk (K:=X.K) (Xs:=fun a:Addr×Shared×ao×List Addr=>dn X (ts++fr) scope cl a.1 a.2.1 a.2.2.1 a.2.2.2) (fun _=>rfl) fun a=>ix a.1 a.2.1 a.2.2.1 a.2.2.2;obtain⟨cD,mB,re⟩:=OU (K:=X.K) (Xs:=fun a:Addr×Shared×ao×List Addr=>dn X (ts++fr) scope cl a.1 a.2.1 a.2.2.1 a.2.2.2) (fun _=>rfl) fun a=>iy a.1 a.2.1 a.2.2.1 a.2.2.2;exact⟨_,z2 h0 (fun C s H ex=>mz (C,s,H,ex)) (fun C s H ex=>mA (C,s,H,ex)) (fun C s H ex=>mB (C,s,H,ex)) F hc aq,OT gw rg rt re my⟩
end
section
variable{K:PySem.W.Frag}{X:aM}{e:Expr}{es:List Expr}{u:a5}{w:cQ}{pos p:Pos}{I:List Nat}{i:Nat}{rest:List Stmt}{Ab:il->List aI->D->List aI->Prop}
theorem E0:∀{ds:List D}{n:Nat}{d:D},flats ds=true->ds[n]?=some d->flat d=true
 | [],n,d,_,h=>by simp at h
 | x::r,0,d,f,h=>by rw[flats,aaY]at f;simp at h;subst h;exact f.1
 | x::r,n+1,d,f,h=>by rw[flats,aaY]at f;exact E0 (n:=n) f.2 (by simpa using h)
end
section
variable{X:aM}{a b:Expr}{bH bW:a5}{pos:Pos}
def sv:D->Option (List D)
 | .tup ds=>some ds
 | .lst ds=>some ds
 | .ktup ds=>some ds
 | _=>none
def OX(K:PySem.W.Frag):e5:=fun x y H Q=>∃p xs i v,x=.ref p/\y=.int i/\(en K H p xs∨cJ K H p xs)/\dO xs i=some v/\Q v H
theorem OY:qd X (OX X.K):=by
 intro value slice pins s σ H x y v u Q I bg cu h aq;obtain⟨p,xs,i,z,ai,av,aA,he,q⟩:=h;rcases aA with aA|aA
 ·exact DJ value slice pins s σ H x y v u Q I bg cu ⟨p,xs,i,z,ai,av,aA,he,q⟩ aq
 ·exact zf value slice pins s σ H x y v u Q I bg cu ⟨p,xs,i,z,ai,av,aA,he,q⟩ aq
def OZ(bH bW:a5):a5:=fun ρ k=>bH ρ fun x=>bW ρ fun y=>∃ds i d,sv x=some ds/\y=.int i/\dO ds i=some d/\k d
theorem h5(ay:bq X a bH)(af:bq X b bW)(aq:uS b):bq X (.Subscript a b pos) (OZ bH bW):=by
 obtain⟨_,aa,au⟩:=ay;obtain⟨_,ab,aG⟩:=af;refine⟨_,lp OY aa ab aq,qm au aG fun x y k h R W B H σ ρ v k8 Q e bg cu q=>?_⟩;obtain⟨ds,i,d,aC,rfl,ay,ah⟩:=h;cases bg with
 | tup ag ir =>
  cases aC;obtain⟨z,bb,h3⟩:=rY ir ay;exact⟨_,_,i,z,rfl,cu.intV,.inl (en.of (e.bh _ _ ag)),bb,q d z B H ah e (bM.refl _ _) h3⟩
 | lst ag ir =>
  cases aC;obtain⟨z,bb,h3⟩:=rY ir ay;exact⟨_,_,i,z,rfl,cu.intV,.inr (cJ.of (e.bh _ _ ag)),bb,q d z B H ah e (bM.refl _ _) h3⟩
 | ktup ag ir =>
  cases aC;obtain⟨z,bb,h3⟩:=rY ir ay;exact⟨_,_,i,z,rfl,cu.intV,.inl (DY e.bh ag),bb,q d z B H ah e (bM.refl _ _) h3⟩
 | _=>cases aC
structure qG (K:PySem.W.Frag) (mg:Str->Option Value) (x:Str) (ns:List Int):Prop where
 ex:∃p:Addr,mg x=some (.ref p)/\∀H:ao,en K H p (ns.map V.int)
theorem sx{x:Str}{ns:List Int}(g:qG X.K X.mg x ns)(aD:eJ X x)(hd:(x==("__debug__":Str))=false:=by decide):bq X (.Name x pos) (ql (.ktup (ns.map D.int))):=by
 obtain⟨p,hm,aq⟩:=g.ex;refine⟨_,C7 (v:=.ref p) aD hm rfl hd,fun ρ k h R W B H σ Q e q=>?_⟩;exact q _ _ B H h e (bM.refl _ _) (.ktup (aq B) (Reps.ints ns))
theorem O0{K:PySem.W.Frag}{mg:Str->Option Value}{x:Str}{p:Addr}{i j:Int}{hF o7:Tok}{od:Option Addr}{sl:Array (Option Value)}{n:Nat}(hm:mg x=some (.ref p))(aj:K.lookup p=some ⟨.type "tuple",od,.seq #[.int i hF,.int j o7] n,sl⟩):qG K mg x [i,j]:=
 ⟨p,hm,fun H=>.inr ⟨_,_,_,aj,rfl,rfl,by show 2<=sizeLine;decide,.cons ⟨_,rfl⟩ (.cons ⟨_,rfl⟩ .nil)⟩⟩
end
end L3
namespace L3
open PySem PySem.W L2
def jV(h:Heap):Frag:=(ZX h.objs.size).filterMap fun a=>(h.get? a).map fun o=>(a,o)
theorem E1(g:Nat->Option Obj)(a:Nat):∀l:List Nat,(l.filterMap fun b=>(g b).map fun o=>(b,o)).lookup a=if a∈l then g a else none
 | []=>rfl
 | b::l=>by
  have c0:=E1 g a l;cases q:g b with
  | none =>
   rw[List.filterMap_cons_none (by rw[q];rfl),c0];by_cases e:a=b
   ·subst e;rw[q];simp
   ·simp[e]
  | some o =>
   rw[List.filterMap_cons_some (b:=(b,o)) (by rw[q];rfl),List.lookup_cons];by_cases e:a=b
   ·subst e;simp[q]
   ·have:(a==b)=false:=by simpa using e
    simp only[this,c0,ZA,e,false_or]
theorem qH(h:Heap)(a:Addr):(jV h).lookup a=h.get? a:=by
 refine(E1 h.get? a _).trans ?_;by_cases e:a<h.objs.size
 ·rw[if_pos (aar.mpr e)]
 ·rw[if_neg (fun z=>e (aar.mp z))];exact(Heap.get?_none_of_le (Nat.le_of_not_lt e)).symm
theorem O1(h:Heap):Frag.In (jV h) h:=fun a o e=>by rw[qH]at e;exact e
theorem sy(h:Heap)(name:Str):nsIn (jV h) mainGlobals name=oy h name:=by unfold nsIn oy;rw[qH];rfl
theorem O2(h:Heap)(cd:Value)(q:Str):codeIn (jV h) cd q=xT h cd q:=by
 unfold codeIn xT;cases cd<;>first|rfl|(simp only[qH];rfl)
def vG(K:Frag)(x:Str)(st:Stmt):Prop:=∃f fd,nsIn K mainGlobals x=some (some (.ref f))/\lq K x x st f fd
theorem Ac(x:Str)(st:Stmt):ui x st=some (x,x,rO st,.stmts (kn st),b4 st,mainGlobals,[],.none,builtinsNs,true):=by cases st<;>rfl
theorem O3{h:Heap}{x:Str}{st:Stmt}(e:uh h x=ui x st):vG (jV h) x st:=by
 unfold uh at e;split at e
 ·rename_i f hf
  split at e
  ·rename_i oc od fd osl aE
   obtain⟨nm,Dn,ps,bd,sc,gl,cl,YX,kd,doc,pm,an,cdv,ct,iA⟩:=fd;rw[Ac]at e;simp only[abT,abe]at e;obtain⟨rfl,rfl,rfl,rfl,rfl,rfl,rfl,rfl,rfl,e⟩:=e;refine⟨f,_,by rw[sy];exact hf,Mp (oc:=oc) (od:=od) (osl:=osl) (kV:=kd) (doc:=doc) (pm:=pm) (an:=an) (cdv:=cdv) (ct:=ct) (by rw[qH];exact aE) (by rw[O2];exact e) ?_⟩;unfold keepIn;simp only[qH,aE]
  ·rw[Ac]at e;cases e
 ·rw[Ac]at e;cases e
def Ad(K:Frag):List (Str×Stmt)->Prop
 | []=>True
 | p::l=>vG K p.1 p.2/\Ad K l
def AllB(K:Frag):List Str->Prop
 | []=>True
 | b::l=>nsIn K mainGlobals b=some none/\AllB K l
def vH(K:Frag)(x:Str)(i j:Int):Prop:=∃p od sl n hF o7,nsIn K mainGlobals x=some (some (.ref p))/\K.lookup p=some ⟨.type "tuple",od,.seq #[.int i hF,.int j o7] n,sl⟩
def Ae(K:Frag):List (Str×Int×Int)->Prop
 | []=>True
 | p::l=>vH K p.1 p.2.1 p.2.2/\Ae K l
def E2(K:Frag)(x:Str)(c:Int ⊕ Str):Prop:=match c with
 | .inl i=>∃t,nsIn K mainGlobals x=some (some (.int i t))
 | .inr s=>∃t,nsIn K mainGlobals x=some (some (.str s t))
def Af(K:Frag):List (Str×(Int ⊕ Str))->Prop
 | []=>True
 | p::l=>E2 K p.1 p.2/\Af K l
structure Tab (t:m1) (K:Frag):Prop where
 tf:Ad K t.fs
 tb:AllB K t.bs
 tt:Ae K t.ts
 tc:Af K t.cs
def saysH(t:m1)(_:World)(h:Heap):Prop:=∃K:Frag,K.In h/\Tab t K
theorem E3{h:Heap}:∀{l:List (Str×Stmt)},(l.map fun p=>uh h p.1)=(l.map fun p=>ui p.1 p.2)->Ad (jV h) l
 | [],_=>trivial
 | p::l,e=>by
  simp only[ZE,abx]at e;exact⟨O3 e.1,E3 e.2⟩
theorem allB_of{h:Heap}:∀{l:List Str},(l.map fun b=>oy h b)=(l.map fun _=>some none)->AllB (jV h) l
 | [],_=>trivial
 | p::l,e=>by
  simp only[ZE,abx]at e;exact⟨by rw[sy];exact e.1,allB_of e.2⟩
theorem O4{h:Heap}{x:Str}{i j:Int}(e:uj h x=some (x,i,j)):vH (jV h) x i j:=by
 unfold uj at e;split at e
 ·rename_i p ag
  split at e
  ·rename_i od its n sl aE
   split at e
   ·rename_i o5 hF qB o7 aB
    simp only[abT,abe]at e;obtain⟨_,rfl,rfl⟩:=e;have dm:its = #[.int o5 hF,.int qB o7]:=Array.toList_inj.mp aB;subst dm;exact⟨p,od,sl,n,hF,o7,by rw[sy];exact ag,by rw[qH];exact aE⟩
   ·cases e
  ·cases e
 ·cases e
theorem E4{h:Heap}:∀{l:List (Str×Int×Int)},(l.map fun p=>uj h p.1)=(l.map fun p=>some p)->Ae (jV h) l
 | [],_=>trivial
 | p::l,e=>by
  simp only[ZE,abx]at e;exact⟨O4 e.1,E4 e.2⟩
theorem O5{h:Heap}{x:Str}{c:Int ⊕ Str}(e:uk h x=some (x,c)):E2 (jV h) x c:=by
 unfold uk at e;split at e
 ·rename_i i t ag
  simp only[abT,abe]at e;obtain⟨_,rfl⟩:=e;exact⟨t,by rw[sy];exact ag⟩
 ·rename_i i t ag
  simp only[abT,abe]at e;obtain⟨_,rfl⟩:=e;exact⟨t,by rw[sy];exact ag⟩
 ·cases e
theorem E5{h:Heap}:∀{l:List (Str×(Int ⊕ Str))},(l.map fun p=>uk h p.1)=(l.map fun p=>some p)->Af (jV h) l
 | [],_=>trivial
 | p::l,e=>by
  simp only[ZE,abx]at e;exact⟨O5 e.1,E5 e.2⟩
theorem ofH(t:m1)(w:World)(s:Shared)(e:ry t s=rz t w):saysH t w s.heap:=by
 simp only[ry,rz,abe]at e;exact⟨jV s.heap,O1 _,E3 e.1,allB_of e.2.1,E4 e.2.2.1,E5 e.2.2.2⟩
theorem keepsH(t:m1)(w:World)(h h':Heap)(y:saysH t w h)(k:∀b o,h.get? b=some o->h'.get? b=some o):saysH t w h':=by
 obtain⟨K,x,r⟩:=y;exact⟨K,x.keeps k,r⟩
theorem vG.fnd{K:Frag}{h:Heap}{mg:Str->Option Value}{x:Str}{st:Stmt}{ps:List Str}(X:K.In h)(G:h.Ns mainGlobals mg)(F:vG K x st)(b:∀f fd,lq K x x st f fd->Binds K fd ps []):cG K mg x st ps:=by
 obtain⟨f,fd,m,F⟩:=F;exact⟨f,fd,mg_of X G m,F,b f fd F⟩
theorem vH.gtup{K:Frag}{h:Heap}{mg:Str->Option Value}{x:Str}{i j:Int}(X:K.In h)(G:h.Ns mainGlobals mg)(F:vH K x i j):qG K mg x [i,j]:=by
 obtain⟨p,od,sl,n,hF,o7,m,l⟩:=F;exact O0 (mg_of X G m) l
theorem walkH{l:OpenLaw}{k:Nat}{q:Program}{loose:List Str}{XP:(Str->Option Value)->Heap->Prop}{t:m1}{d:DefRec}(aN:l.most=some 63)(zm:d.params.defaults=[])(ak:eA k callerA)(F:∀(w:World) (K:Frag) (mg:Str->Option Value) (gs:Addr) (h:Heap),Tab t K->K.In h->h.Ns mainGlobals mg->mg d.name=some (.ref gs)->∃fd:FuncData,(∀(s:Shared) (u:Value),BindsTo s fd ⟨[u],[]⟩ [("_law_script",u)])/\∀base:Heap,K.In base->base.Ns mainGlobals mg->iO l.prog w K mg base jg k gs fd ["_law_script"] (vq K)):
  WalkO q loose XP (saysH t) l.row.toRowW d [] (fun f vs=>PySem.call f vs):=by
 refine Att.attach_call aN zm fun w s₀ dN mg gn gs o pm cd doc a vs ns G Y aE hd dz rN zo hints hlen aD=>?_;obtain⟨K,nh,T⟩:=Y;obtain⟨fd,af,jl⟩:=F w K mg gs _ T nh G.T.g rN;exact Mj nh G.T.g G.T.b G.T.builtins G.T.nolimit aD zo hints (Gg hlen (by decide)) ak jl af (fun H zq cp=>⟨a,ns,rfl,cp,hlen,fun _=>rfl⟩) fun H e s' z=>z
end L3
namespace L2
open PySem PySem.Spec PyProof.Rows PySem.W
section
variable{prog:Program}{w:World}{A:Around}{E:Value->Shared->Prop}{s:Shared}
theorem E6{it t:Addr}{items:Array Value}(jS:t≠it):∀(n i:Nat)(s:Shared)(Q:List Value->Shared->Prop),s.heap.IsListIter it t i->s.heap.IsList t items->i+n<=items.size ->
  (∀h',h'.IsListIter it t (i+n)->Heap.SameBut it s.heap h'->Q ((items.toList.drop i).take n) { s with heap:=h' })->wpAny (model prog w) A (draw (.ref it) n) Q E s
 | 0,i,s,Q,hit,_,_,gV=>by
  show wpAny _ _ (pure []) Q E s
  exact wpAny_pure (by simpa using gV s.heap hit (Heap.SameBut.refl ..))
 | n+1,i,s,Q,hit,bt,hle,gV=>by
  have cM:i<items.size:=by omega
  show wpAny _ _ (pyNext (.ref it) >>= _) Q E s
  refine wpAny_bind (wpAny_pyNext_list_item hit bt (x:=items[i]) (by simp[cM]) fun E7 Ag sA=>?_);refine wpAny_bind (wpAny_holding (E6 jS n (i+1) _ _ Ag (bt.extBut sA.extBut jS) (by omega) fun Ah O6 O7=>wpAny_pure ?_));have hd:items.toList.drop i=items[i]::items.toList.drop (i+1):=by simp[aaH,cM]
  have:=gV Ah (by rw[show i+(n+1)=i+1+n by omega];exact O6) (sA.trans O7);rw[hd,acp]at this;exact this
theorem O8{t:Addr}{items:Array Value}{Q:List Value->Shared->Prop}(et:A.handled=none)(bt:s.heap.IsList t items)(gV:∀h',Heap.ExtBut s.heap.objs.size s.heap h'->Q items.toList { s with heap:=h' }):wpAny (model prog w) A (unpackItems (.ref t) items.size none) Q E s:=by
 have cM:t≠s.heap.objs.size:=by obtain⟨o,aE,_⟩:=bt;exact Z0 (Heap.lt_size aE)
 unfold unpackItems;refine wpAny_bind ?_
 ·unfold notIterableAtAll;refine wpAny_bind (wpAny_specialOf bt.typeIs F.slot_list_iter.lookup ?_);refine wpAny_pure ?_;simp only[aan,if_false];refine wpAny_bind (wpAny_holding (wpAny_pyIter_list bt ?_));refine wpAny_bind (wpAny_holding (E6 cM items.size 0 _ _ ⟨_,Heap.get?_push_size _ rfl,rfl,rfl⟩ (bt.push _) (by omega) fun E7 Ag sA=>?_))
  have qe:List.take items.size (List.drop 0 items.toList)=items.toList:=by
   rw[acq];exact aco (by simp)
  rw[qe];rw[if_neg (by simp)];have O9:E7.IsList t items:=(bt.push _).extBut sA.extBut cM;refine wpAny_bind (wpAny_holding (wpAny_pyNext_list_end et Ag O9 (by simp) fun Ah O'=>?_));simp only[Option.isSome_none,aan,if_false];refine wpAny_pure (gV Ah fun b o af e=>O' b o af (sA.extBut b o af (Heap.get?_push_of_some _ e)))
theorem Pa{env:abd}{elts:List Expr}{bK}{pos:Pos}{t:Addr}{items:Array Value}{Q:Unit->Shared->Prop}(et:A.handled=none)(bt:s.heap.IsList t items)(aN:(assignEach elts env).length=items.size)(Pb:(assignEach elts env).findIdx? (·.1)=none)(h:∀h',Heap.ExtBut s.heap.objs.size s.heap h'->wpAny (model prog w) A (assignInOrder ((assignEach elts env).map (·.2)) items.toList) Q E { s with heap:=h' }):
  wpAny (model prog w) A (assign (.Tuple elts bK pos) env (.ref t)) Q E s:=by
 rw[arm_assign_Tuple];refine wpAny_bind (wpAny_standAt ?_);unfold unpack;rw[aN,Pb];exact wpAny_bind (wpAny_holding (O8 et bt h))
end
section
variable{X:aM}{pos:Pos}
def Pc(K:PySem.W.Frag)(n:Nat)(t:kf):gq:=fun v σ H Q=>∃a xs,v=.ref a/\cJ K H a xs/\xs.length=n/\t xs σ H Q
theorem Pd{es:List Expr}{k:Nat}{t:kf}{n:Nat}(hc:X.calm=true)(h:oF X es t)(aN:(assignEach es X.env).length=n:=by rfl)(l9:(assignEach es X.env).findIdx? (·.1)=none:=by rfl):iK X (.Tuple es k pos) (Pc X.K n t):=by
 intro pins s σ H v u Q I r hw;obtain⟨a,xs,ai,aA,aj,hw⟩:=hw;subst ai;cases r;obtain⟨its,cb,bt,bb⟩:=I.list aA;refine Pa (I.ok.hd hc) bt.isList (by simp[aN,<-aj,cb.length]) l9 fun h' aC=>?_;have bf:Inv X pins σ H { s with heap:=h' }:=I.kept (t':=s.toks) fun b o e=>aC b o (Z0 (Heap.lt_size e)) e;exact h pins _ σ H xs _ Q bf (by simpa using cb) hw
end
end L2
namespace L3
open PySem L2
section
variable{X:aM}{es:List Expr}{pos:Pos}
def Pe(n:Nat)(gb:iR):ee:=fun d ρ k=>∃ds,d=.lst ds/\ds.length=n/\gb ds ρ k
theorem Pf{cC:Nat}{gb:iR}{n:Nat}(hc:X.calm=true)(h:rU X es gb)(aN:(assignEach es X.env).length=n:=by rfl)(l9:(assignEach es X.env).findIdx? (·.1)=none:=by rfl):iT X (.Tuple es cC pos) (Pe n gb):=by
 obtain⟨_,aa,au⟩:=h;refine⟨_,Pd hc aa aN l9,fun d ρ k h R W B H σ v Q e r q=>?_⟩;obtain⟨ds,rfl,aj,h⟩:=h;obtain⟨a,vs,rfl,ay,rs⟩:=r.lstV;exact⟨a,vs,rfl,cJ.of (e.bh _ _ ay),by rw[rs.length];exact aj,au ds ρ k h R W B H σ vs Q e rs q⟩
end
end L3
namespace Cut
open PySem L2 L3
open PySem.Builtin.Int (intBits)
def sld(g p:P3):P3:=(p.1*g.2.2+g.1*p.2.2,p.2.1*g.2.2+g.2.1*p.2.2,p.2.2*g.2.2)
def trn(p:P3):P3:=(-p.1,-p.2.1,p.2.2)
def Ai(p q r s:P3):P3:=crs (crs p q) (crs r s)
def bc(p q r:P3):Int:=(crs p q).1*r.1+(crs p q).2.1*r.2.1+(crs p q).2.2*r.2.2
def sg(x:Int):Int:=if 0<x then 1 else if x<0 then -1 else 0
theorem Pg{x y c d:Int}(hc:0<c)(hd:0<d)(h:c*x=d*y):sg x=sg y:=by
 have pos:0<x↔0<y:=by
  constructor
  ·intro aC;have:=Ze hc aC;rw[h]at this;exact aaG this hd
  ·intro a6;have:=Ze hd a6;rw[<-h]at this;exact aaG this hc
 have E8:x=0↔y=0:=by
  constructor
  ·intro aC;rw[aC,ZO]at h;exact(aab.mp h.symm).resolve_left (YM hd)
  ·intro a6;rw[a6,ZO]at h;exact(aab.mp h).resolve_left (YM hc)
 unfold sg;by_cases aa:0<x
 ·rw[if_pos aa,if_pos (pos.mp aa)]
 ·rw[if_neg aa,if_neg (fun z=>aa (pos.mpr z))];by_cases ab:x=0
  ·rw[if_neg (by omega),if_neg (by have:=E8.mp ab;omega)]
  ·have:y≠0:=fun z=>ab (E8.mpr z);have:¬0<y:=fun z=>aa (pos.mpr z);rw[if_pos (by omega),if_pos (by omega)]
structure sC (L:P3->P3):Prop where
 hom:∀c p,L (sc c p)=sc c (L p)
 z:∃k,0<k/\∀p,(L p).2.2=k*p.2.2
 mt:∃d,d≠0/\∀p q r s,Ai (L p) (L q) (L r) (L s)=sc d (L (Ai p q r s))
 dt:∃d,0<d/\∀p q r,bc (L p) (L q) (L r)=d*bc p q r
def cs(g c:P3):P3:=(g.2.2*c.1,g.2.2*c.2.1,g.2.2*c.2.2-g.1*c.1-g.2.1*c.2.1)
theorem Aj(g p q:P3):crs (sld g p) (sld g q)=sc g.2.2 (cs g (crs p q)):=by
 refine ef ?_ ?_ ?_<;>simp only[crs,sc,sld,cs]<;>grind
theorem Ph(g u v:P3):crs (cs g u) (cs g v)=sc g.2.2 (sld g (crs u v)):=by
 refine ef ?_ ?_ ?_<;>simp only[crs,sc,sld,cs]<;>grind
theorem Pj{g:P3}(aD:0<g.2.2):sC (sld g):=by
 have a7:=YM aD;refine⟨fun c p=>by refine ef ?_ ?_ ?_<;>simp only[sc,sld]<;>grind,⟨g.2.2,aD,fun p=>by simp only[sld];grind⟩,⟨g.2.2*g.2.2*g.2.2,ZN (ZN a7 a7) a7,fun p q r s=>?_⟩,⟨g.2.2*g.2.2*g.2.2,Ze (Ze aD aD) aD,fun p q r=>?_⟩⟩
 ·unfold Ai;rw[Aj,Aj,z',Ph,EU]
 ·unfold bc;rw[Aj];generalize crs p q=c;simp only[sc,cs,sld];grind
theorem sC.low{L:P3->P3}(l:sC L){p:P3}(ag:0<p.2.2):0<(L p).2.2/\∃k,0<k/\L p=sc k (nP (L p)):=by
 obtain⟨k,cC,e⟩:=l.z;have pos:0<(L p).2.2:=by rw[e];exact Ze cC ag
 obtain⟨g,a7,lI⟩:=i0 (YM pos);have cR:=(fg (YM pos)).1;refine⟨pos,g,?_,lI⟩;have bC:(L p).2.2=g*(nP (L p)).2.2:=congrArg (fun p:P3=>p.2.2) lI;rw[bC]at pos;exact aby pos cR
theorem Pk(a b c:Int)(p q r:P3):bc (sc a p) (sc b q) (sc c r)=a*b*c*bc p q r:=by
 simp only[bc,z'];generalize crs p q=u;simp only[sc];grind
theorem sC.side{L:P3->P3}(l:sC L){p q r:P3}(ag:0<p.2.2)(aA:0<q.2.2)(ak:0<r.2.2):sg (bc (nP (L p)) (nP (L q)) (nP (L r)))=sg (bc p q r):=by
 obtain⟨_,a,fE,dm⟩:=l.low ag;obtain⟨_,b,dr,ep⟩:=l.low aA;obtain⟨_,c,g7,gB⟩:=l.low ak;obtain⟨d,gP,gd⟩:=l.dt;refine Pg (Ze (Ze fE dr) g7) gP ?_;rw[<-Pk,<-dm,<-ep,<-gB,gd]
theorem iB{a b:Int}(h:∀k:Int,k∣a->k∣b->k∣1):YJ a b=1:=by
 have q:=abu.mpr (h _ (abL a b) (abr a b));simpa using q
theorem i2{a b k:Int}(g:YJ a b=1)(aa:k∣a)(ab:k∣b):k∣1:=by
 have:=acr aa ab;rw[g]at this;exact this
theorem nN{k n m:Int}(h:k∣n*m)(g:YJ k m=1):k∣n:=mh (by rw[ZQ];exact h) g
theorem sD{a b k:Int}(g:YJ a b=1)(h:k∣a):YJ k b=1:=iB fun j aa ab=>i2 g (Z2 aa h) ab
theorem vI{x y t b:Int}(l:aO x y)(af:b≠0)(e:x*b=t*y):cA t b=(x,y):=by
 rw[<-OJ l];exact OI af (YM l.1) e.symm
theorem E9{x y z a b n:Int}(p:lu x y z)(aN:n≠0)(ai:x*n=a*z)(av:y*n=b*z):cx a b n=(x,y,z):=by
 obtain⟨q,f1,f2,_⟩:=iz (a:=a) (b:=b) aN;obtain⟨aa,ab,aK⟩:=u1 q p (aaj aN (by grind)) (aaj aN (by grind));exact aaB aa (aaB ab aK)
theorem nO{a b:Int}(h:a≠0∨b≠0):∃x y:Int,a=((YJ a b:Nat):Int)*x/\b=((YJ a b:Nat):Int)*y/\YJ x y=1:=by
 obtain⟨x,aC⟩:=abL a b;obtain⟨y,a6⟩:=abr a b;refine⟨x,y,aC,a6,?_⟩
 have pos:0<YJ a b:=by
  rcases h with h|h
  ·exact ac4 b h
  ·exact abK a h
 have q:YJ a b=(((YJ a b:Nat):Int)).natAbs*YJ x y:=OG aC a6;rw[ac5]at q;exact ach pos (by omega)
theorem E'{a b:Int}(h:a≠0∨b≠0):((YJ a b:Nat):Int)≠0:=by
 have pos:0<YJ a b:=by
  rcases h with h|h
  ·exact ac4 b h
  ·exact abK a h
 omega
theorem kH{a b:Int}(h:a≠0∨b≠0):0<((YJ a b:Nat):Int):=by
 have:=E' h;omega
theorem pos_r{s y:Int}(s0:0<s)(h:0<s*y):0<y:=aaG h s0
theorem Fb{x y u k Y V:Int}(g:YJ x y=1)(a6:Y∣y)(Pl:YJ Y V=1)(aa:k∣x*V+u*Y)(ab:k∣Y):k∣1:=by
 have aK:k∣x*V:=by
  have:=acs aa (aao ab (b:=u));simpa using this
 exact i2 g (nN aK (sD Pl ab)) (Z2 ab a6)
theorem Fc{x y u v:Int}(bx:aO x y)(bB:aO u v){s top d:Int}(aq:s=(YJ y v:Nat))(bt:top=x*v.fdiv s+u*y.fdiv s)(hd:d=(YJ s top:Nat)):
  (top.fdiv d,y.fdiv s*v.fdiv d)=cA (x*v+u*y) (y*v):=by
 obtain⟨bX,g1⟩:=bx;obtain⟨v0,g2⟩:=bB;obtain⟨Y,V,lJ,lK,sE⟩:=nO (a:=y) (b:=v) (.inl (YM bX));have s0:0<s:=by rw[aq];exact kH (.inl (YM bX))
 rw[<-aq]at lJ lK;have s1:=YM s0;rw[hP lK s1,hP lJ s1]at bt;obtain⟨S,T,cp,dC,Pm⟩:=nO (a:=s) (b:=top) (.inl s1);have gP:0<d:=by rw[hd];exact kH (.inl s1)
 rw[<-hd]at cp dC;have bN:=YM gP;have sF:v=d*(S*V):=by rw[lK,cp,aaN]
 rw[hP dC bN,hP lJ s1,hP sF bN];have sG:0<Y:=pos_r s0 (by omega);have Ak:0<V:=pos_r s0 (by omega);have Al:0<S:=pos_r gP (by omega);refine(vI ⟨Ze sG (Ze Al Ak),?_⟩ (YM (Ze bX v0)) ?_).symm
 ·refine iB fun k aa ab=>?_;have kt:k∣top:=by rw[dC];exact aao aa
  have aF:YJ k Y=1:=iB fun j eN eO=>Fb g1 ⟨s,by rw[lJ,ZQ]⟩ sE (by rw[<-bt];exact Z2 eN kt) eO;have aH:YJ k V=1:=iB fun j eN eO=>Fb (x:=u) (u:=x) (Y:=V) (V:=Y) g2 ⟨s,by rw[lK,ZQ]⟩ (by rw[aam];exact sE) (by rw[acu,<-bt];exact Z2 eN kt) eO;exact i2 Pm (nN (mh ab aF) aH) aa
 ·grind
theorem Pn{x y u v:Int}(bx:aO x y)(bB:aO u v):
  (x.fdiv ((YJ x v:Nat):Int)*u.fdiv ((YJ u y:Nat):Int),y.fdiv ((YJ u y:Nat):Int)*v.fdiv ((YJ x v:Nat):Int))=cA (x*u) (y*v):=by
 obtain⟨bX,g1⟩:=bx;obtain⟨v0,g2⟩:=bB;obtain⟨X,V,nQ,lK,Po⟩:=nO (a:=x) (b:=v) (.inr (YM v0));obtain⟨U,Y,nR,lJ,Pp⟩:=nO (a:=u) (b:=y) (.inr (YM bX));have f0:=kH (a:=x) (b:=v) (.inr (YM v0));have h0:=kH (a:=u) (b:=y) (.inr (YM bX));generalize((YJ x v:Nat):Int)=f at *;generalize((YJ u y:Nat):Int)=h at *;rw[hP nQ (YM f0),hP lK (YM f0),hP nR (YM h0),hP lJ (YM h0)];have sG:0<Y:=pos_r h0 (by omega);have Ak:0<V:=pos_r f0 (by omega);refine(vI ⟨Ze sG Ak,?_⟩ (YM (Ze bX v0)) ?_).symm
 ·refine iB fun k bU cn=>?_;have Pq:YJ X Y=1:=iB fun j eN eO=>i2 g1 (by rw[nQ];exact aao eN) (by rw[lJ];exact aao eO);have Pr:YJ U V=1:=iB fun j eN eO=>i2 g2 (by rw[nR];exact aao eN) (by rw[lK];exact aao eO)
  have aF:YJ k Y=1:=iB fun j eN eO=>by
   have aK:j∣X*U:=Z2 eN bU;have bo:j∣U:=mh aK (iB fun i gQ jq=>i2 Pq jq (Z2 gQ eO));exact i2 Pp bo eO
  have df:k∣V:=mh cn aF;have fl:k∣U:=mh bU (iB fun i gQ jq=>i2 Po jq (Z2 gQ df));exact i2 Pr fl df
 ·grind
theorem Fd{x y z:Int}(h:∀k:Int,k∣x->k∣y->k∣z->k∣1):YJ (YJ x y:Nat) z=1 :=
 iB fun k aa ab=>h k (Z2 aa (abL x y)) (Z2 aa (abr x y)) ab
theorem Pt{x y z k:Int}(g:YJ (YJ x y:Nat) z=1)(aa:k∣x)(ab:k∣y)(aK:k∣z):k∣1:=i2 g (acr aa ab) aK
theorem Pu{x y u v:Int}(bx:aO x y)(bB:aO u v):
  (x*v.fdiv ((YJ y v:Nat):Int),u*y.fdiv ((YJ y v:Nat):Int),y.fdiv ((YJ y v:Nat):Int)*v)=cx (x*v) (u*y) (y*v):=by
 obtain⟨bX,g1⟩:=bx;obtain⟨v0,g2⟩:=bB;obtain⟨Y,V,lJ,lK,sE⟩:=nO (a:=y) (b:=v) (.inl (YM bX));have s0:=kH (a:=y) (b:=v) (.inl (YM bX));generalize((YJ y v:Nat):Int)=s at *;rw[hP lK (YM s0),hP lJ (YM s0)];have sG:0<Y:=pos_r s0 (by omega);refine(E9 ⟨Ze sG v0,?_⟩ (YM (Ze bX v0)) ?_ ?_).symm
 ·refine Fd fun k aa ab aK=>?_;have aF:YJ k Y=1:=iB fun j eN eO=>i2 g1 (nN (Z2 eN aa) (sD sE eO)) (by rw[lJ];exact aao eO);have aH:YJ k V=1:=iB fun j eN eO=>i2 g2 (nN (Z2 eN ab) (sD (by rw[aam];exact sE) eO)) (by rw[lK];exact aao eO);have bo:k∣u:=nN ab aF;have df:k∣v:=mh aK aF;exact i2 g2 bo df
 ·grind
 ·grind
theorem Fe{a b n r w k N M:Int}(g:YJ (YJ a b:Nat) n=1)(aN:N∣n)(Ff:YJ N M=1)(aa:k∣a*M+r*N)(ab:k∣b*M+w*N)(aK:k∣N):k∣1:=by
 have aW:k∣a*M:=by
  have:=acs aa (aao aK (b:=r));simpa using this
 have bS:k∣b*M:=by
  have:=acs ab (aao aK (b:=w));simpa using this
 exact Pt g (nN aW (sD Ff aK)) (nN bS (sD Ff aK)) (Z2 aK aN)
theorem Pw{a b n r w m:Int}(cN:lu a b n)(c2:lu r w m){s X Y d:Int}(aq:s=(YJ n m:Nat))(nQ:X=a*m.fdiv s+r*n.fdiv s)(Am:Y=b*m.fdiv s+w*n.fdiv s)(hd:d=(YJ ((YJ s X:Nat):Int) Y:Nat)):
  (X.fdiv d,Y.fdiv d,n.fdiv s*m.fdiv d)=cx (a*m+r*n) (b*m+w*n) (n*m):=by
 obtain⟨cR,g1⟩:=cN;obtain⟨m0,g2⟩:=c2;obtain⟨N,M,bI,gK,Fg⟩:=nO (a:=n) (b:=m) (.inl (YM cR));have s0:0<s:=by rw[aq];exact kH (.inl (YM cR))
 rw[<-aq]at bI gK;have s1:=YM s0;rw[hP bI s1,hP gK s1]at nQ Am;obtain⟨vJ,Px,Py,Pz,PA⟩:=nO (a:=s) (b:=X) (.inl s1);have ai:=E' (a:=s) (b:=X) (.inl s1);obtain⟨E,YY,An,Ao,PB⟩:=nO (a:=((YJ s X:Nat):Int)) (b:=Y) (.inl ai);have gP:0<d:=by rw[hd];exact kH (.inl ai)
 rw[<-hd]at An Ao;have bN:=YM gP
 have cp:s=d*(E*vJ):=by
  rw[Py]
  conv=>lhs;rw[An]
  rw[aaN]
 have Fh:X=d*(E*Px):=by
  rw[Pz]
  conv=>lhs;rw[An]
  rw[aaN]
 have PC:m=d*(E*vJ*M):=by rw[gK,cp,aaN]
 rw[hP Fh bN,hP Ao bN,hP bI s1,hP PC bN];have eG:0<N:=pos_r s0 (by omega);have mC:0<M:=pos_r s0 (by omega);have Al:0<E*vJ:=pos_r gP (by omega);refine(E9 ⟨Ze eG (Ze Al mC),?_⟩ (YM (Ze cR m0)) ?_ ?_).symm
 ·refine Fd fun k aa ab aK=>?_;have Fi:k∣X:=by rw[Fh];exact aao aa
  have Fj:k∣Y:=by rw[Ao];exact aao ab
  have aF:YJ k N=1:=iB fun j eN eO=>Fe g1 ⟨s,by rw[bI,ZQ]⟩ Fg (by rw[<-nQ];exact Z2 eN Fi) (by rw[<-Am];exact Z2 eN Fj) eO;have aH:YJ k M=1:=iB fun j eN eO=>Fe (a:=r) (b:=w) (n:=m) (r:=a) (w:=b) (N:=M) (M:=N) g2 ⟨s,by rw[gK,ZQ]⟩ (by rw[aam];exact Fg) (by rw[acu,<-nQ];exact Z2 eN Fi) (by rw[acu,<-Am];exact Z2 eN Fj) eO;have bo:k∣E*vJ:=nN (mh aK aF) aH
  have df:k∣E:=by
   have z:=acr bo aa;rw[acg,PA,Nat.mul_one]at z;exact Z2 z (Int.natAbs_dvd.mpr (Int.dvd_refl E))
  exact i2 PB df ab
 ·grind
 ·grind
theorem cj.sld{m n:Nat}{g p:P3}(aD:cj m g)(ag:cj n p):cj (n+m+1) (Cut.sld g p):=by
 refine⟨?_,?_,?_⟩
 ·exact Gg (intBits_add_le (intBits_mul_le ag.a aD.c) (intBits_mul_le aD.a ag.c)) (by omega)
 ·exact Gg (intBits_add_le (intBits_mul_le ag.b aD.c) (intBits_mul_le aD.b ag.c)) (by omega)
 ·exact Gg (intBits_mul_le ag.c aD.c) (by omega)
theorem cj.trn{m:Nat}{p:P3}(ag:cj m p):cj m (Cut.trn p):=⟨intBits_neg_le ag.a,intBits_neg_le ag.b,ag.c⟩
theorem aS.trn{p:P3}(h:aS p):aS (Cut.trn p):=zz h
theorem sH{g p:P3}(aD:aS g)(ag:aS p):(sld g p).2.2≠0:=zy ag.1 aD.1
theorem aS.sld{g p:P3}(aD:aS g)(ag:aS p):aS (nP (Cut.sld g p)):=fg (sH aD ag)
theorem cj.sldN{m n:Nat}{g p:P3}(aD:cj m g)(ag:cj n p)(PD:aS g)(PE:aS p):cj (n+m+1) (Cut.nP (Cut.sld g p)):=(aD.sld ag).nP (sH PD PE)
theorem qI(p q:P3):bc p q q=0:=by unfold bc crs;grind
def bz(ps:List P3)(n:Nat):P3:=(ps[n]?).getD (0,0,1)
theorem kI{ps:List P3}{n:Nat}(h:n<ps.length):bz ps n=ps[n]:=by unfold bz;rw[ZT h];rfl
theorem Ap{f:P3->P3}{ps:List P3}{n:Nat}(h:n<ps.length):bz (ps.map f) n=f (bz ps n):=by
 rw[kI h,kI (by rw[YL];exact h),List.getElem_map]
theorem mD{ps:List P3}{n:Nat}(h:n<ps.length):bz ps n∈ps:=by rw[kI h];exact acv h
theorem lL{ps:List P3}{n:Nat}(h:n<ps.length):dO (ps.map dP) (n:Int)=some (dP (bz ps n)):=by rw[kI h];exact so (Ov h)
def eP(ps:List P3):Prop:=3<=ps.length/\∀k j,k<ps.length->j<ps.length->j≠k->j≠(k+1)%ps.length->sg (bc (bz ps k) (bz ps ((k+1)%ps.length)) (bz ps j))=1
theorem eP.map{f:P3->P3}{ps:List P3}(hf:∀p q r,p∈ps->q∈ps->r∈ps->sg (bc (f p) (f q) (f r))=sg (bc p q r))(h:eP ps):eP (ps.map f):=by
 refine⟨by rw[YL];exact h.1,fun k j ah bZ aa ab=>?_⟩;rw[YL]at ah bZ ab ⊢;have vK:(k+1)%ps.length<ps.length:=aa1 _ (by omega);rw[Ap ah,Ap bZ,Ap vK,hf _ _ _ (mD ah) (mD vK) (mD bZ)];exact h.2 k j ah bZ aa ab
abbrev Piece:=List P3×Bool×P3
def dS(s:Piece):D:=.tup [.lst (s.1.map dP),.bl s.2.1,dP s.2.2]
structure da (m:Nat) (p:P3):Prop where
 pt:aS p
 bp:cj m p
theorem da.mono{m n:Nat}{p:P3}(h:da m p)(l:m<=n):da n p:=⟨h.pt,h.bp.mono l⟩
def eg(g:P3)(s:Piece):Piece:=(s.1.map (fun p=>nP (sld g p)),s.2.1,nP (sld g s.2.2))
theorem da.trn{m:Nat}{p:P3}(h:da m p):da m (Cut.trn p):=⟨h.pt.trn,h.bp.trn⟩
theorem da.sl{m n:Nat}{g p:P3}(aD:da m g)(h:da n p):da (n+m+1) (nP (sld g p)):=⟨aD.pt.sld h.pt,aD.bp.sldN h.bp aD.pt h.pt⟩
abbrev Aq:ee:=mu 3 (g4 (gy 0) (g4 (gy 1) (g4 (gy 2) mr)))
theorem Fl{u:a5}{fs:List aI}{h:Piece->D}:∀{sh:List Piece}{v0 v1 v2:aI}{k:List D->Prop},(∀s∈sh,∀k:D->Prop,k (h s)->u (.val (.lst (s.1.map dP))::.val (.bl s.2.1)::.val (dP s.2.2)::fs) k)->k (sh.map h)->gN Aq lF u (sh.map dS) (v0::v1::v2::fs) k
 | [],_,_,_,_,_,ah=>ah
 | s::sh,v0,v1,v2,k,bF,ah=>by
  refine⟨_,rfl,rfl,_,_,rfl,_,_,rfl,_,_,rfl,rfl,?_⟩;show(if true=true then u (.val (.lst (s.1.map dP))::.val (.bl s.2.1)::.val (dP s.2.2)::fs) fun y=>gN Aq lF u (sh.map dS) (.val (.lst (s.1.map dP))::.val (.bl s.2.1)::.val (dP s.2.2)::fs) fun ys=>k (y::ys)else gN Aq lF u (sh.map dS) (.val (.lst (s.1.map dP))::.val (.bl s.2.1)::.val (dP s.2.2)::fs) k)
  rw[if_pos rfl];refine bF s Zd _ ?_;exact Fl (fun x aC=>bF x (Zf _ aC)) ah
theorem Ar(f:P3->P3):∀ps:List P3,flats (ps.map fun p=>dP (f p))=true
 | []=>rfl
 | p::r=>by
  rw[ZE,flats,Ar f r];rfl
theorem PF(ps:List P3):flats (ps.map dP)=true:=Ar id ps
theorem PG(f:P3->P3)(ps:List P3):(ps.map fun p=>dP (f p))=(ps.map f).map dP:=by rw[ZV];rfl
def fa(s:Piece):List P3:=if s.2.1=true then(s.1.map fun p=>nP (sld (trn s.2.2) p)).map trn else s.1.map fun p=>nP (sld (trn s.2.2) p)
theorem As{α:Type}(xs:List α)(lo aB:Option Int):(fU xs lo aB).length<=xs.length:=by
 unfold fU;rw[aat,aaX];omega
theorem Fm(x y:Int):YJ (YJ x 0:Nat) y=YJ x y:=by rw[acV];show Z1 (Int.natAbs (x.natAbs:Int)) y.natAbs=_;rw[ac5];rfl
theorem PH(x y:Int):YJ (YJ 0 x:Nat) y=YJ x y:=by rw[aam 0 x,Fm]
theorem Au{w:Int×Int}(l:aO w.1 w.2):aS (w.1,0,w.2):=⟨l.1,(Fm _ _).trans l.2⟩
theorem Av{w:Int×Int}(l:aO w.1 w.2):aS (0,w.1,w.2):=⟨l.1,(PH _ _).trans l.2⟩
def b8(w h:Int×Int):P3:=cx (w.1*h.2) (h.1*w.2) (w.2*h.2)
def iC(w h:Int×Int):List P3:=[(0,0,1),(w.1,0,w.2),b8 w h,(0,h.1,h.2)]
structure ht (w h:Int×Int):Prop where
 lw:aO w.1 w.2
 lh:aO h.1 h.2
 w0:0<w.1
 h0:0<h.1
theorem ht.top{w h:Int×Int}(b:ht w h):aS (b8 w h)/\(b8 w h).1*w.2=w.1*(b8 w h).2.2/\(b8 w h).2.1*h.2=h.1*(b8 w h).2.2/\0<(b8 w h).1/\0<(b8 w h).2.1:=by
 have cR:w.2*h.2≠0:=zy b.lw.1 b.lh.1;obtain⟨p,ai,av,_⟩:=iz (a:=w.1*h.2) (b:=h.1*w.2) cR;have p:aS (b8 w h):=p;have ai:(b8 w h).1*(w.2*h.2)=w.1*h.2*(b8 w h).2.2:=ai;have av:(b8 w h).2.1*(w.2*h.2)=h.1*w.2*(b8 w h).2.2:=av;have f1:(b8 w h).1*w.2=w.1*(b8 w h).2.2:=aaj (YM b.lh.1) (by grind);have f2:(b8 w h).2.1*h.2=h.1*(b8 w h).2.2:=aaj (YM b.lw.1) (by grind);refine⟨p,f1,f2,?_,?_⟩
 ·have:0<(b8 w h).1*w.2:=by rw[f1];exact Ze b.w0 p.1
  exact aby this b.lw.1
 ·have:0<(b8 w h).2.1*h.2:=by rw[f2];exact Ze b.h0 p.1
  exact aby this b.lh.1
theorem nS{x:Int}(h:0<x):sg x=1:=by unfold sg;rw[if_pos h]
section
variable{w h:Int×Int}
theorem ht.d012(b:ht w h):sg (bc (0,0,1) (w.1,0,w.2) (b8 w h))=1:=by
 obtain⟨_,_,_,x0,bX⟩:=b.top;have e:bc (0,0,1) (w.1,0,w.2) (b8 w h)=w.1*(b8 w h).2.1:=by unfold bc crs;simp
 rw[e];exact nS (Ze b.w0 bX)
theorem ht.d013(b:ht w h):sg (bc (0,0,1) (w.1,0,w.2) (0,h.1,h.2))=1:=by
 have e:bc (0,0,1) (w.1,0,w.2) (0,h.1,h.2)=w.1*h.1:=by unfold bc crs;simp
 rw[e];exact nS (Ze b.w0 b.h0)
theorem ht.d023(b:ht w h):sg (bc (0,0,1) (b8 w h) (0,h.1,h.2))=1:=by
 obtain⟨_,_,_,x0,bX⟩:=b.top;have e:bc (0,0,1) (b8 w h) (0,h.1,h.2)=(b8 w h).1*h.1:=by unfold bc crs;simp
 rw[e];exact nS (Ze x0 b.h0)
theorem ht.d312(b:ht w h):sg (bc (0,h.1,h.2) (w.1,0,w.2) (b8 w h))=1:=by
 obtain⟨p,ai,av,x0,bX⟩:=b.top;have e:bc (0,h.1,h.2) (w.1,0,w.2) (b8 w h)=h.1*w.1*(b8 w h).2.2:=by unfold bc crs;simp;grind
 rw[e];exact nS (Ze (Ze b.h0 b.w0) p.1)
end
theorem PI{p q r s:P3}(aa:sg (bc p q r)=1)(ab:sg (bc p q s)=1)(aK:sg (bc q r s)=1)(bo:sg (bc p r s)=1):eP [p,q,r,s]:=by
 have sI:∀a b c:P3,bc b c a=bc a b c:=fun a b c=>by unfold bc crs;grind
 refine⟨by simp,fun k j ah bZ cc dk=>?_⟩;have l:[p,q,r,s].length=4:=rfl;rw[l]at ah bZ dk ⊢;have:k=0∨k=1∨k=2∨k=3:=by omega
 rcases this with rfl|rfl|rfl|rfl
 ·have:j=2∨j=3:=by omega
  rcases this with rfl|rfl
  ·exact aa
  ·exact ab
 ·have:j=0∨j=3:=by omega
  rcases this with rfl|rfl
  ·show sg (bc q r p)=1
   rw[sI p q r];exact aa
  ·exact aK
 ·have:j=0∨j=1:=by omega
  rcases this with rfl|rfl
  ·show sg (bc r s p)=1
   rw[sI p r s];exact bo
  ·show sg (bc r s q)=1
   rw[sI q r s];exact aK
 ·have:j=1∨j=2:=by omega
  rcases this with rfl|rfl
  ·show sg (bc s p q)=1
   rw[<-sI s p q];exact ab
  ·show sg (bc s p r)=1
   rw[<-sI s p r];exact bo
theorem ht.cvx{w h:Int×Int}(b:ht w h):eP (iC w h):=by
 refine PI b.d012 b.d013 ?_ b.d023;have:bc (w.1,0,w.2) (b8 w h) (0,h.1,h.2)=bc (0,h.1,h.2) (w.1,0,w.2) (b8 w h):=by unfold bc crs;grind
 rw[this];exact b.d312
theorem Fn{ps:List P3}{k:Nat}(h:k<ps.length):dO (ps.map dP) ((k:Int)-1)=some (dP (bz ps ((k+ps.length-1)%ps.length))):=by
 cases k with
 | zero =>
  have e:((0:Nat)+ps.length-1)%ps.length=ps.length-1:=by rw[aav];exact ZW (by omega)
  rw[e,kI (by omega)];unfold dO ixN;rw[if_neg (by omega),if_pos (by rw[YL];omega)];show(ps.map dP)[_]?=_
  rw[ZL,YL,show(((0:Nat):Int)-1+(ps.length:Int)).toNat=ps.length-1 by omega,ZT (by omega)];rfl
 | succ k =>
  have e:(k+1+ps.length-1)%ps.length=k:=by
   rw[show k+1+ps.length-1=k+ps.length by omega,abf];exact ZW (by omega)
  rw[e,show(((k+1:Nat):Int)-1)=(k:Int) by omega];exact lL (by omega)
section
variable{s w h:Int×Int}
theorem ht.gps(b:ht w h)(a9:intBits w.1<=140)(ba:intBits w.2<=140)(dG:intBits h.1<=140)(fw:intBits h.2<=140):da 350 (0,0,1)/\da 350 (w.1,0,w.2)/\da 350 (b8 w h)/\da 350 (0,h.1,h.2):=by
 have m:∀{x:Int},intBits x<=140->intBits x<=350:=fun h=>Gg h (by decide);have z:intBits 0<=350:=by decide
 have cR:w.2*h.2≠0:=zy b.lw.1 b.lh.1;have hQ:cj 350 (nP (w.1*h.2,h.1*w.2,w.2*h.2)):=cj.nP ⟨Gg (intBits_mul_le a9 fw) (by decide),Gg (intBits_mul_le dG ba) (by decide),Gg (intBits_mul_le ba fw) (by decide)⟩ cR;exact⟨⟨⟨(show(0:Int)<1 by decide),(show YJ (YJ 0 0:Nat) 1=1 by decide)⟩,z,z,(show intBits 1<=350 by decide)⟩,⟨Au b.lw,m a9,z,m ba⟩,⟨b.top.1,hQ⟩,⟨Av b.lh,z,m dG,m fw⟩⟩
theorem ht.boxG(b:ht w h)(a9:intBits w.1<=140)(ba:intBits w.2<=140)(dG:intBits h.1<=140)(fw:intBits h.2<=140):∀p∈iC w h,da 350 p:=fun p ag=>by
 obtain⟨a7,g1,g2,g3⟩:=b.gps a9 ba dG fw;unfold iC at ag;simp only[ZA,aa2,or_false]at ag;rcases ag with rfl|rfl|rfl|rfl<;>assumption
end
theorem iD(p q r:P3):bc q r p=bc p q r:=by unfold bc crs;grind
theorem sJ(p q:P3):bc p p q=0:=by unfold bc crs;grind
theorem PJ(o u a b c:P3):bc o u b*bc o a c=bc o u a*bc o b c+bc o u c*bc o a b:=by
 unfold bc crs;grind
theorem Fo{x:Int}(h:sg x=1):0<x:=by
 unfold sg at h;split at h
 ·assumption
 ·split at h<;>omega
def o9(ps:List P3):Prop:=∀i j k,i<j->j<k->k<ps.length->0<bc (bz ps i) (bz ps j) (bz ps k)
theorem eP.edge{ps:List P3}(h:eP ps){k j:Nat}(ah:k+1<ps.length)(bZ:j<ps.length)(cc:j≠k)(dk:j≠k+1):0<bc (bz ps k) (bz ps (k+1)) (bz ps j):=by
 have:=h.2 k j (by omega) bZ cc (by rw[ZW ah];exact dk);rw[ZW ah]at this;exact Fo this
theorem eP.tri{ps:List P3}(h:eP ps):o9 ps:=by
 intro i j k m7 gL ah;induction k with
 | zero=>omega
 | succ k c0 =>
  by_cases e:j=k
  ·subst e;rw[<-iD];exact h.edge ah (by omega) (by omega) (by omega)
  ·have aa:=c0 (by omega) (by omega)
   have ab:0<bc (bz ps i) (bz ps k) (bz ps (k+1)):=by
    rw[<-iD];exact h.edge ah (by omega) (by omega) (by omega)
   have bW:=h.edge (k:=i) (j:=k) (by omega) (by omega) (by omega) (by omega);have gZ:=h.edge (k:=i) (j:=k+1) (by omega) (by omega) (by omega) (by omega)
   have bH:0<=bc (bz ps i) (bz ps (i+1)) (bz ps j):=by
    by_cases z:j=i+1
    ·subst z;have:bc (bz ps i) (bz ps (i+1)) (bz ps (i+1))=0:=qI _ _;omega
    ·exact Z4 (h.edge (by omega) (by omega) (by omega) z)
   have c1:=PJ (bz ps i) (bz ps (i+1)) (bz ps j) (bz ps k) (bz ps (k+1));have au:=aac bH (Z4 ab);have aG:=Ze gZ aa;have:0<bc (bz ps i) (bz ps (i+1)) (bz ps k)*bc (bz ps i) (bz ps j) (bz ps (k+1)):=by omega
   exact aaG this bW
theorem o9.cvx{ps:List P3}(aj:3<=ps.length)(h:o9 ps):eP ps:=by
 refine⟨aj,fun k j ah bZ cc dk=>nS ?_⟩;by_cases e:k+1<ps.length
 ·rw[ZW e]at dk ⊢;by_cases z:k<j
  ·exact h k (k+1) j (by omega) (by omega) bZ
  ·rw[iD];exact h j k (k+1) (by omega) (by omega) e
 ·have nU:k+1=ps.length:=by omega
  rw[nU,acw]at dk ⊢;rw[<-iD];exact h 0 j k (by omega) (by omega) ah
def T1(a:P3):List P3->Prop
 | []=>True
 | b::r=>(∀c∈r,0<bc a b c)/\T1 a r
def T0:List P3->Prop
 | []=>True
 | a::r=>T1 a r/\T0 r
theorem T1.sub{a:P3}{l m:List P3}(s:l.Sublist m):T1 a m->T1 a l:=by
 induction s with
 | slnil=>exact id
 | cons b s c0=>exact fun h=>c0 h.2
 | cons_cons b s c0=>exact fun h=>⟨fun c hc=>h.1 c (s.subset hc),c0 h.2⟩
theorem T0.sub{l m:List P3}(s:l.Sublist m):T0 m->T0 l:=by
 induction s with
 | slnil=>exact id
 | cons b s c0=>exact fun h=>c0 h.2
 | cons_cons b s c0=>exact fun h=>⟨T1.sub s h.1,c0 h.2⟩
theorem Fp(a:P3)(r:List P3)(i:Nat):bz (a::r) (i+1)=bz r i:=rfl
theorem PK(a:P3)(r:List P3):bz (a::r) 0=a:=rfl
theorem PL{r:List P3}{i:Nat}(h:i<r.length):bz r i∈r:=by
 induction r generalizing i with
 | nil=>exact absurd h (by simp)
 | cons a r c0 =>
  cases i with
  | zero=>exact Zd
  | succ i=>exact Zf _ (c0 (by simpa using h))
theorem PM{r:List P3}{c:P3}(h:c∈r):∃i,i<r.length/\bz r i=c:=by
 induction r with
 | nil=>cases h
 | cons a r c0 =>
  rcases ZA.mp h with rfl|h
  ·exact⟨0,by simp,rfl⟩
  ·obtain⟨i,aB,e⟩:=c0 h;exact⟨i+1,by simpa using aB,e⟩
theorem vL(a:P3):∀r:List P3,T1 a r↔∀j k,j<k->k<r.length->0<bc a (bz r j) (bz r k)
 | []=>⟨fun _ j k _ h=>absurd h (by simp),fun _=>trivial⟩
 | b::r=>by
  constructor
  ·rintro⟨aa,ab⟩ j k gL ah;cases k with
   | zero=>omega
   | succ k =>
    have ah:k<r.length:=by simpa using ah
    cases j with
    | zero=>exact aa _ (PL ah)
    | succ j=>exact(vL a r).mp ab j k (by omega) ah
  ·intro h;refine⟨fun c hc=>?_,(vL a r).mpr fun j k gL ah=>h (j+1) (k+1) (by omega) (by simpa using ah)⟩;obtain⟨i,aB,rfl⟩:=PM hc;exact h 0 (i+1) (by omega) (by simpa using aB)
theorem o':∀ps:List P3,T0 ps↔o9 ps
 | []=>⟨fun _ i j k _ _ h=>absurd h (by simp),fun _=>trivial⟩
 | a::r=>by
  constructor
  ·rintro⟨aa,ab⟩ i j k m7 gL ah;cases k with
   | zero=>omega
   | succ k =>
    cases j with
    | zero=>omega
    | succ j =>
     have ah:k<r.length:=by simpa using ah
     cases i with
     | zero=>exact(vL a r).mp aa j k (by omega) ah
     | succ i=>exact(o' r).mp ab i j k (by omega) (by omega) ah
  ·intro h;exact⟨(vL a r).mpr fun j k gL ah=>h 0 (j+1) (k+1) (by omega) (by omega) (by simpa using ah),(o' r).mpr fun i j k aa ab ah=>h (i+1) (j+1) (k+1) (by omega) (by omega) (by simpa using ah)⟩
theorem sL(c a b:P3):crs c (crs a b)=lc (c.1*b.1+c.2.1*b.2.1+c.2.2*b.2.2) a (-(c.1*a.1+c.2.1*a.2.1+c.2.2*a.2.2)) b:=by
 unfold crs lc;refine ef ?_ ?_ ?_<;>dsimp only<;>grind
theorem Fq(s t:Int)(a b q r:P3):bc (lc s a t b) q r=s*bc a q r+t*bc b q r:=by unfold bc crs lc;dsimp only;grind
theorem Fs(s:Int)(a q r:P3):bc (sc s a) q r=s*bc a q r:=by unfold bc crs sc;dsimp only;grind
end Cut
namespace Cut
open PySem L2 L3
theorem Ft{b a:P3}:∀{r:List P3},T1 b r->(∀c∈r,0<bc b c a)->T1 b (r++[a])
 | [],_,_=>⟨fun c hc=>absurd hc (by simp),trivial⟩
 | d::r,h,k=>⟨fun c hc=>by
   rcases ZK.mp hc with hc|hc
   ·exact h.1 c hc
   ·rw[ZG.mp hc];exact k d Zd,Ft h.2 fun c hc=>k c (Zf _ hc)⟩
theorem Fu{a:P3}:∀{r:List P3},T0 r->T1 a r->T0 (r++[a])
 | [],_,_=>⟨trivial,trivial⟩
 | b::r,h,k=>⟨Ft h.1 fun c hc=>by rw[iD];exact k.1 c hc,Fu h.2 k.2⟩
theorem T0.rot{a:P3}{r:List P3}(h:T0 (a::r)):T0 (r++[a]):=Fu h.2 h.1
def sM:List P3->List P3->Prop
 | [],_=>True
 | x::xs,zs=>(∀y∈xs,∀z∈zs,0<bc x y z)/\sM xs zs
theorem vM{x:P3}:∀{xs zs:List P3},T1 x (xs++zs)↔T1 x xs/\T1 x zs/\∀y∈xs,∀z∈zs,0<bc x y z
 | [],zs=>⟨fun h=>⟨trivial,h,fun y a6=>absurd a6 (by simp)⟩,fun h=>h.2.1⟩
 | y::xs,zs=>by
  constructor
  ·rintro⟨aa,ab⟩;obtain⟨bU,cn,fN⟩:=vM.mp ab;refine⟨⟨fun c hc=>aa c (aaD _ hc),bU⟩,cn,fun w hw z bb=>?_⟩;rcases ZA.mp hw with rfl|hw
   ·exact aa z (Z9 _ bb)
   ·exact fN w hw z bb
  ·rintro⟨⟨aa,ab⟩,aK,bo⟩;refine⟨fun c hc=>?_,vM.mpr ⟨ab,aK,fun w hw z bb=>bo w (Zf _ hw) z bb⟩⟩;rcases ZK.mp hc with hc|hc
   ·exact aa c hc
   ·exact bo y Zd c hc
theorem kJ:∀{xs zs:List P3},T0 (xs++zs)↔T0 xs/\T0 zs/\(∀x∈xs,T1 x zs)/\sM xs zs
 | [],zs=>⟨fun h=>⟨trivial,h,fun y a6=>absurd a6 (by simp),trivial⟩,fun h=>h.2.1⟩
 | x::xs,zs=>by
  constructor
  ·rintro⟨aa,ab⟩;obtain⟨bU,cn,fN,iu⟩:=kJ.mp ab;obtain⟨eN,eO,lM⟩:=vM.mp aa;refine⟨⟨eN,bU⟩,cn,fun w hw=>?_,⟨lM,iu⟩⟩;rcases ZA.mp hw with rfl|hw
   ·exact eO
   ·exact fN w hw
  ·rintro⟨⟨aa,ab⟩,aK,bo,df,fl⟩;exact⟨vM.mpr ⟨aa,bo x Zd,df⟩,kJ.mpr ⟨ab,aK,fun w hw=>bo w (Zf _ hw),fl⟩⟩
theorem vN{zs ws:List P3}(h:∀x y,(∀z∈zs,0<bc x y z)->∀z∈ws,0<bc x y z):∀{xs:List P3},sM xs zs->sM xs ws
 | [],_=>trivial
 | x::xs,k=>⟨fun y a6=>h x y (k.1 y a6),vN h k.2⟩
def gf(p q m:P3):Prop:=∃s a b:Int,0<s/\0<a/\0<b/\sc s m=lc a p b q
theorem PN{s x y:Int}(aq:0<s)(e:s*x=y)(a6:0<y):0<x:=by
 rw[<-e]at a6;exact aaG a6 aq
theorem sN{p q m u v:P3}(h:gf p q m)(aa:0<=bc p u v)(ab:0<=bc q u v)(aK:0<bc p u v∨0<bc q u v):0<bc m u v:=by
 obtain⟨s,a,b,aq,ay,af,e⟩:=h;have k:s*bc m u v=a*bc p u v+b*bc q u v:=by rw[<-Fs,e,Fq]
 refine PN aq k ?_;have cc:=aac (Z4 ay) aa;have dk:=aac (Z4 af) ab;rcases aK with aK|aK
 ·have:=Ze ay aK;omega
 ·have:=Ze af aK;omega
theorem pd{p q m u v:P3}(h:gf p q m)(aa:0<=bc u p v)(ab:0<=bc u q v)(aK:0<bc u p v∨0<bc u q v):0<bc u m v:=by
 rw[<-iD]at aa ab ⊢;rw[<-iD u p v,<-iD u q v]at aK;exact sN h aa ab aK
theorem pe{p q m u v:P3}(h:gf p q m)(aa:0<=bc u v p)(ab:0<=bc u v q)(aK:0<bc u v p∨0<bc u v q):0<bc u v m:=by
 rw[iD]at aa ab ⊢;rw[iD p u v,iD q u v]at aK;exact sN h aa ab aK
theorem Aw{p q m:P3}(h:gf p q m):∀{ys:List P3},T1 p ys->T1 q ys->T1 m ys
 | [],_,_=>trivial
 | y::ys,aa,ab=>⟨fun c hc=>sN h (Z4 (aa.1 c hc)) (Z4 (ab.1 c hc)) (.inl (aa.1 c hc)),Aw h aa.2 ab.2⟩
theorem eZ{x:Int}(z:0<x):0<=x:=Z4 z
theorem mE{x:Int}(z:x=0):0<=x:=by omega
theorem T0.back{xs ys:List P3}{p q m:P3}(h:T0 (xs++p::q::ys))(hm:gf p q m):T0 (xs++p::m::ys):=by
 obtain⟨aa,⟨⟨cN,c2⟩,aW,bS⟩,aK,bo⟩:=kJ.mp h;refine kJ.mpr ⟨aa,⟨⟨fun c hc=>?_,c2⟩,Aw hm c2 aW,bS⟩,fun x aC=>?_,vN (fun x y bb z hw=>?_) bo⟩
 ·exact pd hm (mE (sJ p c)) (eZ (cN c hc)) (.inr (cN c hc))
 ·obtain⟨bU,cn,fN⟩:=aK x aC;refine⟨fun c hc=>?_,fun c hc=>?_,fN⟩
  ·rcases ZA.mp hc with rfl|hc
   ·exact pe hm (mE (qI x p)) (eZ (bU q Zd)) (.inr (bU q Zd))
   ·exact bU c (Zf _ hc)
  ·exact pd hm (eZ (bU c (Zf _ hc))) (eZ (cn c hc)) (.inr (cn c hc))
 ·rcases ZA.mp hw with rfl|hw
  ·exact bb _ Zd
  ·rcases ZA.mp hw with rfl|hw
   ·exact pe hm (eZ (bb p Zd)) (eZ (bb q (Zf _ Zd))) (.inl (bb p Zd))
   ·exact bb z (Zf _ (Zf _ hw))
theorem T0.on{xs ys:List P3}{p q m:P3}(h:T0 (xs++p::q::ys))(hm:gf p q m):T0 (xs++m::q::ys):=by
 obtain⟨aa,⟨⟨cN,c2⟩,aW,bS⟩,aK,bo⟩:=kJ.mp h;refine kJ.mpr ⟨aa,⟨⟨fun c hc=>?_,Aw hm c2 aW⟩,aW,bS⟩,fun x aC=>?_,vN (fun x y bb z hw=>?_) bo⟩
 ·exact sN hm (eZ (cN c hc)) (mE (sJ q c)) (.inl (cN c hc))
 ·obtain⟨bU,cn,fN⟩:=aK x aC;refine⟨fun c hc=>?_,cn,fN⟩;rcases ZA.mp hc with rfl|hc
  ·exact pd hm (eZ (bU c Zd)) (mE (qI x c)) (.inl (bU c Zd))
  ·exact pd hm (eZ (bU c (Zf _ hc))) (eZ (cn c hc)) (.inr (cn c hc))
 ·rcases ZA.mp hw with rfl|hw
  ·exact pe hm (eZ (bb p Zd)) (eZ (bb q (Zf _ Zd))) (.inl (bb p Zd))
  ·exact bb z (Zf _ hw)
theorem T0.off{xs ys:List P3}{p q r m n:P3}(h:T0 (xs++p::q::r::ys))(hm:gf p q m)(aN:gf q r n):T0 (xs++p::m::n::r::ys):=by
 have ai:=T0.on (xs:=xs++[p]) (p:=q) (q:=r) (by rw[ZU];exact h) aN;rw[ZU]at ai;obtain⟨aa,⟨⟨cN,c2⟩,aW,bS⟩,aK,bo⟩:=kJ.mp h;obtain⟨_,⟨⟨a1,a2⟩,a9,ba⟩,bV,bP⟩:=kJ.mp (show T0 (xs++p::n::r::ys)from ai);have PO:T0 (xs++p::m::r::ys):=h.back hm;obtain⟨_,⟨⟨bN,b1⟩,f1,f2⟩,g3,dx⟩:=kJ.mp PO;have Fv:0<bc p q n:=pe aN (mE (qI p q)) (eZ (cN r Zd)) (.inr (cN r Zd))
 have PQ:∀c∈r::ys,0<bc m n c:=fun c hc=>by
  refine sN hm (eZ (a1 c hc)) ?_ (.inl (a1 c hc));rcases ZA.mp hc with rfl|hc
  ·exact mE (by
    obtain⟨s,a,b,aq,_,_,e⟩:=aN
    have k:s*bc q n c=a*bc q q c+b*bc q c c:=by
     rw[<-iD q n c,<-iD q q c,<-iD q c c,<-Fs,e,Fq]
    rw[sJ,qI,ZO,ZO]at k;rcases aab.mp k with z|z
    ·omega
    ·exact z)
  ·exact eZ (pd aN (mE (sJ q c)) (eZ (aW.1 c hc)) (.inr (aW.1 c hc)))
 refine kJ.mpr ⟨aa,⟨⟨fun c hc=>?_,a1,a2⟩,⟨PQ,f1⟩,a9,ba⟩,fun x aC=>?_,vN (fun x y bb z hw=>?_) bo⟩
 ·rcases ZA.mp hc with rfl|hc
  ·exact pd hm (mE (sJ p c)) (eZ Fv) (.inr Fv)
  ·exact bN c hc
 ·obtain⟨bU,cn,fN⟩:=aK x aC;obtain⟨bx,bB,e9⟩:=bV x aC;obtain⟨kK,kL,Fw⟩:=g3 x aC;refine⟨fun c hc=>?_,fun c hc=>?_,bB,e9⟩
  ·rcases ZA.mp hc with rfl|hc
   ·exact kK c Zd
   ·exact bx c hc
  ·rcases ZA.mp hc with rfl|hc
   ·have Fx:0<bc x q c:=pe aN (mE (qI x q)) (eZ (cn r Zd)) (.inr (cn r Zd));exact pd hm (eZ (bx c Zd)) (eZ Fx) (.inr Fx)
   ·exact kL c hc
 ·have Ax:=bb q (Zf _ Zd);have Ay:=bb p Zd;have PR:=bb r (Zf _ (Zf _ Zd));rcases ZA.mp hw with rfl|hw
  ·exact Ay
  ·rcases ZA.mp hw with rfl|hw
   ·exact pe hm (eZ Ay) (eZ Ax) (.inl Ay)
   ·rcases ZA.mp hw with rfl|hw
    ·exact pe aN (eZ Ax) (eZ PR) (.inl Ax)
    ·exact bb z (Zf _ (Zf _ hw))
def ln(l p:P3):Int:=l.1*p.1+l.2.1*p.2.1+l.2.2*p.2.2
theorem four(l p q r s:P3):bc q r s*ln l p-bc p r s*ln l q+bc p q s*ln l r-bc p q r*ln l s=0:=by
 unfold bc crs ln;grind
theorem T1.one{a:P3}:∀{xs:List P3},sM xs [a]->T1 a xs
 | [],_=>trivial
 | x::xs,h=>⟨fun c hc=>by rw[<-iD];exact h.1 c hc a Zd,T1.one h.2⟩
theorem T0.unrot{a:P3}{r:List P3}(h:T0 (r++[a])):T0 (a::r):=by
 obtain⟨aa,_,_,bo⟩:=kJ.mp h;exact⟨T1.one bo,aa⟩
theorem T0.turn:∀{xs ys:List P3},T0 (xs++ys)->T0 (ys++xs)
 | [],ys,h=>by rw[ZF];exact h
 | x::xs,ys,h=>by
  have aa:T0 (xs++(ys++[x])):=by rw[<-ZU];exact T0.rot h
  have ab:=T0.turn aa;rw[ZU]at ab;exact ab
section
variable(f:P3->Int)(mt:P3->P3->P3)
def kp(p:P3):List P3:=if 0<=f p then[p]else[]
def cF(p q:P3):List P3:=if f p*f q<0 then[mt p q]else[]
def c9:List P3->P3->List P3
 | [],_=>[]
 | p::r,w=>kp f p++cF f mt p (r.headD w)++c9 r w
def dj(ps:List P3):List P3:=c9 f mt ps (ps.headD (0,0,1))
end
variable{f:P3->Int}{mt:P3->P3->P3}
theorem PS(xs ys:List P3)(w:P3):(xs++ys).headD w=xs.headD (ys.headD w):=by
 cases xs<;>rfl
theorem sO(w:P3):∀xs ys:List P3,c9 f mt (xs++ys) w=c9 f mt xs (ys.headD w)++c9 f mt ys w
 | [],_=>rfl
 | p::xs,ys=>by
  show kp f p++cF f mt p ((xs++ys).headD w)++c9 f mt (xs++ys) w=kp f p++cF f mt p (xs.headD (ys.headD w))++c9 f mt xs (ys.headD w)++c9 f mt ys w
  rw[sO w xs ys,PS,ZU,ZU,ZU]
theorem PT(xs ys:List P3):∃P Q,dj f mt (xs++ys)=P++Q/\dj f mt (ys++xs)=Q++P:=by
 cases xs with
 | nil=>exact⟨[],dj f mt ys,rfl,by rw[ZF,ZF]⟩
 | cons x xs =>
  cases ys with
  | nil=>exact⟨dj f mt (x::xs),[],by rw[ZF,ZF],rfl⟩
  | cons y ys =>
   refine⟨c9 f mt (x::xs) y,c9 f mt (y::ys) x,?_,?_⟩
   ·unfold dj;rw[sO];rfl
   ·unfold dj;rw[sO];rfl
theorem Fy{xs ys:List P3}(h:T0 (dj f mt (ys++xs))/\3<=(dj f mt (ys++xs)).length):T0 (dj f mt (xs++ys))/\3<=(dj f mt (xs++ys)).length:=by
 obtain⟨P,Q,ai,av⟩:=PT (f:=f) (mt:=mt) xs ys;rw[ai];rw[av]at h;refine⟨T0.turn h.1,?_⟩;have:=h.2;rw[Zg]at this ⊢;omega
theorem Az{w:P3}:∀{a:P3}{A:List P3},(∀p∈A++[a],0<=f p)->c9 f mt (A++[a]) w=A++[a]++cF f mt a w
 | a,[],h=>by
  show kp f a++cF f mt a w++[]=[a]++cF f mt a w
  unfold kp;rw[if_pos (h a (by simp)),ZF]
 | a,p::A,h=>by
  show kp f p++cF f mt p ((A++[a]).headD w)++c9 f mt (A++[a]) w=p::A++[a]++cF f mt a w
  rw[Az fun q aA=>h q (Zf _ aA)];have ag:=h p Zd
  have aA:0<=f ((A++[a]).headD w):=by
   cases A with
   | nil=>exact h a (by simp)
   | cons b A=>exact h b (by simp)
  unfold kp cF;rw[if_pos ag,if_neg (by have:=aac ag aA;omega)];simp
theorem Fz{w:P3}:∀{s:P3}{N:List P3},(∀p∈N++[s],f p<0)->c9 f mt (N++[s]) w=cF f mt s w
 | s,[],h=>by
  show kp f s++cF f mt s w++[]=cF f mt s w
  unfold kp;rw[if_neg (by have:=h s (by simp);omega),ZF,Z5]
 | s,p::N,h=>by
  show kp f p++cF f mt p ((N++[s]).headD w)++c9 f mt (N++[s]) w=cF f mt s w
  rw[Fz fun q aA=>h q (Zf _ aA)];have ag:=h p Zd
  have aA:f ((N++[s]).headD w)<0:=by
   cases N with
   | nil=>exact h s (by simp)
   | cons b N=>exact h b (by simp)
  unfold kp cF;rw[if_neg (by omega),if_neg (by have:=aa3 ag aA;omega)];rfl
def Meets(f:P3->Int)(mt:P3->P3->P3):Prop:=∀p q,f p*f q<0->gf p q (mt p q)
theorem kM{p q:P3}(h:f p*f q<0):cF f mt p q=[mt p q]:=by unfold cF;rw[if_pos h]
theorem jW{p q:P3}(h:¬f p*f q<0):cF f mt p q=[]:=by unfold cF;rw[if_neg h]
theorem neg_mul{a b:Int}(ay:0<a)(af:b<0):a*b<0:=ZP ay af
theorem PU{b:P3}{A N:List P3}{s:P3}(gK:Meets f mt)(h:T0 ((A++[b])++(N++[s])))(jf:∀p∈A++[b],0<=f p)(bI:∀p∈N++[s],f p<0)(aj:3<=((A++[b])++(N++[s])).length)(ag:∃p∈A++[b],0<f p):
  T0 (dj f mt ((A++[b])++(N++[s])))/\3<=(dj f mt ((A++[b])++(N++[s]))).length:=by
 obtain⟨a,g8,dm⟩:∃a g8,A++[b]=a::g8:=by
  cases A with
  | nil=>exact⟨b,[],rfl⟩
  | cons a A=>exact⟨a,A++[b],rfl⟩
 obtain⟨n,N',lN⟩:∃n N',N++[s]=n::N':=by
  cases N with
  | nil=>exact⟨s,[],rfl⟩
  | cons n N=>exact⟨n,N++[s],rfl⟩
 have gs:0<=f a:=jf a (by rw[dm];exact Zd);have vO:0<=f b:=jf b (by simp);have fn:f n<0:=bI n (by rw[lN];exact Zd);have fs:f s<0:=bI s (by simp)
 have e:dj f mt ((A++[b])++(N++[s]))=(A++[b])++cF f mt b n++cF f mt s a:=by
  unfold dj;rw[sO,Az jf,Fz bI,dm,lN];rfl
 rw[e]
 have two:N≠[]->T0 ((A++[b])++[n,s]):=fun z=>by
  refine T0.sub (aa4 (abU _) ?_) h;cases N with
  | nil=>exact absurd rfl z
  | cons m N =>
   have:m=n:=(aaR lN).1;subst this;exact ac6 _ (ac7 N [s])
 have PV:T0 ((A++[b])++[n]):=T0.sub (aa4 (abU _) (abg.mpr (by rw[lN];exact Zd))) h;have oneS:T0 ((A++[b])++[s]):=T0.sub (aa4 (abU _) (abg.mpr (by simp))) h;by_cases af:0<f b
 ·have gn:f b*f n<0:=neg_mul af fn;have AA:=gK b n gn;rw[kM gn];by_cases ay:0<f a
  ·have ij:f s*f a<0:=by rw[ZQ];exact neg_mul ay fs
   have vP:=gK s a ij;rw[kM ij];refine⟨?_,by simp⟩;by_cases z:N=[]
   ·subst z;have es:s=n:=(aaR lN).1;subst es;cases A with
    | nil=>simp at aj
    | cons a2 mF =>
     have:a2=a:=(aaR dm).1;subst this
     have au:T0 (mF++b::s::a2::[]):=by
      have:=T0.rot (a:=a2) (r:=mF++[b]++[s]) oneS;simpa using this
     have aG:=T0.unrot (a:=a2) (r:=mF++[b,mt b s,mt s a2]) (by simpa using au.off AA vP);simpa using aG
   ·have t:=two z;have au:T0 (A++b::mt b n::[s]):=T0.back (by simpa using t) AA
    have aG:T0 (a::(g8++[mt b n,s])):=by
     have:T0 ((A++[b])++[mt b n,s]):=by simpa using au
     rw[dm]at this;exact this
    have f7:T0 ((g8++[mt b n])++s::a::[]):=by simpa using T0.rot aG
    have rH:=T0.unrot (a:=a) (r:=g8++[mt b n,mt s a]) (by simpa using f7.on vP);rw[dm];simpa using rH
  ·have fE:f a=0:=by omega
   have na:A≠[]:=by
    rintro rfl;have:b=a:=(aaR dm).1;subst this;exact ay af
   rw[jW (by rw[fE,ZO];omega),ZF];refine⟨?_,?_⟩
   ·have r:=T0.back (xs:=A) (p:=b) (q:=n) (ys:=[]) (by simpa using PV) AA;simpa using r
   ·have:=ac8.mpr na;simp;omega
 ·have dr:f b=0:=by omega
  rw[jW (by rw[dr,aaw];omega),ZF];by_cases ay:0<f a
  ·have ij:f s*f a<0:=by rw[ZQ];exact neg_mul ay fs
   have vP:=gK s a ij
   have na:A≠[]:=by
    rintro rfl;have:b=a:=(aaR dm).1;subst this;exact af ay
   rw[kM ij];refine⟨?_,?_⟩
   ·have au:T0 (a::(g8++[s])):=by rw[dm]at oneS;exact oneS
    have f7:T0 (g8++s::a::[]):=by simpa using T0.rot au
    have rH:=T0.unrot (a:=a) (r:=g8++[mt s a]) (by simpa using f7.on vP);rw[dm];exact rH
   ·have:=ac8.mpr na;simp;omega
  ·have fE:f a=0:=by omega
   rw[jW (by rw[fE,ZO];omega),ZF];refine⟨T0.sub (List.sublist_append_left _ _) h,?_⟩;obtain⟨p,nV,lO⟩:=ag;have ai:p≠b:=by rintro rfl;omega
   have av:p≠a:=by rintro rfl;omega
   have FA:p∈A:=by
    rcases ZK.mp nV with q|q
    ·exact q
    ·exact absurd (ZG.mp q) ai
   cases A with
   | nil=>cases FA
   | cons a2 mF =>
    have:a2=a:=(aaR dm).1;subst this;rcases ZA.mp FA with q|q
    ·exact absurd q av
    ·have:=List.length_pos_of_mem q;simp;omega
theorem span{P:P3->Prop}:∀ps:List P3,(∀p,P p∨¬P p)->∃A r,ps=A++r/\(∀p∈A,P p)/\(r=[]∨∃x d0,r=x::d0/\¬P x)
 | [],_=>⟨[],[],rfl,fun p ag=>absurd ag (by simp),.inl rfl⟩
 | p::ps,em=>by
  rcases em p with h|h
  ·obtain⟨A,r,e,jf,ak⟩:=span ps em;refine⟨p::A,r,by rw[e];rfl,fun q aA=>?_,ak⟩;rcases ZA.mp aA with rfl|aA
   ·exact h
   ·exact jf q aA
  ·exact⟨[],p::ps,rfl,fun q aA=>absurd aA (by simp),.inr ⟨p,ps,rfl,h⟩⟩
theorem alt{l p q r s:P3}(h:T0 [p,q,r,s]):¬(0<=ln l p/\ln l q<0/\0<=ln l r/\ln l s<0)/\¬(ln l p<0/\0<=ln l q/\ln l r<0/\0<=ln l s):=by
 obtain⟨⟨aa,ab,_⟩,⟨aK,_⟩,_⟩:=h;have bN:=aa r (by simp);have b1:=aa s (by simp);have gX:=ab s (by simp);have qJ:=aK s (by simp);have k:=four l p q r s;constructor
 ·rintro⟨a,b,c,d⟩;have t1:=aac (eZ qJ) a;have cE:=ZP gX b;have t3:=aac (eZ b1) c;have PW:=ZP bN d;omega
 ·rintro⟨a,b,c,d⟩;have t1:=ZP qJ a;have cE:=aac (eZ gX) b;have t3:=ZP b1 c;have PW:=aac (eZ bN) d;omega
theorem FC{a b c d:P3}{A B C D:List P3}(ay:a∈A)(af:b∈B)(hc:c∈C)(hd:d∈D):[a,b,c,d].Sublist (A++(B++(C++D))):=
 aa4 (abg.mpr ay) (aa4 (abg.mpr af) (aa4 (abg.mpr hc) (abg.mpr hd)))
theorem PX{l:P3}{ps:List P3}(gK:Meets (ln l) mt)(h:T0 ps)(aj:3<=ps.length)(ag:∃p∈ps,0<ln l p):T0 (dj (ln l) mt ps)/\3<=(dj (ln l) mt ps).length:=by
 have em:∀p,0<=ln l p∨¬0<=ln l p:=fun p=>by omega
 have norm:∀A N:List P3,A≠[]->N≠[]->T0 (A++N)->3<=(A++N).length->(∀p∈A,0<=ln l p)->(∀p∈N,ln l p<0)->(∃p∈A,0<ln l p)->T0 (dj (ln l) mt (A++N))/\3<=(dj (ln l) mt (A++N)).length:=fun A N jf bI t0 len pf PY ex=>by
  obtain⟨g8,b,rfl⟩:∃g8 b,A=g8++[b]:=⟨_,_,(acx jf).symm⟩;obtain⟨N',s,rfl⟩:∃N' s,N=N'++[s]:=⟨_,_,(acx bI).symm⟩;exact PU gK t0 pf PY len ex
 obtain⟨qK,r,rfl,sP,ak⟩:=span (P:=fun p=>0<=ln l p) ps em;rcases ak with rfl|⟨x,d0,rfl,aC⟩
 ·rw[ZF]at h aj ag ⊢;have ne:qK≠[]:=by rintro rfl;simp at aj
  obtain⟨g8,b,rfl⟩:∃g8 b,qK=g8++[b]:=⟨_,_,(acx ne).symm⟩
  have e:dj (ln l) mt (g8++[b])=g8++[b]:=by
   unfold dj;rw[Az sP,jW,ZF];have aa:=sP b (by simp)
   have ab:0<=ln l ((g8++[b]).headD (0,0,1)):=by
    cases g8 with
    | nil=>exact aa
    | cons a g8=>exact sP a (by simp)
   have:=aac aa ab;omega
  rw[e];exact⟨h,aj⟩
 obtain⟨gC,aG,av,PZ,AB⟩:=span (P:=fun p=>¬0<=ln l p) (x::d0) (fun p=>by omega)
 have AD:gC≠[]:=by
  rintro rfl;rcases AB with rfl|⟨y,q,e,a6⟩
  ·cases av
  ·rw[e]at av;have:x=y:=(aaR av).1;subst this;exact a6 aC
 have ph:∀p∈gC,ln l p<0:=fun p ag=>by have:=PZ p ag;omega
 obtain⟨cc,vQ⟩:=acy gC AD;rw[av]at h aj ag ⊢;by_cases AE:qK=[]
 ·subst AE;simp only[Z5]at h aj ag ⊢;rcases AB with rfl|⟨y,q,rfl,a6⟩
  ·obtain⟨p,nV,lO⟩:=ag;rw[ZF]at nV;have:=ph p nV;omega
  ·have a6:0<=ln l y:=by omega
   obtain⟨mF,f7,bC,FD,FE⟩:=span (P:=fun p=>0<=ln l p) (y::q) em
   have FF:mF≠[]:=by
    rintro rfl;rcases FE with rfl|⟨z,gk,e,bb⟩
    ·cases bC
    ·rw[e]at bC;have:y=z:=(aaR bC).1;subst this;exact bb a6
   rw[bC]at h aj ag ⊢
   have FG:∀w∈f7,ln l w<0:=fun w hw=>by
    rcases FE with rfl|⟨z,gk,rfl,bb⟩
    ·cases hw
    ·by_cases vR:0<=ln l w
     ·rcases ZA.mp hw with rfl|hw
      ·exact absurd vR bb
      ·obtain⟨a2,FH⟩:=acy mF FF;have t:=T0.sub (FC (a:=cc) (b:=a2) (c:=z) (d:=w) (A:=gC) (B:=mF) (C:=[z]) (D:=gk) vQ FH Zd hw) (by simpa using h);exact absurd ⟨ph cc vQ,FD a2 FH,by omega,vR⟩ (alt t).2
     ·omega
   refine Fy ?_;rw[ZU];refine norm mF (f7++gC) FF (by simp[AD]) (by rw[<-ZU];exact T0.turn h) (by simp at aj ⊢;omega) FD (fun p ag=>?_) ?_
   ·rcases ZK.mp ag with z|z
    ·exact FG p z
    ·exact ph p z
   ·obtain⟨p,nV,lO⟩:=ag;refine⟨p,?_,lO⟩;rcases ZK.mp nV with z|z
    ·have:=ph p z;omega
    ·rcases ZK.mp z with z|z
     ·exact z
     ·have:=FG p z;omega
 ·obtain⟨a1,FI⟩:=acy qK AE
  have P0:∀w∈aG,0<=ln l w:=fun w hw=>by
   rcases AB with rfl|⟨y,q,rfl,a6⟩
   ·cases hw
   ·by_cases vR:0<=ln l w
    ·exact vR
    ·have a6:0<=ln l y:=by omega
     rcases ZA.mp hw with rfl|hw
     ·exact a6
     ·have t:=T0.sub (FC (a:=a1) (b:=cc) (c:=y) (d:=w) (A:=qK) (B:=gC) (C:=[y]) (D:=q) FI vQ Zd hw) (by simpa using h);exact absurd ⟨sP a1 FI,ph cc vQ,a6,by omega⟩ (alt t).1
  rw[<-ZU]at h aj ag ⊢;refine Fy ?_;rw[<-ZU];refine norm (aG++qK) gC (by simp[AE]) AD (by rw[ZU];exact T0.turn h) (by simp at aj ⊢;omega) (fun p ag=>?_) ph ?_
  ·rcases ZK.mp ag with z|z
   ·exact P0 p z
   ·exact sP p z
  ·obtain⟨p,nV,lO⟩:=ag;refine⟨p,?_,lO⟩;rcases ZK.mp nV with z|z
   ·rcases ZK.mp z with z|z
    ·exact Z9 _ z
    ·have:=ph p z;omega
   ·exact aaD _ z
end Cut
namespace Cut
open PySem L2 L3
def aX(l p q:P3):P3:=if 0<p.2.2/\0<q.2.2 then nP (crs l (crs p q))else if 0<ln l q then lc (ln l q) p (-ln l p) q else lc (-ln l q) p (ln l p) q
theorem kN{x y:Int}(h:x*y<0):(0<x/\y<0)∨(x<0/\0<y):=by
 rcases aax x 0 with z|z|z
 ·rcases aax y 0 with w|w|w
  ·have:=aa3 z w;omega
  ·rw[w,ZO]at h;omega
  ·exact .inr ⟨z,w⟩
 ·rw[z,aaw]at h;omega
 ·rcases aax y 0 with w|w|w
  ·exact .inl ⟨z,w⟩
  ·rw[w,ZO]at h;omega
  ·have:=Ze z w;omega
theorem FJ(p:P3):sc 1 p=p:=by unfold sc;simp
theorem P1{g a b:Int}{m p q:P3}(h:lc a p b q=sc g m):sc (-g) m=lc (-a) p (-b) q:=by
 have aa:=congrArg (fun x:P3=>x.1) h;have ab:=congrArg (fun x:P3=>x.2.1) h;have aK:=congrArg (fun x:P3=>x.2.2) h;unfold sc lc at *;dsimp only at aa ab aK ⊢;refine ef ?_ ?_ ?_<;>dsimp only<;>grind
theorem pj{l p q:P3}(h:ln l p*ln l q<0):gf p q (aX l p q):=by
 unfold aX;by_cases w:0<p.2.2/\0<q.2.2
 ·rw[if_pos w];have i3:crs l (crs p q)=lc (ln l q) p (-ln l p) q:=sL l p q;have bC:(crs l (crs p q)).2.2=ln l q*p.2.2 + -ln l p*q.2.2:=by rw[i3];rfl
  rcases kN h with⟨aa,ab⟩|⟨aa,ab⟩
  ·have cc:ln l q*p.2.2<0:=by rw[ZQ];exact ZP w.1 ab
   have dk : -ln l p*q.2.2<0:=by rw[ZQ];exact ZP w.2 (by omega)
   have cR:(crs l (crs p q)).2.2≠0:=by omega
   obtain⟨g,_,aD⟩:=i0 cR;have ag:=(fg cR).1;have aK:(crs l (crs p q)).2.2=g*(nP (crs l (crs p q))).2.2:=congrArg (fun x:P3=>x.2.2) aD
   have a7:g<0:=by
    by_cases z:g<0
    ·exact z
    ·have:=aac (show 0<=g by omega) (eZ ag);omega
   rw[i3]at aD;refine⟨-g,-ln l q,ln l p,by omega,by omega,aa,?_⟩;have:=P1 aD;rw[Int.neg_neg,<-i3]at this;exact this
  ·have cc:0<ln l q*p.2.2:=Ze ab w.1;have dk:0 < -ln l p*q.2.2:=Ze (by omega) w.2;have cR:(crs l (crs p q)).2.2≠0:=by omega
   obtain⟨g,_,aD⟩:=i0 cR;have ag:=(fg cR).1;have aK:(crs l (crs p q)).2.2=g*(nP (crs l (crs p q))).2.2:=congrArg (fun x:P3=>x.2.2) aD
   have a7:0<g:=by
    by_cases z:0<g
    ·exact z
    ·have:=aac (show 0 <= -g by omega) (eZ ag);rw[aba]at this;omega
   refine⟨g,ln l q,-ln l p,a7,ab,by omega,?_⟩;rw[<-aD,i3]
 ·rw[if_neg w];rcases kN h with⟨aa,ab⟩|⟨aa,ab⟩
  ·rw[if_neg (by omega)];exact⟨1,_,_,by decide,by omega,aa,FJ _⟩
  ·rw[if_pos ab];exact⟨1,_,_,by decide,ab,by omega,FJ _⟩
theorem vS(l p q:P3)(a b:Int):ln l (lc a p b q)=a*ln l p+b*ln l q:=by unfold ln lc;dsimp only;grind
theorem AF(l p:P3)(s:Int):ln l (sc s p)=s*ln l p:=by unfold ln sc;dsimp only;grind
theorem FK{f:P3->Int}{mt:P3->P3->P3}{x:P3}:∀{ps:List P3}{w:P3},x∈c9 f mt ps w->(x∈ps/\0<=f x)∨∃p∈ps,∃q,(q∈ps∨q=w)/\f p*f q<0/\x=mt p q
 | [],_,h=>by cases h
 | p::r,w,h=>by
  have h:x∈kp f p++cF f mt p (r.headD w)++c9 f mt r w:=h;rcases ZK.mp h with h|h
  ·rcases ZK.mp h with h|h
   ·unfold kp at h;split at h
    ·rename_i z
     rw[ZG.mp h];exact .inl ⟨Zd,z⟩
    ·cases h
   ·unfold cF at h;split at h
    ·rename_i z
     refine .inr ⟨p,Zd,r.headD w,?_,z,ZG.mp h⟩;cases r with
     | nil=>exact .inr rfl
     | cons y r=>exact .inl (Zf _ Zd)
    ·cases h
  ·rcases FK h with⟨aa,ab⟩|⟨ma,aa,q,ab,aK,bo⟩
   ·exact .inl ⟨Zf _ aa,ab⟩
   ·refine .inr ⟨ma,Zf _ aa,q,?_,aK,bo⟩;rcases ab with ab|ab
    ·exact .inl (Zf _ ab)
    ·exact .inr ab
theorem pk{f:P3->Int}{mt:P3->P3->P3}{x:P3}{ps:List P3}(h:x∈dj f mt ps):(x∈ps/\0<=f x)∨∃p∈ps,∃q∈ps,f p*f q<0/\x=mt p q:=by
 rcases FK h with h|⟨p,aa,q,ab,aK⟩
 ·exact .inl h
 ·refine .inr ⟨p,aa,q,?_,aK⟩;rcases ab with ab|ab
  ·exact ab
  ·cases ps with
   | nil=>cases aa
   | cons a r=>rw[ab];exact Zd
end Cut
namespace L2
open PySem PySem.Spec PyProof.Rows PySem.W
section
variable{X:aM}{pins:List (Addr×Obj)}{σ:St}{H:ao}{s:Shared}{h':Heap}
theorem Inv.turned2{t':Nat}{it e:Addr}(I:Inv X pins σ H s)(k:∀b o,b≠it->b≠e->s.heap.get? b=some o->h'.get? b=some o)(vT:jF X pins H it)(vU:jF X pins H e):Inv X pins σ H { s with heap:=h',toks:=t' }:=by
 obtain⟨sQ,gQ,jq,mG,P2,P4⟩:=vT;obtain⟨d8,ai,av,bC,c6,eK⟩:=vU;have oC:∀b u,H b=some u->b≠it/\b≠e:=fun b u q=>⟨(fun z=>by rw[z,sQ]at q;cases q),(fun z=>by rw[z,d8]at q;cases q)⟩;have aY:∀b o,b∉[it,e]->s.heap.get? b=some o->h'.get? b=some o:=fun b o hc q=>k b o (fun z=>hc (by simp[z])) (fun z=>hc (by simp[z])) q
 refine I.step (g':=s.gens) (d':=s.drawn) (ch:=[it,e]) (fun b af=>?_) (fun b o _ _ hc q _=>aY b o hc q) (fun b o _ _ hc q _=>⟨o.slots,aY b o hc q⟩) (fun _ _ _ _ n=>n)
  (fun b o hc q=>⟨o,aY b o hc q⟩) (fun _ _ e=>e) (fun _ _ _ e=>e) (fun b ps q=>⟨#[],by rw[q];simp⟩) (fun m hm=>?_) (fun b u q=>?_) I.bare
 ·rcases ZA.mp af with rfl|af
  ·exact⟨mG,gQ,P2,P4⟩
  ·rw[ZG.mp af];exact⟨bC,ai,c6,eK⟩
 ·obtain⟨o,es,br,aE,r⟩:=hm;exact⟨o,es,br,k _ o (Z8 gQ) (Z8 ai) aE,r⟩
 ·refine(I.hok b u q).stay (fun c v hc y=>k c v ?_ ?_ y) (fun _ q=>q) fun _ _ q=>q
  ·rcases hc with z|z
   ·rw[z];exact(oC b u q).1
   ·exact(oC c _ z).1
  ·rcases hc with z|z
   ·rw[z];exact(oC b u q).2
   ·exact(oC c _ z).2
end
def FL(K:PySem.W.Frag)(a:Addr):hX :=
 ⟨fun i H=>∃xs x,cJ K H a xs/\xs[i]?=some x,fun i H x H'=>∃p y,H p=none/\x=.ref p/\H'=upd H p (.tup [.int i,y])/\∀xs,cJ K H a xs->xs[i]?=some y,fun i H=>∃xs,cJ K H a xs/\xs.length<=i⟩
theorem P5{P:Program}{w:World}{K:PySem.W.Frag}{elts:List Expr}{k:Nat}{pos:Pos}(a it e:Addr)(jS:e≠it):Turn P w K (.Tuple elts k pos) (FL K a) [e,it] e (fun i h=>(∃old,IsEnum h e it (i:Nat) old)/\h.IsListIter it a i) where
 mem:=by simp
 obj:=fun i h st b af=>by
  obtain⟨⟨old,he⟩,o,aE,c,d⟩:=st;rcases ZA.mp af with rfl|af
  ·exact⟨_,he,fun v z=>by cases z⟩
  ·rw[ZG.mp af];exact⟨o,aE,fun v z=>by rw[d]at z;cases z⟩
 keep:=fun i h h' st kp=>by
  obtain⟨⟨old,he⟩,aB⟩:=st;exact⟨⟨old,kp e (by simp) _ he⟩,aB.at fun o q=>kp it (by simp) o q⟩
 item:=by
  intro X gr hw e4 hc i pins s σ H E I hf st aD;subst gr hw e4;obtain⟨xs,x,aA,aC⟩:=aD;obtain⟨⟨old,he⟩,aB⟩:=st;obtain⟨its,cb,p,bb⟩:=I.list aA;obtain⟨u,bF,hH⟩:=cb.get aC;have vU:=hf e (by simp);have vT:=hf it (by simp);have elt:e<s.heap.objs.size:=Heap.lt_size he;have P6:it<s.heap.objs.size:=by obtain⟨o,aE,_⟩:=id aB;exact Heap.lt_size aE
  refine wpAny_pyNext_enum_item he aB p.isList (x:=u) (by simpa using bF) jS fun aa out P7 bt sR kp=>⟨_,rfl,wpAny_letOwnedTupleGo_enum out fun ab P8 f6=>?_⟩;have FN:s.heap.objs.size≠e:=abF elt;have FO:s.heap.objs.size≠it:=abF P6
  have P9:Inv X pins σ (upd H s.heap.objs.size (.tup [.int i,x])) { s with heap:=s.heap.push { cls:=.type "tuple",data:=.seq #[.int i s.toks,u] },toks:=s.toks+1 }:=
   I.laid (t':=s.toks+1) (fun _ _ q=>Heap.get?_push_of_some _ q) (YK _) ⟨by show 2<=sizeLine;decide,[.int i s.toks,u],.cons ⟨_,rfl⟩ (.cons hH .nil),⟨_,Heap.get?_push_size _ rfl,rfl,_,rfl⟩⟩
  have up:∀b,jF X pins H b->b≠s.heap.objs.size->jF X pins (upd H s.heap.objs.size (.tup [.int i,x])) b:=fun b f n=>⟨by rw[dM n];exact f.1,f.2⟩
  have bf:=P9.turned2 (h':=ab) (t':=s.toks+1) (it:=it) (e:=e) (fun b o cc dk q=>by
   rw[f6.2 b dk];by_cases z:b=s.heap.objs.size
   ·subst z;rw[Heap.get?_push_size _ rfl]at q;rw[<-q];exact bt
   ·refine kp b o dk cc ?_;rw[<-q]
    exact(Heap.get?_push_ne s.heap b _ z).symm) (up it vT (Z8 FO)) (up e vU (Z8 FN))
  refine⟨.ref s.heap.objs.size,_,bf,rfl,⟨s.heap.objs.size,x,I.fresh,rfl,rfl,fun ys a6=>by rw[I.list_inj a6 aA];exact aC⟩,⟨⟨_,P8⟩,P7.at fun o q=>(f6.2 it (Z8 jS)).trans q⟩,fun b af=>?_⟩;rcases ZA.mp af with rfl|af
  ·exact(up _ vU (Z8 FN)).1
  ·rw[ZG.mp af];exact(up it vT (Z8 FO)).1
 done:=by
  intro X gr hw e4 hc i pins s σ H E I hf st aD;subst gr hw e4;obtain⟨xs,aA,aC⟩:=aD;obtain⟨⟨old,he⟩,aB⟩:=st;obtain⟨its,cb,p,bb⟩:=I.list aA;obtain⟨f0,f1,f2,bQ,f4,eo⟩:=hf it (by simp);have aj:=cb.length;exact wpAny_pyNext_enum_end (I.ok.hd hc) he aB p.isList (by simp;omega) fun h' ep=>⟨rfl,I.turned (t':=s.toks) (fun b o af q=>ep b o af q) f0 f1 bQ f4 eo⟩
 self:=fun _ _ _ _ _ st h=>by
  obtain⟨⟨old,he⟩,_⟩:=st;exact wpAny_pyIter_enum he h
def P'(K:PySem.W.Frag)(bT:eV):TI:=fun σ H R=>bT σ H fun vs H1=>∃a,vs=[.ref a]/\(∃xs,cJ K H1 a xs)/\R (FL K a) H1
theorem AG{X:aM}{elts:List Expr}{k:Nat}{i3:Pos}{a:Expr}{bT:eV}{p pos:Pos}(aD:eJ X "enumerate")(hm:X.mg "enumerate"=none)(ay:hn X [a] bT)(aq:starEach [a] X.env=[(false,eval a X.env)]:=by rfl):jG X (.Tuple elts k i3) (.Call (.Name "enumerate" p) [a] [] pos) (P' X.K bT):=by
 intro pins s σ H R I h;refine Call_ (p2 I aD hm (by decide +kernel:bootBuiltins "enumerate"=some (.type "enumerate")) (abH (ck (ay pos pins s σ H _ I h) fun us s1 ⟨vs,H1,bf,au,aW⟩=>?_) aq rfl));obtain⟨l,e,⟨xs,aA⟩,q⟩:=aW;subst e;obtain⟨u,rfl,r⟩:=vals1 au;cases r;obtain⟨its,cb,c1,bb⟩:=bf.list aA;refine call_enumerate_list c1.isList fun h' lN li sz kp=>wpAny_pyIter_enum lN ?_;refine⟨s1.heap.objs.size+1,[s1.heap.objs.size+1,s1.heap.objs.size],_,_,H1,rfl,bf.kept (t':=s1.toks) kp,P5 l s1.heap.objs.size (s1.heap.objs.size+1) (Nat.succ_ne_self _),⟨⟨_,lN⟩,li⟩,fun b af=>?_,q⟩;rcases ZA.mp af with rfl|af
 ·exact bf.fpOk (aa8 _) (bf.hok.fresh (aa8 _))
 ·rw[ZG.mp af];exact bf.fpOk (YK _) (bf.hok.fresh (YK _))
end L2
namespace L3
open PySem L2
def h6:Nat->List D->List D
 | _,[]=>[]
 | n,d::r=>.tup [.int (n:Nat),d]::h6 (n+1) r
def Qa(u:a5)(g:ee)(s:cW):cW:=fun U ρ=>u ρ fun d=>∃ds,d=.lst ds/\forR g s U (h6 0 ds) ρ
section
variable{X:aM}{a:Expr}{u:a5}{pos p:Pos}
theorem Qb{elts:List Expr}{k:Nat}{i3:Pos}{body:List Stmt}{g:ee}{s:cW}(ag:PassesOwn (model X.prog X.w) X.A X.env X.xe)(hc:X.calm=true)(ay:bq X a u)(AH:eJ X "enumerate")(hm:X.mg "enumerate"=none)(aD:iT X (.Tuple elts k i3) g)(af:gM X body s)(sS:starEach [a] X.env=[(false,eval a X.env)]:=by rfl)(aq:∀x,foldedSetIterable (.Call (.Name "enumerate" p) [a] [] pos) X.env x=pure x:=by intro _;rfl){pos':Pos}:
  e7 X (.For (.Tuple elts k i3) (.Call (.Name "enumerate" p) [a] [] pos) body [] pos') (Qa u g s):=by
 obtain⟨_,h0,gw⟩:=ay;obtain⟨_,aa,au⟩:=aD;obtain⟨_,ab,aG⟩:=af;refine⟨_,uG ag hc (AG AH hm (er h0 fK (by rw[sS];rfl)) sS) aa ab aq,fun U ρ h R W B H σ D e dU=>?_⟩;refine gw ρ _ h R W B H σ _ e fun d v a4 H1 z1 ai g1 cb=>?_;obtain⟨ds,rfl,z1⟩:=z1;obtain⟨l,vs,rfl,aj,rs⟩:=cb.lstV;refine⟨l,rfl,⟨vs,cJ.of (ai.bh _ _ aj)⟩,?_⟩;refine⟨fun i m a' H'=>∃bu ax,m=ds.length-i/\i<=ds.length/\forR g s U (h6 i (ds.drop i)) bu/\Ev X.K R W ax H' a' bu/\bM R B ax/\cm a4 ax,⟨ds.length,ρ,a4,by simp,aaa _,z1,ai,g1,cm.refl _⟩,?_⟩;rintro i m f5 aZ ⟨gA,bD,rfl,aB,aT,av,g2,s2⟩;have aA:cJ X.K aZ l vs:=cJ.of (av.bh _ _ (s2 _ _ aj));by_cases cM:i<ds.length
 ·have sT:i<vs.length:=by rw[rs.length];exact cM
  refine .inr ⟨⟨vs,vs[i],aA,ZT sT⟩,fun a' H'=>∃bu ax,forR g s U (h6 (i+1) (ds.drop (i+1))) bu/\Ev X.K R W ax H' a' bu/\bM R B ax/\cm a4 ax,?_,?_⟩
  ·rintro a' H' ⟨bu,ax,z,aU,g',s'⟩;exact⟨ds.length-(i+1),by omega,bu,ax,rfl,cM,z,aU,g',s'⟩
  ·rintro x H' ⟨q,y,lP,rfl,rfl,a6⟩;obtain⟨d,hd,bg⟩:=rs.getV (a6 vs aA)
   have gd:ds.drop i=d::ds.drop (i+1):=by
    rw[aaH cM];rw[ZT cM]at hd;rw[ZH hd]
   rw[gd]at aT;have g3:=av.grow lP (.tup [.int i,y]);have bC:=av.alloc lP (.tup [.int i,y]);refine au _ gA _ aT R W _ _ f5 (.ref q) _ bC (.tup ei (.cons (.int _) (.cons (bg.mono (s2.trans g3.s)) .nil))) fun bu a' el aU _=>?_;have dx:=g2.trans g3;have s4:=s2.trans g3.s;exact aG _ bu el R W _ _ a' _ aU ⟨fun bu a' ax H' z aU g=>⟨bu,ax,z,aU,dx.trans g,s4.trans g.s⟩,fun bu a' ax H' z aU g=>dU.nx bu a' ax H' z aU (dx.trans g),fun bu a' ax H' z aU g=>⟨bu,ax,z,aU,dx.trans g,s4.trans g.s⟩,fun r v ax H' z aU g q=>dU.rt r v ax H' z aU (dx.trans g) q⟩
 ·have eE:i=ds.length:=by omega
  subst eE;rw[aaP]at aT;exact .inl ⟨⟨vs,aA,by rw[rs.length];exact YK _⟩,dU.nx gA f5 bD aZ aT av g2⟩
end
theorem AI{α:Type}{f:α->D}{s:cW}{U:il}{i j:Nat}(I:List α->List aI->Prop):∀{rs done:List α}{ρ:List aI},I done ρ ->
  (∀(pre:List α)(r:α)(rest:List α) ρ,done++rs=pre++r::rest->I pre ρ->∀N:List aI->Prop,(∀d0,I (pre++[r]) d0->N d0)->s { U with nx:=N,ct:=N,bk:=U.nx } ((ρ.set i (.val (.int pre.length))).set j (.val (f r))))->(∀ρ,I (done++rs) ρ->U.nx ρ) ->
  forR (mu 2 (g4 (gy i) (g4 (gy j) mr))) s U (h6 done.length (rs.map f)) ρ
 | [],done,ρ,h0,_,ab=>ab ρ (by rw[ZF];exact h0)
 | r::rs,done,ρ,h0,aa,ab=>by
  refine⟨_,rfl,rfl,_,_,rfl,_,_,rfl,rfl,aa done r rs ρ rfl h0 _ fun d0 ak=>?_⟩;have e:done++r::rs=(done++[r])++rs:=by simp
  rw[e]at aa ab;have:=AI I ak aa ab;rw[Zg]at this;exact this
end L3
namespace Cut
open PySem L2 L3
theorem FP{x y:Int}:sg x*sg y<0↔x*y<0:=by
 constructor
 ·intro h;rcases kN h with⟨a,b⟩|⟨a,b⟩
  ·have aa:0<x:=by unfold sg at a;split at a<;>first|assumption|(split at a<;>omega)
   have ab:y<0:=by unfold sg at b;split at b<;>first|omega|(split at b<;>first|assumption|omega)
   exact ZP aa ab
  ·have aa:x<0:=by unfold sg at a;split at a<;>first|omega|(split at a<;>first|assumption|omega)
   have ab:0<y:=by unfold sg at b;split at b<;>first|assumption|(split at b<;>omega)
   rw[ZQ];exact ZP ab aa
 ·intro h;rcases kN h with⟨a,b⟩|⟨a,b⟩
  ·have ai:sg x=1:=nS a;have av:sg y = -1:=by unfold sg;rw[if_neg (by omega),if_pos b]
   rw[ai,av];decide
  ·have ai:sg x = -1:=by unfold sg;rw[if_neg (by omega),if_pos a]
   have av:sg y=1:=nS b;rw[ai,av];decide
theorem FQ{x:Int}:0<=sg x↔0<=x:=by unfold sg;split<;>first|omega|(split<;>omega)
theorem FR{x:Int}:sg x<=0↔x<=0:=by unfold sg;split<;>first|omega|(split<;>omega)
theorem Qc{pre rest:List P3}{c fE:P3}(h:(pre++c::rest).headD fE=fE):bz (pre++c::rest) ((pre.length+1)%(pre++c::rest).length)=rest.headD fE:=by
 cases rest with
 | nil =>
  have e:(pre.length+1)%(pre++[c]).length=0:=by rw[Zg];simp
  rw[e];cases pre with
  | nil=>exact h
  | cons p pre=>exact h
 | cons d rest =>
  rw[ZW (by simp)];unfold bz;rw[aaf (by omega)];simp
theorem AJ{α:Type}{xs:List α}{i:Nat}{x:α}(h:xs[i]?=some x):dO xs (i:Int)=some x:=by
 have lt:i<xs.length:=(aa7.mp h).1;unfold dO
 have e:L2.ixN xs.length (i:Int)=some i:=by
  unfold L2.ixN;rw[if_pos (by omega)];simp[lt]
 rw[e];exact h
theorem Qd{α:Type}{h:P3->α}{pre rest:List P3}{c:P3}:dO ((pre++c::rest).map h) (pre.length:Int)=some (h c):=by
 refine AJ ?_;rw[ZL,aaf (YK _)];simp
theorem FT{α:Type}{h:P3->α}{ps pre rest:List P3}{c fE:P3}(e:ps=pre++c::rest)(ay:ps.headD fE=fE):dO (ps.map h) (((pre.length:Int)+1)%(ps.length:Int))=some (h (rest.headD fE)):=by
 subst e;have cR:0<(pre++c::rest).length:=by rw[Zg,ZC];omega
 have lt:=aa1 (pre.length+1) cR;have ai:((pre.length:Int)+1)%((pre++c::rest).length:Int)=(((pre.length+1)%(pre++c::rest).length:Nat):Int):=by rw[Int.natCast_emod];rfl
 rw[ai];refine AJ ?_;rw[ZL];have:=Qc ay;unfold bz at this;rw[ZT lt]at this ⊢;simp at this;simp[this]
theorem vV{f:P3->Int}{mt:P3->P3->P3}{pre:List P3}{c w:P3}:c9 f mt (pre++[c]) w=c9 f mt pre c++kp f c++cF f mt c w:=by
 rw[sO];show c9 f mt pre c++(kp f c++cF f mt c w++[])=_
 rw[ZF,ZU]
theorem AK{f:P3->Int}{mt:P3->P3->P3}:∀{ps:List P3}{w:P3},(c9 f mt ps w).length<=2*ps.length
 | [],_=>YK _
 | p::r,w=>by
  show(kp f p++cF f mt p (r.headD w)++c9 f mt r w).length<=_
  have h:=AK (f:=f) (mt:=mt) (ps:=r) (w:=w);have aa:(kp f p).length<=1:=by unfold kp;split<;>simp
  have ab:(cF f mt p (r.headD w)).length<=1:=by unfold cF;split<;>simp
  rw[Zg,Zg,ZC];omega
theorem Qe(x:Int): -1<=sg x/\sg x<=1:=by unfold sg;split<;>first|omega|(split<;>omega)
theorem FU(x:Int):acj (sg x)<=9000:=by
 have:=Qe x;have vW:(10:Int)^30=1000000000000000000000000000000:=rfl;exact Gg (OD (by omega) (by omega)) (by decide)
theorem FV{f:P3->Int}{c:P3}(h:0<=f c):kp f c=[c]:=by unfold kp;rw[if_pos h]
theorem FW{f:P3->Int}{c:P3}(h:¬0<=f c):kp f c=[]:=by unfold kp;rw[if_neg h]
theorem jr{l p q:P3}(ag:aS p)(aA:aS q):nP (crs l (crs p q))=aX l p q:=by unfold aX;rw[if_pos ⟨ag.1,aA.1⟩]
theorem jt{l p q:P3}(ag:aS p)(aA:aS q)(h:ln l p*ln l q<0):(crs l (crs p q)).2.2≠0:=by
 rw[show(crs l (crs p q)).2.2=ln l q*p.2.2 + -ln l p*q.2.2 by rw[sL l p q];rfl];have w1:=ag.1;have c7:=aA.1;rcases kN h with⟨a,b⟩|⟨a,b⟩
 ·have cc:ln l q*p.2.2<0:=by rw[ZQ];exact ZP w1 b
  have dk : -ln l p*q.2.2<0:=by rw[ZQ];exact ZP c7 (by omega)
  omega
 ·have cc:0<ln l q*p.2.2:=Ze b w1;have dk:0 < -ln l p*q.2.2:=Ze (by omega) c7;omega
theorem FX{l:P3}{ps:List P3}:D.int 1∈ps.map (fun c=>D.int (sg (ln l c)))↔∃c∈ps,0<ln l c:=by
 rw[ZJ];constructor
 ·rintro⟨c,hc,e⟩;exact⟨c,hc,Fo (D.int.inj e)⟩
 ·rintro⟨c,hc,h⟩;exact⟨c,hc,by rw[nS h]⟩
theorem vX{l:P3}{ps:List P3}:D.int (-1)∈ps.map (fun c=>D.int (sg (ln l c)))↔∃c∈ps,ln l c<0:=by
 rw[ZJ];constructor
 ·rintro⟨c,hc,e⟩;refine⟨c,hc,?_⟩;have:=D.int.inj e;unfold sg at this;split at this
  ·omega
  ·split at this<;>omega
 ·rintro⟨c,hc,h⟩;exact⟨c,hc,by unfold sg;rw[if_neg (by omega),if_pos h]⟩
end Cut
namespace L3
open PySem L2
def jX:aI->aI
 | .new d=>.val d
 | .pin _ d=>.val d
 | .own (.d _ _ _ _)=>.no
 | .deep _=>.no
 | s=>s
def look(s:aI):aI:=vE (jX s)
section
variable{K:PySem.W.Frag}{R:ao}{W:Addr->Prop}{B ax H H':ao}{σ:St}{ρ:List aI}
theorem Qf:(ρ.map jX).map vE=ρ.map look:=by rw[ZV];rfl
theorem FY{i:Nat}{a:Addr}(m:cX σ (ρ.map jX) i a):cX σ ρ i a:=by
 rcases m with⟨aa,ab⟩|⟨c,aa,_⟩
 rotate_left
 ·rw[ZL]at aa;cases q:ρ[i]? with
  | none=>rw[q]at aa;cases aa
  | some cC =>
   rw[q]at aa;cases cC with
   | own ds=>cases ds<;>cases aa
   | _=>cases aa
 refine .inl ⟨aa,?_⟩;rw[ZL]at ab;cases q:ρ[i]? with
 | none=>rw[q]at ab;rcases ab with ab|⟨_,ab⟩<;>cases ab
 | some cC =>
  rw[q]at ab;cases cC with
  | bag=>exact .inl rfl
  | own ds=>exact .inr ⟨ds,rfl⟩
  | no=>rcases ab with ab|⟨_,ab⟩<;>cases ab
  | new d=>rcases ab with ab|⟨_,ab⟩<;>cases ab
  | pin v d=>rcases ab with ab|⟨_,ab⟩<;>cases ab
  | deep d=>rcases ab with ab|⟨_,ab⟩<;>cases ab
  | val d=>rcases ab with ab|⟨_,ab⟩<;>cases ab
theorem FZ{i:Nat}:(ρ.map jX)[i]?=some .bag↔ρ[i]?=some .bag:=by
 rw[ZL];constructor
 ·intro h;cases q:ρ[i]? with
  | none=>rw[q]at h;cases h
  | some cC =>
   rw[q]at h;cases cC with
   | bag=>rfl
   | own ds=>cases ds<;>cases h
   | no=>cases h
   | new d=>cases h
   | pin v d=>cases h
   | deep d=>cases h
   | val d=>cases h
 ·intro h;rw[h];rfl
theorem F0{a:Addr}:i1 W σ (ρ.map jX) a↔i1 W σ ρ a:=by
 unfold i1;constructor
 ·rintro(h|⟨i,aa,ab⟩)
  ·exact .inl h
  ·exact .inr ⟨i,aa,FZ.mp ab⟩
 ·rintro(h|⟨i,aa,ab⟩)
  ·exact .inl h
  ·exact .inr ⟨i,aa,FZ.mpr ab⟩
theorem Ev.wide(e:Ev K R W B H σ ρ):Ev K R W (fD R W B) H σ (ρ.map jX):=by
 have nm:∀a,R a=none->fD R W B a=B a:=fun a h=>vy fun vs z=>by rw[h]at z;cases z
 refine⟨⟨e.fr,nI e.toWd,fun a z=>by rw[z5 z];exact e.wb a z,e.wh,e.wr⟩,by rw[YL];exact e.len,fun i k h=>?_,fun i j a bw b3=>e.sep i j a (FY bw) (FY b3)⟩;rw[ZL]at h;cases q:ρ[i]? with
 | none=>rw[q]at h;cases h
 | some cC =>
  rw[q]at h;have h:=ZH h;subst h;have z:=e.ok i _ q;cases cC with
  | no=>trivial
  | new d=>exact z
  | pin v d=>exact⟨v,z⟩
  | deep c=>trivial
  | val d =>
   obtain⟨v,aa,ab⟩:=z;exact⟨v,aa,ab.mono (EI e.toWd)⟩
  | own ds =>
   cases ds with
   | d _ _ _ _=>trivial
   | l ds =>
   obtain⟨a,aa,ab,aK,bo⟩:=z;exact⟨a,aa,ab,by rw[nm a ab];exact aK,bo.mono (EI e.toWd) rfl⟩
  | bag =>
   obtain⟨b,aa,ab,aK,bo⟩:=z;refine⟨b,aa,ab,?_,bo⟩;rcases ab with ab|ab
   ·rw[z5 ab];exact aK
   ·rw[nm b ab];exact aK
theorem vY{a:Addr}{o:eS}(h:B a=some o)(n:∀vs,o≠.lst vs):eB R B a=some o:=by
 unfold eB;rw[h];cases o with
 | lst vs=>exact absurd rfl (n vs)
 | _=>rfl
noncomputable abbrev vZ(R:ao)(W:Addr->Prop)(B H:ao)(σ:St)(ρ:List aI):ao:=nM (fD R W B) H σ (ρ.map jX)
theorem Ev.looked(e:Ev K R W B H σ ρ){bD aZ:ao}(wd:Wd H (i1 W σ (ρ.map jX)) bD aZ)(g:bM H (vZ R W B H σ ρ) bD):
  ∃ax,Ev K R W ax aZ σ ρ/\bM R B ax/\cm (eB H bD) (eB R ax)/\∀a,H a=none->ax a=bD a:=by
 have u:=e.unframe (H':=aZ) (fun a o h nw=>wd.fr a o h fun z=>nw (F0.mp z)) (fun a h=>wd.wh a (F0.mpr h))
 obtain⟨a4,a9,ba⟩:∃a4:ao,(∀a,H a=none->a4 a=bD a)/\∀a,H a≠none->a4 a=B a :=
  ⟨fun a=>match H a with|none=>bD a|some _=>B a,fun a h=>by dsimp only;rw[h],fun a h=>by
   dsimp only;cases q:H a with
   | none=>exact absurd q h
   | some o=>rfl⟩
 have s:cm B a4:=fun a o h=>by rw[ba a (by rw[e.bh a o h];simp)];exact h
 refine⟨a4,u.move ⟨u.fr,fun a o h=>?_,fun a z=>?_,u.wh,u.wr⟩ s fun i a m=>⟨?_,fun z=>?_,fun _=>rfl⟩,⟨s,fun a o h=>?_⟩,fun a o h=>?_,a9⟩
 ·by_cases q:H a=none
  ·rw[a9 a q]at h;exact wd.bh a o h
  ·rw[ba a q]at h;exact u.bh a o h
 ·obtain⟨x,y,q,_⟩:=e.wh a z;rw[ba a (by rw[q];simp)];exact e.wb a z
 ·rw[ba a (e.mutOk m).2];exact(e.mutOk m).1
 ·obtain⟨b,aF,_,_,bP⟩:=u.bagAt z;rw[oS m z]at aF;cases aF;exact bP
 ·by_cases q:H a=none
  ·exact .inr (e.toWd.fresh q).1
  ·rw[ba a q]at h;exact .inl h
 ·have ab:=iS a o h;by_cases q:H a=none
  ·have af:a4 a=some o:=by rw[a9 a q];exact ab
   cases o with
   | lst vs=>exact u5 af (e.toWd.fresh q).1
   | _=>exact vY af (fun _ z=>by cases z)
  ·have nl:∀vs,o≠.lst vs:=fun vs z=>by
    subst z;exact q (zD h).2
   refine vY ?_ nl;rw[ba a q];rcases g.n a o ab with z|z
   ·by_cases w:lH σ (ρ.map jX) a
    ·obtain⟨i,ds,w1,c7⟩:=id w;cases ds with
     | d v3 tt aY h4 =>
      rw[ZL]at c7;cases q:ρ[i]? with
      | none=>rw[q]at c7;cases c7
      | some cC =>
       rw[q]at c7;have c7:=ZH c7;cases cC with
       | own c=>cases c<;>simp[jX]at c7
       | _=>simp[jX]at c7
     | l ds =>
     obtain⟨b,vs,aF,_,_,bP,_⟩:=e.wide.ownAt c7;rw[w1]at aF;cases aF;rw[vZ,qE w,bP]at z;cases z;exact absurd rfl (nl vs)
    ·rw[vZ,qF w]at z;rcases vz z with z|⟨_,_,vs,z⟩
     ·exact z
     ·exact absurd z (nl vs)
   ·exact absurd z q
theorem Ev.lookF(e:Ev K R W B H σ ρ):Ev K H (i1 W σ (ρ.map jX)) (vZ R W B H σ ρ) H σ (ρ.map look):=by
 have:=e.wide.frame;rw[Qf]at this;exact this
end
section
variable{K:PySem.W.Frag}{X:aM}{e:Expr}{es:List Expr}{u:a5}{w:cQ}{pos p:Pos}
def Qg(u:a5):a5:=fun ρ k=>u (ρ.map look) fun d=>flat d=true/\k d
theorem AL(h:bq X e u):bq X e (Qg u):=by
 obtain⟨_,aa,au⟩:=h;refine⟨_,aa,fun ρ k h R W B H σ Q e q=>?_⟩;refine au _ _ h _ _ _ _ _ _ e.lookF fun d v bD aZ z aU g s=>?_;obtain⟨a4,ai,g1,s1,_⟩:=e.looked aU.toWd g;exact q d v a4 aZ z.2 ai g1 (((s.flat z.1).mono s1).mono iS)
def Qh(u:a5):a5:=fun ρ k=>u (ρ.map look) k
theorem v5(h:jU X e u):jU X e (Qh u):=by
 obtain⟨_,aa,au⟩:=h;refine⟨_,aa,fun ρ k h R W B H σ Q e q=>?_⟩;refine au _ _ h _ _ _ _ _ _ e.lookF fun d v bD aZ z aU g s=>?_;obtain⟨a4,ai,g1,s1,_⟩:=e.looked aU.toWd g;exact q d v a4 aZ z ai g1 (s.mono s1)
theorem v7(h:jU X e u):bq X e u:=by
 obtain⟨_,aa,au⟩:=h;refine⟨_,aa,fun ρ k h R W B H σ Q e q=>?_⟩;exact au ρ k h R W B H σ _ e fun d v a4 H1 z ai g1 s1=>q d v a4 H1 z ai g1 (s1.mono iS)
def F1(w:cQ):cQ:=fun ρ k=>w (ρ.map look) fun ds=>flats ds=true/\k ds
theorem Qi{t:TE}(au:qj K t w):qj K t (F1 w):=by
 intro ρ k h R W B H σ Q e q;refine au _ _ h _ _ _ _ _ _ e.lookF fun ds a vs bD aZ z aU g f1 f2 bQ f4 eo=>?_;obtain⟨a4,ai,g1,s1,a9⟩:=e.looked aU.toWd g;exact q ds a vs a4 aZ z.2 ai g1 (e.toWd.fresh f1).1 (by rw[a9 a f1];exact f2) bQ (((f4.flat z.1).mono s1).mono iS) fun i m=>(e.mutOk m).2 f1
def Qj(K:PySem.W.Frag)(g:gq)(u:ee):Prop:=∀(d:D)(ρ:List aI)(k:List aI->Prop),u d ρ k->∀(R:ao)(W:Addr->Prop)(B H:ao)(σ:St)(v:V)(Q:St->ao->Prop),Ev K R W B H σ ρ->Rep K (fD R W B) v d ->
 (∀bu a',k bu->Ev K R W B H a' bu->Q a' H)->g v σ H Q
def Qk(K:PySem.W.Frag)(g:kf)(u:iR):Prop:=∀(ds:List D)(ρ:List aI)(k:List aI->Prop),u ds ρ k->∀(R:ao)(W:Addr->Prop)(B H:ao)(σ:St)(vs:List V)(Q:St->ao->Prop),Ev K R W B H σ ρ->Reps K (fD R W B) vs ds ->
 (∀bu a',k bu->Ev K R W B H a' bu->Q a' H)->g vs σ H Q
def sU(X:aM)(e:Expr)(u:ee):Prop:=∃t,iK X e t/\Qj X.K t u
def v8(X:aM)(e:List Expr)(u:iR):Prop:=∃t,oF X e t/\Qk X.K t u
theorem F2{R:ao}{W:Addr->Prop}{B H:ao}{v:V}{d:D}(w:Wd R W B H)(r:Rep K (fD R W B) v d)(f:flat d=true):Rep K B v d:=by
 refine(r.flat (R:=H) f).mono fun a o h=>?_;have ab:=iS a o h;rcases vz ab with z|⟨_,_,vs,rfl⟩
 ·exact z
 ·have:=(zD h).2;rw[nI w a _ ab]at this;cases this
def AM(i:Nat):ee:=fun d ρ k=>k (ρ.set i (.new d))
def sV(i:Nat):ee:=fun d ρ k=>flat d=true/\k (ρ.set i (.val d))
theorem F3{i:Nat}{x:Str}(bI:X.N.Nodup)(aB:X.N[i]?=some x)(aC:Loc X.env.scope x)(hf:X.fn x=true∨X.env.scope.names.lookup x=some .local:=by first|exact .inl rfl|exact .inr rfl|assumption):sU X (.Name x pos) (AM i):=
 ⟨_,yT bI aB aC hf,fun d ρ k h R W B H σ v Q e r q=>q _ _ h (e.set i ⟨v,rfl,r⟩ fun _ _ z=>by rcases z with z|⟨_,z⟩<;>cases z)⟩
theorem v9{i:Nat}{x:Str}(bI:X.N.Nodup)(aB:X.N[i]?=some x)(aC:Loc X.env.scope x)(hf:X.fn x=true∨X.env.scope.names.lookup x=some .local:=by first|exact .inl rfl|exact .inr rfl|assumption):sU X (.Name x pos) (sV i):=
 ⟨_,yT bI aB aC hf,fun d ρ k h R W B H σ v Q e r q=>q _ _ h.2 (e.setV i (F2 e.toWd r h.1))⟩
theorem F4:v8 X [] mr:=⟨_,Df,fun ds ρ k h R W B H σ vs Q e r q=>by
 obtain⟨rfl,h⟩:=h;cases r
 exact⟨rfl,q _ _ h e⟩⟩
theorem qL{g:ee}{gb:iR}(aa:sU X e g)(ab:v8 X es gb)(aq:(assignEach (e::es) X.env).map (·.2)=assign e X.env::(assignEach es X.env).map (·.2):=by rfl):v8 X (e::es) (g4 g gb):=by
 obtain⟨_,aa,au⟩:=aa;obtain⟨_,ab,aG⟩:=ab;refine⟨_,Dg aa ab aq,fun ds ρ k h R W B H σ vs Q e r q=>?_⟩;obtain⟨d,hE,rfl,h⟩:=h;cases r with
 | cons cb rs =>
  refine⟨_,_,rfl,au d ρ _ h R W B H σ _ _ e cb fun bu a' z aU=>?_⟩;exact aG hE bu k z R W B H a' _ _ aU rs fun zJ zK aT av=>q zJ zK aT av
theorem F5{cC:Nat}{gb:iR}{n:Nat}(hc:X.calm=true)(h:v8 X es gb)(aN:(assignEach es X.env).length=n:=by rfl)(l9:(assignEach es X.env).findIdx? (·.1)=none:=by rfl):sU X (.Tuple es cC pos) (mu n gb):=by
 obtain⟨_,aa,au⟩:=h;refine⟨_,Dh hc aa aN l9,fun d ρ k h R W B H σ v Q e r q=>?_⟩;obtain⟨ds,rfl,aj,h⟩:=h;obtain⟨a,vs,rfl,ay,rs⟩:=r.tupV;exact⟨a,vs,rfl,en.of (nI e.toWd _ _ ay),by rw[rs.length];exact aj,au ds ρ k h R W B H σ vs Q e rs q⟩
variable{bG:Expr}
def Ql(n:Nat)(g:ee)(s:cW):cW:=fun U ρ=>∃ds,ρ[n]?=some (.new (.lst ds))/\forR g s U ds ρ
theorem Ev.oldAt{R:ao}{W:Addr->Prop}{B H:ao}{σ:St}{ρ:List aI}(e:Ev K R W B H σ ρ){i:Nat}{d:D}(h:ρ[i]?=some (.new d)):∃v,σ[i]?=some (some v)/\Rep K (fD R W B) v d:=by
 obtain⟨v,aa,ab⟩:=e.ok i _ h;exact⟨v,join_some aa,ab⟩
theorem F6(n:Nat){x:Str}{px:Pos}{body:List Stmt}{g:ee}{s:cW}(ag:PassesOwn (model X.prog X.w) X.A X.env X.xe)(hc:X.calm=true)(aD:sU X bG g)(af:gM X body s)(bI:X.N[n]?=some x:=by rfl)(aP:gF X.env.scope x:=by first|exact Sz rfl|exact Zh (Sz rfl)|exact Zh (Zh rfl))(hd:(x==("__debug__":Str))=false:=by decide)(dz:(x==("__classdict__":Str))=false:=by decide)(aq:∀v,foldedSetIterable (.Name x px) X.env v=pure v:=by intro _;rfl):e7 X (.For bG (.Name x px) body [] pos) (Ql n g s):=by
 obtain⟨_,aa,au⟩:=aD;obtain⟨_,ab,aG⟩:=af;refine⟨_,uG ag hc (Dj (ic bI aP hd dz)) aa ab aq,fun U ρ h R W B H σ D e dU=>?_⟩;obtain⟨ds,aE,z1⟩:=h;obtain⟨v,pl,cb⟩:=e.oldAt aE;obtain⟨l,vs,rfl,aj,rs⟩:=cb.lstV;refine⟨_,pl,l,rfl,⟨vs,cJ.of (nI e.toWd _ _ aj)⟩,?_⟩;refine⟨fun i m a' H'=>∃bu ax,m=ds.length-i/\i<=ds.length/\forR g s U (ds.drop i) bu/\Ev X.K R W ax H' a' bu/\bM R B ax,⟨ds.length,ρ,B,by simp,aaa _,z1,e,bM.refl _ _⟩,?_⟩;rintro i m f5 aZ ⟨gA,bD,rfl,aB,aT,av,g2⟩;have aA:cJ X.K aZ l vs:=cJ.of (nI av.toWd _ _ (oQ g2.s _ _ aj));by_cases cM:i<ds.length
 ·have sT:i<vs.length:=by rw[rs.length];exact cM
  refine .inr ⟨⟨vs,vs[i],aA,ZT sT⟩,fun a' H'=>∃bu ax,forR g s U (ds.drop (i+1)) bu/\Ev X.K R W ax H' a' bu/\bM R B ax,?_,?_⟩
  ·rintro a' H' ⟨bu,ax,z,aU,g'⟩;exact⟨ds.length-(i+1),by omega,bu,ax,rfl,cM,z,aU,g'⟩
  ·rintro x0 H' ⟨rfl,a6⟩;obtain⟨d,m4,bg⟩:=rs.getV (a6 vs aA)
   have gd:ds.drop i=d::ds.drop (i+1):=by
    rw[aaH cM];rw[ZT cM]at m4;rw[ZH m4]
   rw[gd]at aT;refine au d gA _ aT R W bD _ f5 x0 _ av (bg.mono (oQ g2.s)) fun bu a' el aU=>?_;exact aG _ bu el R W bD _ a' _ aU ⟨fun bu a' ax H' z aU g=>⟨bu,ax,z,aU,g2.trans g⟩,fun bu a' ax H' z aU g=>dU.nx bu a' ax H' z aU (g2.trans g),fun bu a' ax H' z aU g=>⟨bu,ax,z,aU,g2.trans g⟩,fun r v ax H' z aU g q=>dU.rt r v ax H' z aU (g2.trans g) q⟩
 ·have eE:i=ds.length:=by omega
  subst eE;rw[aaP]at aT;exact .inl ⟨⟨vs,aA,by rw[rs.length];exact YK _⟩,dU.nx gA f5 bD aZ aT av g2⟩
def Qm(n:Nat)(g:ee)(s:cW):cW:=fun U ρ=>∃ds,ρ[n]?=some (.new (.lst ds))/\flats ds=true/\forR g s U (h6 0 ds) ρ
theorem Qn(n:Nat){x:Str}{px:Pos}{elts:List Expr}{k:Nat}{i3:Pos}{body:List Stmt}{g:ee}{s:cW}(ag:PassesOwn (model X.prog X.w) X.A X.env X.xe)(hc:X.calm=true)(AH:eJ X "enumerate")(hm:X.mg "enumerate"=none)(aD:iT X (.Tuple elts k i3) g)(af:gM X body s)(bI:X.N[n]?=some x:=by rfl)(aP:gF X.env.scope x:=by first|exact Sz rfl|exact Zh (Sz rfl)|exact Zh (Zh rfl))(hd:(x==("__debug__":Str))=false:=by decide)(dz:(x==("__classdict__":Str))=false:=by decide)(sS:starEach [.Name x px] X.env=[(false,eval (.Name x px) X.env)]:=by rfl)(aq:∀v,foldedSetIterable (.Call (.Name "enumerate" p) [.Name x px] [] pos) X.env v=pure v:=by intro _;rfl){pos':Pos}:
  e7 X (.For (.Tuple elts k i3) (.Call (.Name "enumerate" p) [.Name x px] [] pos) body [] pos') (Qm n g s):=by
 obtain⟨_,aa,au⟩:=aD;obtain⟨_,ab,aG⟩:=af;refine⟨_,uG ag hc (AG AH hm (er (ic bI aP hd dz) fK (by rw[sS];rfl)) sS) aa ab aq,fun U ρ h R W B H σ D e dU=>?_⟩;obtain⟨ds,aE,Qo,z1⟩:=h;obtain⟨v,pl,cb⟩:=e.oldAt aE;obtain⟨l,vs,rfl,aj,rs⟩:=cb.lstV;refine⟨_,pl,l,rfl,⟨vs,cJ.of (nI e.toWd _ _ aj)⟩,?_⟩;refine⟨fun i m a' H'=>∃bu ax,m=ds.length-i/\i<=ds.length/\forR g s U (h6 i (ds.drop i)) bu/\Ev X.K R W ax H' a' bu/\bM R B ax,⟨ds.length,ρ,B,by simp,aaa _,z1,e,bM.refl _ _⟩,?_⟩;rintro i m f5 aZ ⟨gA,bD,rfl,aB,aT,av,g2⟩;have aA:cJ X.K aZ l vs:=cJ.of (nI av.toWd _ _ (oQ g2.s _ _ aj));by_cases cM:i<ds.length
 ·have sT:i<vs.length:=by rw[rs.length];exact cM
  refine .inr ⟨⟨vs,vs[i],aA,ZT sT⟩,fun a' H'=>∃bu ax,forR g s U (h6 (i+1) (ds.drop (i+1))) bu/\Ev X.K R W ax H' a' bu/\bM R B ax,?_,?_⟩
  ·rintro a' H' ⟨bu,ax,z,aU,g'⟩;exact⟨ds.length-(i+1),by omega,bu,ax,rfl,cM,z,aU,g'⟩
  ·rintro x0 H' ⟨q,y,lP,rfl,rfl,a6⟩;obtain⟨d,m4,bg⟩:=rs.getV (a6 vs aA);have fd:=E0 Qo m4;have Qp:=F2 e.toWd bg fd
   have gd:ds.drop i=d::ds.drop (i+1):=by
    rw[aaH cM];rw[ZT cM]at m4;rw[ZH m4]
   rw[gd]at aT;have g3:=av.grow lP (.tup [.int i,y]);have bC:=av.alloc lP (.tup [.int i,y]);have dx:=g2.trans g3;refine au _ gA _ aT R W _ _ f5 (.ref q) _ bC (.tup ei (.cons (.int _) (.cons (Qp.mono dx.s) .nil))) fun bu a' el aU _=>?_;exact aG _ bu el R W _ _ a' _ aU ⟨fun bu a' ax H' z aU g=>⟨bu,ax,z,aU,dx.trans g⟩,fun bu a' ax H' z aU g=>dU.nx bu a' ax H' z aU (dx.trans g),fun bu a' ax H' z aU g=>⟨bu,ax,z,aU,dx.trans g⟩,fun r v ax H' z aU g q=>dU.rt r v ax H' z aU (dx.trans g) q⟩
 ·have eE:i=ds.length:=by omega
  subst eE;rw[aaP]at aT;exact .inl ⟨⟨vs,aA,by rw[rs.length];exact YK _⟩,dU.nx gA f5 bD aZ aT av g2⟩
def AN(u:a5):dD:=fun ρ k=>u ρ fun x=>∃ds,x=.lst ds/\k (!ds.isEmpty)
theorem F7{a:Expr}{bH:a5}(ay:bq X a bH)(he:∀whole,isTrue a X.env whole=(do let v <-whole;standAt a.pos;holding [v] (truthy v)):=by intro _;rfl):h2 X a (AN bH):=by
 obtain⟨_,aa,au⟩:=ay;refine⟨_,Lj aa he,fun ρ k h R W B H σ Q e q=>?_⟩;refine au ρ _ h R W B H σ _ e fun x v a4 H1 z1 ai g1 s1=>?_;obtain⟨ds,rfl,ah⟩:=z1;obtain⟨a,vs,rfl,ay,rs⟩:=s1.lstV;refine⟨!vs.isEmpty,.inl ⟨vs,cJ.of (ai.bh _ _ ay),rfl⟩,q _ a4 H1 ?_ ai g1⟩
 have:vs.isEmpty=ds.isEmpty:=by
  have aj:=rs.length;cases vs with
  | nil=>cases ds with
   | nil=>rfl
   | cons d ds=>simp at aj
  | cons v vs=>cases ds with
   | nil=>simp at aj
   | cons d ds=>rfl
 rw[this];exact ah
variable{elt iter:Expr}{ifs:List Expr}{scope:Scope}{cl:List (Str×Addr)}{ts fr:List Str}{js:List Nat}{eY:ee}{ut:dD}
theorem Qq{i:Nat}{y:Str}{py nG:Pos}(bI:X.N.Nodup)(r':X.N[i]?=some y)(a6:X.env.scope.names.lookup y=some .local)(aB:lz X bG iter w)(aD:∀C s H ex,iT (dn X (ts++fr) scope cl C s H ex) bG eY)(ix:∀C s H ex,nL (dn X (ts++fr) scope cl C s H ex) ifs ut)(iy:∀C s H ex,bq (dn X (ts++fr) scope cl C s H ex) elt u)(F:nE X scope cl fr js)(my:js.Nodup:=by decide)(hc:X.calm=true:=by rfl)(aq:∀v,foldedSetIterable iter X.env v=pure v:=by intro _;rfl)(kv:swapsWith (.ListComp elt [⟨bG,iter,ifs,0⟩] scope pos) (some (.Name y py)) nG.line X.env=pure true:=by rfl):
  e7 X (.Assign [.Name y py] (.ListComp elt [⟨bG,iter,ifs,0⟩] scope pos) nG) (zG i (F1 (nH w eY ut u ts.length js))):=by
 obtain⟨_,h0,gw⟩:=aB;obtain⟨vC,mz,rg⟩:=sm (K:=X.K) (Xs:=fun a:Addr×Shared×ao×List Addr=>dn X (ts++fr) scope cl a.1 a.2.1 a.2.2.1 a.2.2.2) (fun _=>rfl) fun a=>aD a.1 a.2.1 a.2.2.1 a.2.2.2;obtain⟨tt,mA,rt⟩:=sk (K:=X.K) (Xs:=fun a:Addr×Shared×ao×List Addr=>dn X (ts++fr) scope cl a.1 a.2.1 a.2.2.1 a.2.2.2) (fun _=>rfl) fun a=>ix a.1 a.2.1 a.2.2.1 a.2.2.2;obtain⟨cD,mB,re⟩:=vB (K:=X.K) (Xs:=fun a:Addr×Shared×ao×List Addr=>dn X (ts++fr) scope cl a.1 a.2.1 a.2.2.1 a.2.2.2) (fun _=>rfl) fun a=>iy a.1 a.2.1 a.2.2.1 a.2.2.2;refine⟨_,EH bI r' a6 h0 (fun C s H ex=>mz (C,s,H,ex)) (fun C s H ex=>mA (C,s,H,ex)) (fun C s H ex=>mB (C,s,H,ex)) F hc aq kv,fun U ρ h R W B H σ D e s=>?_⟩;exact Qi (z6 gw rg rt re my) ρ _ h R W B H σ _ e fun ds a vs a4 H1 z1 ai g1 f1 f2 bQ f4 eo=>s.nx _ _ a4 H1 z1 (ai.setO i f1 f2 bQ f4 fun j _=>eo j) g1
end
section
variable{K:PySem.W.Frag}
def v':Bool->aI->aI
 | true,.val d=>.new d
 | _,x=>x
def Qr:Bool->aI->Prop
 | false,.val d=>flat d=true
 | _,_=>True
def olds:List Bool->List aI->List aI
 | b::m,x::r=>v' b x::olds m r
 | _,r=>r
def wa:List Bool->List aI->Prop
 | b::m,x::r=>Qr b x/\wa m r
 | [],[]=>True
 | _,_=>False
theorem F8:∀(m:List Bool)(as:List aI),(olds m as).length=as.length
 | [],[]=>rfl
 | [],_::_=>rfl
 | _::_,[]=>rfl
 | b::m,x::r=>by rw[olds,ZC,ZC,F8 m r]
theorem qM{W:Addr->Prop}{B:ao}:∀{vs:List V}{as:List aI},iU K W B vs as->∀(m:List Bool),wa m as->∀(i:Nat)(k:aI),(olds m as)[i]?=some k ->
  (∃v d,vs[i]?=some v/\k=.new d/\Rep K B v d)∨(∃v d,vs[i]?=some v/\k=.val d/\Rep K B v d/\flat d=true)∨(∃b,vs[i]?=some (.ref b)/\k=.bag/\W b/\as[i]?=some .bag)
 | _,_,.nil,[],_,i,k,e=>by simp[olds]at e
 | _,_,.nil,_::_,aE,i,k,e=>by cases aE
 | _,_,.val h r,[],aE,i,k,e=>by cases aE
 | _,_,.bag h r,[],aE,i,k,e=>by cases aE
 | _,_,.val h r,b::m,aE,i+1,k,e=>by
  simpa using qM r m aE.2 i k (by simpa[olds]using e)
 | _,_,.bag h r,b::m,aE,i+1,k,e=>by
  simpa using qM r m aE.2 i k (by simpa[olds]using e)
 | _,_,.val h r,true::m,aE,0,k,e=>by
  simp[olds,v']at e;subst e;exact .inl ⟨_,_,rfl,rfl,h⟩
 | _,_,.val h r,false::m,aE,0,k,e=>by
  simp[olds,v']at e;subst e;exact .inr (.inl ⟨_,_,rfl,rfl,h,aE.1⟩)
 | _,_,.bag h r,b::m,aE,0,k,e=>by
  have e:k=.bag:=by cases b<;>(simp[olds,v']at e;exact e.symm)
  subst e;exact .inr (.inr ⟨_,rfl,rfl,h,rfl⟩)
theorem Qs{W:Addr->Prop}{B H:ao}(sB:cm B H)(hw:∀a,W a->B a=none):cm B (fD H W (eB H B)):=fun a o h=>by
 have dw:=sB a o h;have nw:¬W a:=fun z=>by rw[hw a z]at h;cases h
 by_cases q:∃vs,o=.lst vs
 ·obtain⟨vs,rfl⟩:=q;exact vx dw nw
 ·rw[vy fun vs e=>q ⟨vs,by rw[dw]at e;exact ZH e⟩];exact vY h fun vs e=>q ⟨vs,e⟩
theorem Ev.startN{N:List Str}{W:Addr->Prop}{B H:ao}{vs:List V}{as:List aI}{m:List Bool}(af:kr as<=1)(sB:cm B H)(hw:∀a,W a->B a=none/\gv H a)(d4:iU K W B vs as)(aE:wa m as):Ev K H W (eB H B) H (L2.start N vs) (olds m as++ZI (N.length-as.length) .no):=by
 have aj:=d4.length;have ol:=F8 m as
 have nn:∀a,W a->eB H B a=none:=fun a h=>by
  cases q:eB H B a with
  | none=>rfl
  | some o=>have:=iS a o q;rw[(hw a h).1]at this;cases this
 have wd:Wd H W (eB H B) H:=⟨fun _ _ h _=>h,iS.trans sB,nn,fun a h=>(hw a h).2,fun a h=>by obtain⟨x,y,q,_⟩:=(hw a h).2;rw[q];simp⟩
 have lo:∀i,i<as.length->(L2.start N vs)[i]?=(vs[i]?).map some:=fun i lt=>by
  unfold L2.start;rw[aai (by rw[YL];omega),ZL]
 have cs:∀(i:Nat)(k:aI),(olds m as++ZI (N.length-as.length) aI.no)[i]?=some k->(i<as.length/\(olds m as)[i]?=some k)∨k=aI.no:=fun i k h=>by
  by_cases z:i<(olds m as).length
  ·rw[aai z]at h;exact .inl ⟨by omega,h⟩
  ·rw[aaf (by omega)]at h;rw[aaM]at h;split at h
   ·exact .inr (ZH h).symm
   ·cases h
 refine⟨wd,by unfold L2.start;simp[aj,ol],fun i k h=>?_,fun i j a bw b3=>?_⟩
 ·rcases cs i k h with⟨lt,h⟩|rfl
  ·rw[lo i lt];rcases qM d4 m aE i k h with⟨v,d,aa,rfl,r⟩|⟨v,d,aa,rfl,r,f⟩|⟨b,aa,rfl,r,_⟩
   ·rw[aa];exact⟨v,rfl,r.mono (Qs sB fun a z=>(hw a z).1)⟩
   ·rw[aa];exact⟨v,rfl,r.flat f⟩
   ·rw[aa];exact⟨b,rfl,.inl r,wd.wb b r,(hw b r).2⟩
  ·trivial
 ·have one:∀i,cX (L2.start N vs) (olds m as++ZI (N.length-as.length) aI.no) i a->as[i]?=some .bag:=fun i bA=>by
   rcases bA with⟨_,z|⟨ds,z⟩⟩|⟨_,z,_⟩
   rotate_right
   ·rcases cs i _ z with⟨_,z⟩|z
    ·rcases qM d4 m aE i _ z with⟨v,d,_,q,_⟩|⟨v,d,_,q,_⟩|⟨b,_,q,_⟩<;>cases q
    ·cases z
   ·rcases cs i _ z with⟨_,z⟩|z
    ·rcases qM d4 m aE i _ z with⟨v,d,_,q,_⟩|⟨v,d,_,q,_⟩|⟨b,_,_,_,q⟩
     ·cases q
     ·cases q
     ·exact q
    ·cases z
   ·rcases cs i _ z with⟨_,z⟩|z
    ·rcases qM d4 m aE i _ z with⟨v,d,_,q,_⟩|⟨v,d,_,q,_⟩|⟨b,_,q,_⟩<;>cases q
    ·cases z
  exact nv af (one i bw) (one j b3)
def Qt(k:aI->Prop):aI->Prop
 | .val d=>k (.new d)
 | .own (.l ds)=>k (.new (.lst ds))
 | .new d=>k (.new d)
 | _=>False
theorem sW{P:Program}{w:World}{mg:Str->Option Value}{base:Heap}{x:Str}{st:Stmt}{N ps:List Str}{lv n:Nat}{F:FS}(m:List Bool)(oX:cG K mg x st ps)(S:cK N ps (b4 st))(aN:ps.length=n)(jd:∀(f:Addr) (cdv:Value) (A:Around) (outer:List abd) (s:Shared) (H:ao) (E:fB),eA lv (A.deeper (abP x (b4 st) s.heap.objs.size f cdv))->∃u,gM (kl jg P w K mg base N x (b4 st) f cdv A outer s H E).nox (kn st) u/\∀as k,as.length=n->F as k->wa m as/\u { nx:=fun _=>k (.val .non),rt:=Qt k } (olds m as++ZI (N.length-n) .no)):aJ P w K mg base x ps (lv+1) (aL K n F):=by
 refine oX.ok S (fun vs H Q E h=>?_) (fun f cdv A outer s H vs Q E ak h=>?_)
 ·obtain⟨W,B,as,k,_,aj,_,_,_,d4,_⟩:=h;rw[d4.length,aj,aN]
 ·obtain⟨W,B,as,k,jl,aj,af,sB,hw,d4,q⟩:=h;obtain⟨u,⟨t,bt,rt⟩,bF⟩:=jd f cdv A outer s H E ak;obtain⟨aE,bF⟩:=bF as k aj jl;have ev:=Ev.startN (N:=N) (m:=m) (acm af) sB hw d4 aE;rw[aj]at ev
  have fin:∀ax H',Wd H W ax H'->bM H (eB H B) ax->∃bD,Wd H W bD H'/\bM H B bD/\cm ax (eB H bD):=fun ax H' wd g=>by
   have F9:cm B H':=fun a o h=>wd.fr a o (sB a o h) fun z=>by rw[(hw a z).1]at h;cases h
   obtain⟨bD,a9,ba⟩:∃bD:ao,(∀a o,B a=some o->bD a=some o)/\∀a,B a=none->bD a=ax a :=
    ⟨fun a=>match B a with|some o=>some o|none=>ax a,fun a o h=>by dsimp only;rw[h],fun a h=>by dsimp only;rw[h]⟩
   refine⟨bD,⟨wd.fr,fun a o h=>?_,fun a z=>?_,wd.wh,wd.wr⟩,⟨a9,fun a o h=>?_⟩,fun a o h=>?_⟩
   ·cases z:B a with
    | none=>rw[ba a z]at h;exact wd.bh a o h
    | some e3=>rw[a9 a e3 z]at h;cases h;exact F9 a _ z
   ·rw[ba a (hw a z).1];exact wd.wb a z
   ·cases z:B a with
    | none =>
     rw[ba a z]at h;rcases g.n a o h with y|y
     ·rw[iS a o y]at z;cases z
     ·exact .inr y
    | some e3=>rw[a9 a e3 z]at h;cases h;exact .inl rfl
   ·have ab:bD a=some o:=by
     cases z:B a with
     | none=>rw[ba a z];exact h
     | some e3 =>
      have ai:=F9 a _ z;rw[wd.bh a o h]at ai;cases ai;exact a9 a _ z
    by_cases y:∃vs,o=.lst vs
    ·obtain⟨vs,rfl⟩:=y;refine u5 ab ?_;rcases g.n a _ h with y|y
     ·exact(zD y).2
     ·exact y
    ·exact vY ab fun vs e=>y ⟨vs,e⟩
  refine⟨t,bt,rt _ _ bF H W _ H (L2.start N vs) _ ev ⟨fun ρ σ ax H' h e g=>?_,fun _ _ _ _ h=>h.elim,fun _ _ _ _ h=>h.elim,fun r v ax H' h e g z=>?_⟩⟩
  ·obtain⟨bD,c7,g2,_⟩:=fin ax H' e.toWd g;exact q _ _ bD H' h ⟨c7,g2,.non⟩
  ·cases r with
   | no=>exact h.elim
   | bag=>exact h.elim
   | pin v d=>exact h.elim
   | deep c=>exact h.elim
   | val d =>
    obtain⟨bD,c7,g2,s2⟩:=fin ax H' e g;exact q (.new d) v bD H' h ⟨c7,g2,Rep.mono s2 z⟩
   | new d =>
    obtain⟨bD,c7,g2,s2⟩:=fin ax H' e g;exact q (.new d) v bD H' h ⟨c7,g2,Rep.mono s2 (Rep.mono iS z)⟩
   | own c =>
    cases c with
    | d _ _ _ _=>exact h.elim
    | l ds =>
    obtain⟨a,rfl,f1,f2,us,bQ,f4⟩:=z;have d8:Ev K H W ax H' [] []:=⟨e,rfl,fun i k h=>by simp at h,fun i j a m=>by rcases m with⟨z,_⟩|⟨_,z,_⟩<;>simp at z⟩;obtain⟨bC,g3⟩:=d8.freeze bQ f1 f2 fun i m=>by rcases m with⟨z,_⟩|⟨_,z,_⟩<;>simp at z
    obtain⟨bD,c7,g2,s2⟩:=fin _ H' bC.toWd (g.trans g3);exact q (.new (.lst ds)) _ bD H' h ⟨c7,g2,Rep.mono s2 (.lst ei (f4.mono g3.s))⟩
end
end L3
namespace Cut
open PySem L2 L3
def cS:P3->List P3->List (P3×P3)
 | _,[]=>[]
 | z,p::r=>(z,p)::cS p r
def bY:P3->List P3->P3
 | z,[]=>z
 | _,p::r=>bY p r
def dc(ps:List P3):List (P3×P3):=cS (bY (0,0,1) ps) ps
theorem nW:∀(z:P3)(A B:List P3),cS z (A++B)=cS z A++cS (bY z A) B
 | _,[],_=>rfl
 | z,p::A,B=>by
  show(z,p)::cS p (A++B)=(z,p)::(cS p A++cS (bY p A) B)
  rw[nW p A B]
theorem nX:∀(z:P3)(A B:List P3),bY z (A++B)=bY (bY z A) B
 | _,[],_=>rfl
 | _,p::A,B=>nX p A B
theorem qN{z el:P3}{L:List P3}(h:L≠[]):bY z L=bY el L:=by
 cases L with
 | nil=>exact absurd rfl h
 | cons p r=>rfl
theorem AO:∀{z:P3}{L:List P3},L≠[]->bY z L∈L
 | _,[],h=>absurd rfl h
 | z,[p],_=>Zd
 | z,p::q::r,_=>Zf _ (AO (z:=p) (L:=q::r) (by simp))
theorem F':∀{z:P3}{L:List P3}{e:P3×P3},e∈cS z L->(e.1=z∨e.1∈L)/\e.2∈L
 | _,[],_,h=>by cases h
 | z,p::r,e,h=>by
  rcases ZA.mp h with rfl|h
  ·exact⟨.inl rfl,Zd⟩
  ·obtain⟨aa,ab⟩:=F' h;refine⟨.inr ?_,Zf _ ab⟩;rcases aa with aa|aa
   ·rw[aa];exact Zd
   ·exact Zf _ aa
theorem jY{L:List P3}{e:P3×P3}(h:e∈dc L):e.1∈L/\e.2∈L:=by
 have n:L≠[]:=by rintro rfl;cases h
 obtain⟨aa,ab⟩:=F' h;refine⟨?_,ab⟩;rcases aa with aa|aa
 ·rw[aa];exact AO n
 ·exact aa
section
variable{f:P3->Int}{mt:P3->P3->P3}
theorem wc{C:P3->P3->Prop}(bb:∀u v,f u=0->f v=0->C u v):∀{ps:List P3}{w z:P3},
  (∀p q,(p,q)∈cS (ps.headD w) (ps.tail++[w])->0<=f p->0<=f q->C p q) ->
  (∀p q,(p,q)∈cS (ps.headD w) (ps.tail++[w])->f p*f q<0->f (mt p q)=0/\(0<f p->C p (mt p q))/\(0<f q->C (mt p q) q)) ->
  (0<=f (ps.headD w)->C z (ps.headD w))->(f (ps.headD w)<0->f z=0)->ps≠[] ->
  (∀e∈cS z (c9 f mt ps w),C e.1 e.2)/\(0<=f w->C (bY z (c9 f mt ps w)) w)/\(f w<0->f (bY z (c9 f mt ps w))=0)
 | [],_,_,_,_,_,_,aN=>absurd rfl aN
 | p::r,w,z,aa,ab,aK,bo,_=>by
  have aK:0<=f p->C z p:=aK;have bo:f p<0->f z=0:=bo
  have aA:(p,r.headD w)∈cS p (r++[w]):=by
   cases r with
   | nil=>exact Zd
   | cons q r=>exact Zd
  have aa:∀a b,(a,b)∈cS p (r++[w])->0<=f a->0<=f b->C a b:=aa;have ab:∀a b,(a,b)∈cS p (r++[w])->f a*f b<0->f (mt a b)=0/\(0<f a->C a (mt a b))/\(0<f b->C (mt a b) b):=ab
  have step:(∀e∈cS z (kp f p++cF f mt p (r.headD w)),C e.1 e.2)/\(0<=f (r.headD w)->C (bY z (kp f p++cF f mt p (r.headD w))) (r.headD w))/\(f (r.headD w)<0->f (bY z (kp f p++cF f mt p (r.headD w)))=0):=by
   generalize r.headD w=q at aA;by_cases cB:0<=f p
   ·rw[show kp f p=[p] by unfold kp;rw[if_pos cB]];by_cases c:f p*f q<0
    ·rw[kM c];obtain⟨m0,bw,b3⟩:=ab p q aA c
     have mH:0<f p:=by
      rcases kN c with⟨a,_⟩|⟨a,_⟩
      ·exact a
      ·omega
     have jZ:f q<0:=by
      rcases kN c with⟨_,a⟩|⟨a,_⟩
      ·exact a
      ·omega
     refine⟨fun e he=>?_,fun h=>absurd h (by omega),fun _=>m0⟩;rcases ZA.mp he with rfl|he
     ·exact aK cB
     ·rcases ZA.mp he with rfl|he
      ·exact bw mH
      ·cases he
    ·rw[jW c];refine⟨fun e he=>?_,fun h=>aa p q aA cB h,fun h=>?_⟩
     ·rcases ZA.mp he with rfl|he
      ·exact aK cB
      ·cases he
     ·show f p=0
      rcases abV cB with a|a
      ·exact absurd (ZP a h) c
      ·exact a.symm
   ·rw[show kp f p=[] by unfold kp;rw[if_neg cB]];have z0:=bo (by omega);by_cases c:f p*f q<0
    ·rw[kM c];obtain⟨m0,bw,b3⟩:=ab p q aA c
     have jZ:0<f q:=by
      rcases kN c with⟨a,_⟩|⟨_,a⟩
      ·omega
      ·exact a
     refine⟨fun e he=>?_,fun _=>b3 jZ,fun h=>absurd h (by omega)⟩;rcases ZA.mp he with rfl|he
     ·exact bb _ _ z0 m0
     ·cases he
    ·rw[jW c];refine⟨fun e he=>(by cases he),fun h=>bb _ _ z0 ?_,fun _=>z0⟩;rcases abV h with a|a
     ·exact absurd (by rw[ZQ];exact ZP a (by omega)) c
     ·exact a.symm
  obtain⟨s1,s2,s3⟩:=step;show(∀e∈cS z (kp f p++cF f mt p (r.headD w)++c9 f mt r w),C e.1 e.2)/\(0<=f w->C (bY z (kp f p++cF f mt p (r.headD w)++c9 f mt r w)) w)/\(f w<0->f (bY z (kp f p++cF f mt p (r.headD w)++c9 f mt r w))=0)
  rw[nW z (kp f p++cF f mt p (r.headD w)),nX z (kp f p++cF f mt p (r.headD w))];cases r with
  | nil=>exact⟨fun e he=>by rw[show cS _ (c9 f mt [] w)=[]from rfl,ZF]at he;exact s1 e he,s2,s3⟩
  | cons q r =>
   obtain⟨t1,cE,t3⟩:=wc bb (ps:=q::r) (w:=w) (z:=bY z (kp f p++cF f mt p q)) (fun a b hs=>aa a b (Zf _ hs)) (fun a b hs=>ab a b (Zf _ hs)) s2 s3 (by simp);refine⟨fun e he=>?_,cE,t3⟩;rcases ZK.mp he with he|he
   ·exact s1 e he
   ·exact t1 e he
theorem AP{a:P3}{r:List P3}{e:P3×P3}:e∈cS a (r++[a])↔e∈dc (a::r):=by
 have:dc (a::r)=(bY a r,a)::cS a r:=rfl;rw[this,nW];simp[cS,or_comm]
theorem Qu{C:P3->P3->Prop}{ps:List P3}(bb:∀u v,f u=0->f v=0->C u v)(o:P3)(aE:f o=0)(aa:∀e∈dc ps,0<=f e.1->0<=f e.2->C e.1 e.2)(ab:∀e∈dc ps,f e.1*f e.2<0->f (mt e.1 e.2)=0/\(0<f e.1->C e.1 (mt e.1 e.2))/\(0<f e.2->C (mt e.1 e.2) e.2)):
  ∀e∈dc (dj f mt ps),C e.1 e.2:=by
 cases ps with
 | nil=>intro e he;cases he
 | cons a r =>
  intro e he;have n:dj f mt (a::r)≠[]:=by intro z;rw[z]at he;cases he
  have g1:∀p q,(p,q)∈cS ((a::r).headD a) ((a::r).tail++[a])->0<=f p->0<=f q->C p q:=fun p q h=>aa (p,q) (AP.mp h);have g2:∀p q,(p,q)∈cS ((a::r).headD a) ((a::r).tail++[a])->f p*f q<0->f (mt p q)=0/\(0<f p->C p (mt p q))/\(0<f q->C (mt p q) q):=fun p q h=>ab (p,q) (AP.mp h);have first:=wc (f:=f) (mt:=mt) (C:=fun u v=>u=o∨C u v) (fun u v bF aP=>.inr (bb u v bF aP)) (ps:=a::r) (w:=a) (z:=o) (fun p q h x y=>.inr (g1 p q h x y)) (fun p q h x=>⟨(g2 p q h x).1,fun y=>.inr ((g2 p q h x).2.1 y),fun y=>.inr ((g2 p q h x).2.2 y)⟩) (fun _=>.inl rfl) (fun _=>aE) (by simp)
  have ai:bY o (c9 f mt (a::r) a)=bY (0,0,1) (dj f mt (a::r)):=qN n;have e9:f a<0->f (bY (0,0,1) (dj f mt (a::r)))=0:=fun h=>by rw[<-ai];exact first.2.2 h
  have bB:0<=f a->C (bY (0,0,1) (dj f mt (a::r))) a:=fun h=>by
   by_cases AQ:bY o (c9 f mt (a::r) a)=o
   ·-- from YZ start
    have:=wc (f:=f) (mt:=mt) (C:=fun u v=>(u=a/\v=a)∨C u v) (fun u v bF aP=>.inr (bb u v bF aP)) (ps:=a::r) (w:=a) (z:=a) (fun p q h x y=>.inr (g1 p q h x y)) (fun p q h x=>⟨(g2 p q h x).1,fun y=>.inr ((g2 p q h x).2.1 y),fun y=>.inr ((g2 p q h x).2.2 y)⟩) (fun _=>.inl ⟨rfl,rfl⟩) (fun y=>absurd y (show ¬f a<0 by omega)) (by simp);have av:bY a (c9 f mt (a::r) a)=bY (0,0,1) (dj f mt (a::r)):=qN n;rcases this.2.1 h with⟨aW,_⟩|q
    ·rw[av]at aW;rw[aW];rw[ai,aW]at AQ;rw[AQ];exact bb o o aE aE
    ·rw[<-av];exact q
   ·rcases first.2.1 h with q|q
    ·exact absurd q AQ
    ·rw[<-ai];exact q
  exact(wc bb g1 g2 bB e9 (by simp)).1 e he
end
end Cut
namespace Cut
open PySem L2 L3
open PySem.Builtin.Int (intBits)
def mI(l:P3)(mt:P3->P3->P3):Prop:=∀p q,ln l p*ln l q<0->gf p q (mt p q)/\ln l (mt p q)=0
theorem qO{l p q:P3}(h:ln l p*ln l q<0):ln l (aX l p q)=0:=by
 unfold aX;by_cases w:0<p.2.2/\0<q.2.2
 ·rw[if_pos w]
  have cR:(crs l (crs p q)).2.2≠0:=by
   rw[show(crs l (crs p q)).2.2=ln l q*p.2.2 + -ln l p*q.2.2 by rw[sL l p q];rfl];rcases kN h with⟨a,b⟩|⟨a,b⟩
   ·have cc:ln l q*p.2.2<0:=by rw[ZQ];exact ZP w.1 b
    have dk : -ln l p*q.2.2<0:=by rw[ZQ];exact ZP w.2 (by omega)
    omega
   ·have cc:0<ln l q*p.2.2:=Ze b w.1;have dk:0 < -ln l p*q.2.2:=Ze (by omega) w.2;omega
  obtain⟨g,a7,aD⟩:=i0 cR;have z:ln l (crs l (crs p q))=0:=by rw[show crs l (crs p q)=lc (ln l q) p (-ln l p) q from sL l p q,vS];grind
  rw[aD,AF]at z;rcases aab.mp z with y|y
  ·exact absurd y a7
  ·exact y
 ·rw[if_neg w];by_cases c:0<ln l q
  ·rw[if_pos c,vS];grind
  ·rw[if_neg c,vS];grind
theorem we(l:P3):mI l (aX l):=fun _ _ h=>⟨pj h,qO h⟩
def kO(l:P3):P3:=sc (-1) l
theorem lQ(l p:P3):ln (kO l) p = -ln l p:=by unfold kO ln sc;dsimp only;grind
theorem mI.ng{l:P3}{mt:P3->P3->P3}(h:mI l mt):mI (kO l) mt:=fun p q c=>by
 rw[lQ,lQ,aay]at c;refine⟨(h p q c).1,?_⟩;rw[lQ,(h p q c).2];rfl
theorem mI.meets{l:P3}{mt:P3->P3->P3}(h:mI l mt):Meets (ln l) mt:=fun p q c=>(h p q c).1
theorem gf.ln0{p q m g:P3}(h:gf p q m)(aa:Cut.ln g p=0)(ab:Cut.ln g q=0):Cut.ln g m=0:=by
 obtain⟨s,a,b,aq,ay,af,e⟩:=h;have k:s*Cut.ln g m=a*Cut.ln g p+b*Cut.ln g q:=by rw[<-AF,e,vS]
 rw[aa,ab,ZO,ZO]at k;rcases aab.mp k with z|z
 ·omega
 ·exact z
section
variable{l:P3}{mt:P3->P3->P3}{ps:List P3}
theorem wg:∀{z:P3}{r:List P3},r≠[]->∃A,r=A++[bY z r]
 | _,[],h=>absurd rfl h
 | z,[p],_=>⟨[],rfl⟩
 | z,p::q::r,_=>by
  obtain⟨A,e⟩:=wg (z:=p) (r:=q::r) (by simp);exact⟨p::A,congrArg (p :: ·) e⟩
end
def d9(T:P3->P3->Rat)(es:List (P3×P3)):Rat:=(es.map fun e=>T e.1 e.2).sum
theorem hu(T:P3->P3->Rat):d9 T []=0:=rfl
theorem gD(T:P3->P3->Rat)(e:P3×P3)(es:List (P3×P3)):d9 T (e::es)=T e.1 e.2+d9 T es:=by unfold d9;rw[ZE,Z3]
theorem wi(T:P3->P3->Rat):∀es fs:List (P3×P3),d9 T (es++fs)=d9 T es+d9 T fs
 | [],fs=>by rw[Z5,hu];grind
 | e::es,fs=>by rw[aah,gD,gD,wi T es fs];grind
section
variable{f:P3->Int}{mt:P3->P3->P3}{T:P3->P3->Rat}{V:P3->Prop}
def hR(f:P3->Int)(mt:P3->P3->P3)(T:P3->P3->Rat)(p q:P3):Rat :=
 if 0<=f p then(if 0<=f q then T p q else if f p*f q<0 then T p (mt p q)else 0)else(if f p*f q<0 then T (mt p q) q else 0)
def lR(f:P3->Int)(T:P3->P3->Rat)(z p:P3):Rat:=if 0<=f p then T z p else 0
theorem wj{z p:P3}(h:0<=f p):lR f T z p=T z p:=by unfold lR;rw[if_pos h]
theorem wk{z p:P3}(h:¬0<=f p):lR f T z p=0:=by unfold lR;rw[if_neg h]
theorem Qv(bb:∀u v,V u->V v->f u=0->f v=0->T u v=0){p q z:P3}(sX:V z)(nY:V q)(hm:f p*f q<0->V (mt p q)/\f (mt p q)=0)(bo:f p<0->f z=0):
  d9 T (cS z (kp f p++cF f mt p q))+lR f T (bY z (kp f p++cF f mt p q)) q=lR f T z p+hR f mt T p q/\(f q<0->f (bY z (kp f p++cF f mt p q))=0):=by
 by_cases cB:0<=f p
 ·rw[show kp f p=[p] by unfold kp;rw[if_pos cB],wj cB];by_cases c:f p*f q<0
  ·rw[kM c]
   have jZ:¬0<=f q:=by
    rcases kN c with⟨_,a⟩|⟨a,_⟩<;>omega
   have ai:bY z ([p]++[mt p q])=mt p q:=rfl;have av:cS z ([p]++[mt p q])=[(z,p),(p,mt p q)]:=rfl;refine⟨?_,fun _=>by rw[ai];exact(hm c).2⟩;rw[ai,av,wk jZ,gD,gD,hu];unfold hR;rw[if_pos cB,if_neg jZ,if_pos c];dsimp only;grind
  ·rw[jW c];have ai:bY z ([p]++[])=p:=rfl;have av:cS z ([p]++[])=[(z,p)]:=rfl;rw[ai,av,gD,hu];refine⟨?_,fun h=>?_⟩
   ·unfold hR;rw[if_pos cB];by_cases nZ:0<=f q
    ·rw[wj nZ,if_pos nZ];dsimp only;grind
    ·rw[wk nZ,if_neg nZ,if_neg c];dsimp only;grind
   ·rcases abV cB with a|a
    ·exact absurd (ZP a h) c
    ·exact a.symm
 ·rw[show kp f p=[] by unfold kp;rw[if_neg cB],wk cB,Z5];have z0:=bo (by omega);unfold hR;rw[if_neg cB];by_cases c:f p*f q<0
  ·rw[kM c,if_pos c]
   have jZ:0<=f q:=by
    rcases kN c with⟨a,_⟩|⟨_,a⟩<;>omega
   have ai:bY z [mt p q]=mt p q:=rfl;have av:cS z [mt p q]=[(z,mt p q)]:=rfl;have t0:T z (mt p q)=0:=bb _ _ sX (hm c).1 z0 (hm c).2;rw[ai,av,gD,hu,wj jZ];refine⟨?_,fun h=>absurd h (by omega)⟩;dsimp only;rw[t0];grind
  ·rw[jW c,if_neg c];have ai:bY z []=z:=rfl;have av:cS z []=[]:=rfl;rw[ai,av,hu];refine⟨?_,fun _=>z0⟩;by_cases nZ:0<=f q
   ·have fF:f q=0:=by
     rcases abV nZ with a|a
     ·exact absurd (by rw[ZQ];exact ZP a (by omega)) c
     ·exact a.symm
    rw[wj nZ,bb _ _ sX nY z0 fF]
   ·rw[wk nZ]
theorem AR(bb:∀u v,V u->V v->f u=0->f v=0->T u v=0)(hm:∀p q,V p->V q->f p*f q<0->V (mt p q)/\f (mt p q)=0):∀{ps:List P3}{w z:P3},(∀p∈ps,V p)->V w->V z->(f (ps.headD w)<0->f z=0)->ps≠[] ->
  d9 T (cS z (c9 f mt ps w))+lR f T (bY z (c9 f mt ps w)) w=lR f T z (ps.headD w)+d9 (hR f mt T) (cS (ps.headD w) (ps.tail++[w]))/\(f w<0->f (bY z (c9 f mt ps w))=0)
 | [],_,_,_,_,_,_,aN=>absurd rfl aN
 | p::r,w,z,aP,Ga,sX,bo,_=>by
  have bo:f p<0->f z=0:=bo;have qP:=aP p Zd
  have nY:V (r.headD w):=by
   cases r with
   | nil=>exact Ga
   | cons q r=>exact aP q (by simp)
  obtain⟨s1,s2⟩:=Qv (f:=f) (mt:=mt) (T:=T) (V:=V) bb sX nY (hm p _ qP nY) bo;show d9 T (cS z (kp f p++cF f mt p (r.headD w)++c9 f mt r w))+lR f T (bY z (kp f p++cF f mt p (r.headD w)++c9 f mt r w)) w=lR f T z p+d9 (hR f mt T) (cS p (r++[w]))/\(f w<0->f (bY z (kp f p++cF f mt p (r.headD w)++c9 f mt r w))=0)
  rw[nW z (kp f p++cF f mt p (r.headD w)),nX z (kp f p++cF f mt p (r.headD w)),wi]
  have gI:V (bY z (kp f p++cF f mt p (r.headD w))):=by
   by_cases cB:0<=f p
   ·rw[show kp f p=[p] by unfold kp;rw[if_pos cB]];by_cases c:f p*f (r.headD w)<0
    ·rw[kM c];exact(hm _ _ qP nY c).1
    ·rw[jW c];exact qP
   ·rw[show kp f p=[] by unfold kp;rw[if_neg cB]];by_cases c:f p*f (r.headD w)<0
    ·rw[kM c];exact(hm _ _ qP nY c).1
    ·rw[jW c];exact sX
  cases r with
  | nil =>
   have d8:cS (bY z (kp f p++cF f mt p (([]:List P3).headD w))) (c9 f mt [] w)=[]:=rfl;have ai:cS p ([]++[w])=[(p,w)]:=rfl;have av:([]:List P3).headD w=w:=rfl;have bC:bY (bY z (kp f p++cF f mt p (([]:List P3).headD w))) (c9 f mt [] w)=bY z (kp f p++cF f mt p w):=rfl;rw[d8,ai,bC,hu,gD,hu];rw[av]at s1 s2 ⊢;refine⟨?_,s2⟩;dsimp only;grind
  | cons q r =>
   obtain⟨t1,cE⟩:=AR bb hm (ps:=q::r) (w:=w) (z:=bY z (kp f p++cF f mt p q)) (fun x aC=>aP x (Zf _ aC)) Ga gI s2 (by simp);refine⟨?_,cE⟩;have ai:cS p (q::r++[w])=(p,q)::cS q (r++[w]):=rfl;have av:(q::r).headD w=q:=rfl;have bC:(q::r).tail=r:=rfl;rw[ai,gD];rw[av,bC]at t1;rw[av]at s1 ⊢;dsimp only;grind
theorem AS(T:P3->P3->Rat)(a:P3)(r:List P3):d9 T (cS a (r++[a]))=d9 T (dc (a::r)):=by
 have:dc (a::r)=(bY a r,a)::cS a r:=rfl;rw[this,nW,wi,gD];have:cS (bY a r) [a]=[(bY a r,a)]:=rfl;rw[this,gD,hu];dsimp only;grind
theorem Gb(bb:∀u v,V u->V v->f u=0->f v=0->T u v=0)(hm:∀p q,V p->V q->f p*f q<0->V (mt p q)/\f (mt p q)=0)(o:P3)(Qw:V o)(aE:f o=0){ps:List P3}(aP:∀p∈ps,V p):
  d9 T (dc (dj f mt ps))=d9 (hR f mt T) (dc ps):=by
 cases ps with
 | nil=>rfl
 | cons a r =>
  have AU:=aP a Zd;have first:=AR bb hm (ps:=a::r) (w:=a) (z:=o) aP AU Qw (fun _=>aE) (by simp)
  have ai:(a::r).headD a=a:=rfl;have av:(a::r).tail=r:=rfl;rw[ai,av,AS]at first
  by_cases n:dj f mt (a::r)=[]
  ·have n':c9 f mt (a::r) a=[]:=n;rw[n']at first
   have bC:cS o []=[]:=rfl;have c6:bY o []=o:=rfl;rw[bC,c6,hu]at first
   rw[n];have eK:dc []=[]:=rfl;rw[eK,hu];have:=first.1
   grind
  ·have bC:bY o (c9 f mt (a::r) a)=bY (0,0,1) (dj f mt (a::r)):=qN n;have e9:f a<0->f (bY (0,0,1) (dj f mt (a::r)))=0:=fun h=>by rw[<-bC];exact first.2 h
   have gI:V (bY (0,0,1) (dj f mt (a::r))):=by
    rcases pk (AO (z:=(0,0,1)) n)with⟨h,_⟩|⟨p,ag,q,aA,c,e⟩
    ·exact aP _ h
    ·rw[e];exact(hm p q (aP p ag) (aP q aA) c).1
   have snd:=AR bb hm (ps:=a::r) (w:=a) (z:=bY (0,0,1) (dj f mt (a::r))) aP AU gI e9 (by simp);rw[ai,av,AS]at snd;have c6:bY (bY (0,0,1) (dj f mt (a::r))) (c9 f mt (a::r) a)=bY (0,0,1) (dj f mt (a::r)):=qN n;rw[c6]at snd;have:=snd.1;show d9 T (cS (bY (0,0,1) (dj f mt (a::r))) (c9 f mt (a::r) a))=_
   grind
theorem Gd{T1 T2 Ge:P3->P3->Rat}:∀{es:List (P3×P3)},(∀e∈es,T1 e.1 e.2+T2 e.1 e.2=Ge e.1 e.2)->d9 T1 es+d9 T2 es=d9 Ge es
 | [],_=>by rw[hu,hu,hu];grind
 | e::es,h=>by
  have aa:=h e Zd;have ab:=Gd (es:=es) fun e he=>h e (Zf _ he);rw[gD,gD,gD];grind
theorem Qx(bb:∀u v,V u->V v->f u=0->f v=0->T u v=0){p q:P3}(qP:V p)(nY:V q)(hm:f p*f q<0->T p (mt p q)+T (mt p q) q=T p q):hR f mt T p q+hR (fun c => -f c) mt T p q=T p q:=by
 have lN:(-f p)*(-f q)=f p*f q:=aay _ _;unfold hR;dsimp only;rw[lN];rcases aax (f p) 0 with a|a|a
 ·rw[if_neg (show ¬0<=f p by omega),if_pos (show 0 <= -f p by omega)];rcases aax (f q) 0 with b|b|b
  ·have c:¬f p*f q<0:=by have:=aa3 a b;omega
   rw[if_neg c,if_pos (show 0 <= -f q by omega)];grind
  ·have c:¬f p*f q<0:=by rw[b,ZO];omega
   rw[if_neg c,if_pos (show 0 <= -f q by omega)];grind
  ·have c:f p*f q<0:=by rw[ZQ];exact ZP b a
   rw[if_pos c,if_neg (show ¬0 <= -f q by omega),if_pos c];have:=hm c;grind
 ·have c:¬f p*f q<0:=by rw[a,aaw];omega
  rw[if_pos (show 0<=f p by omega),if_pos (show 0 <= -f p by omega),if_neg c];rcases aax (f q) 0 with b|b|b
  ·rw[if_neg (show ¬0<=f q by omega),if_pos (show 0 <= -f q by omega)];grind
  ·rw[if_pos (show 0<=f q by omega),if_pos (show 0 <= -f q by omega)];have:=bb p q qP nY a b;grind
  ·rw[if_pos (show 0<=f q by omega),if_neg (show ¬0 <= -f q by omega)];grind
 ·rw[if_pos (show 0<=f p by omega),if_neg (show ¬0 <= -f p by omega)];rcases aax (f q) 0 with b|b|b
  ·have c:f p*f q<0:=ZP a b;rw[if_neg (show ¬0<=f q by omega),if_pos c,if_pos c];exact hm c
  ·have c:¬f p*f q<0:=by rw[b,ZO];omega
   rw[if_pos (show 0<=f q by omega),if_neg c];grind
  ·have c:¬f p*f q<0:=by have:=Ze a b;omega
   rw[if_pos (show 0<=f q by omega),if_neg c];grind
theorem AV(bb:∀u v,V u->V v->f u=0->f v=0->T u v=0):∀{es:List (P3×P3)},(∀e∈es,V e.1/\V e.2/\f e.1<=0/\f e.2<=0)->d9 (hR f mt T) es=0
 | [],_=>rfl
 | e::es,h=>by
  obtain⟨v1,v2,cc,dk⟩:=h e Zd;have c0:=AV bb (es:=es) fun e he=>h e (Zf _ he);rw[gD,c0];have c:¬f e.1*f e.2<0:=by have:=abW cc dk;omega
  have:hR f mt T e.1 e.2=0:=by
   unfold hR;rw[if_neg c,if_neg c];by_cases a:0<=f e.1
   ·rw[if_pos a];by_cases b:0<=f e.2
    ·rw[if_pos b];exact bb _ _ v1 v2 (by omega) (by omega)
    ·rw[if_neg b]
   ·rw[if_neg a]
  rw[this];grind
end
def hv(p:P3):Rat:=(p.1:Rat)/(p.2.2:Rat)
def hx(p:P3):Rat:=(p.2.1:Rat)/(p.2.2:Rat)
theorem dy{x:Int}(h:0<x):(x:Rat)≠0:=fun z=>by
 have:=Rat.intCast_eq_zero_iff.mp z;omega
theorem AW{p q m:P3}(h:gf p q m)(ag:0<p.2.2)(aA:0<q.2.2)(hm:0<m.2.2):∃a b:Rat,a+b=1/\hv m=a*hv p+b*hv q/\hx m=a*hx p+b*hx q:=by
 obtain⟨s,a,b,aq,ay,af,e⟩:=h;have ai:s*m.1=a*p.1+b*q.1:=congrArg (fun x:P3=>x.1) e;have av:s*m.2.1=a*p.2.1+b*q.2.1:=congrArg (fun x:P3=>x.2.1) e;have bC:s*m.2.2=a*p.2.2+b*q.2.2:=congrArg (fun x:P3=>x.2.2) e;have s0:=dy aq;have m0:=dy hm;have lS:=dy ag;have fF:=dy aA;have f1:(s:Rat)*m.1=a*p.1+b*q.1:=by rw[<-aaI,ai,acz,aaI,aaI]
 have f2:(s:Rat)*m.2.1=a*p.2.1+b*q.2.1:=by rw[<-aaI,av,acz,aaI,aaI]
 have bQ:(s:Rat)*m.2.2=a*p.2.2+b*q.2.2:=by rw[<-aaI,bC,acz,aaI,aaI]
 unfold hv hx;generalize(s:Rat)=s' at *;generalize(a:Rat)=ez at *;generalize(b:Rat)=b' at *;generalize(m.1:Rat)=bw at *;generalize(m.2.1:Rat)=b3 at *;generalize(m.2.2:Rat)=jN at *;generalize(p.1:Rat)=cN at *;generalize(p.2.1:Rat)=c2 at *;generalize(p.2.2:Rat)=o8 at *;generalize(q.1:Rat)=aW at *;generalize(q.2.1:Rat)=bS at *;generalize(q.2.2:Rat)=fC at *;refine⟨ez*o8/(s'*jN),b'*fC/(s'*jN),?_,?_,?_⟩<;>grind
theorem Gf(h:P3->Rat):∀(z:P3)(L:List P3),d9 (fun p q=>h p-h q) (cS z L)=h z-h (bY z L)
 | z,[]=>by rw[show cS z []=[]from rfl,hu,show bY z []=z from rfl];grind
 | z,p::L=>by
  rw[show cS z (p::L)=(z,p)::cS p L from rfl,gD,Gf h p L,show bY z (p::L)=bY p L from rfl];dsimp only;grind
open Classical in
noncomputable def keepR(f:P3->Int)(mt:P3->P3->P3)(ps:List P3):List P3:=if ∃c∈ps,0<f c then dj f mt ps else[]
end Cut
namespace L3
open PySem L2
section
variable{X:aM}{e:Expr}{u:a5}{pos:Pos}
def Qy(i:Nat)(u:a5):cW:=fun U ρ=>∃m,ρ[i]?=some (.val (.int m))/\u ρ fun d=>∃n,d=.int n/\U.nx (ρ.set i (.val (.int (m+n))))
theorem Qz{i:Nat}{x:Str}{pos':Pos}(bI:X.N.Nodup)(aB:X.N[i]?=some x)(aC:Loc X.env.scope x)(he:bq X e u)(hf:X.fn x=true∨X.env.scope.names.lookup x=some .local:=by first|exact .inl rfl|exact .inr rfl|assumption):
  e7 X (.AugAssign (.Name x pos') .Add e pos) (Qy i u):=by
 obtain⟨_,aa,au⟩:=he;refine⟨_,KI bI aB aC aa KO hf,fun U ρ h R W B H σ D e s=>?_⟩;obtain⟨m,hm,h⟩:=h;obtain⟨v,aP,cb⟩:=e.val hm;refine⟨v,aP,?_⟩;refine au ρ _ h R W B H σ _ e fun d w a4 H1 z1 ai g1 s1=>?_;obtain⟨n,rfl,z⟩:=z1;exact⟨m,n,cb.intV,s1.intV,s.nx _ _ a4 H1 z (ai.setV i (.int _)) g1⟩
end
theorem Gh{a b c:Nat}{s:cW}{U:il}(I:List Cut.Piece->List aI->Prop):∀{sh done:List Cut.Piece}{ρ:List aI},I done ρ ->
  (∀pre x rest ρ,done++sh=pre++x::rest->I pre ρ->∀N:List aI->Prop,(∀r,I (pre++[x]) r->N r)->s { U with nx:=N,ct:=N,bk:=U.nx } (((ρ.set a (.new (.lst (x.1.map Cut.dP)))).set b (.val (.bl x.2.1))).set c (.val (Cut.dP x.2.2)))) ->
  (∀ρ,I (done++sh) ρ->U.nx ρ)->forR (mu 3 (g4 (AM a) (g4 (sV b) (g4 (sV c) mr)))) s U (sh.map Cut.dS) ρ
 | [],done,ρ,h0,_,ab=>ab ρ (by rw[ZF];exact h0)
 | x::sh,done,ρ,h0,aa,ab=>by
  refine⟨_,rfl,rfl,_,_,rfl,_,_,rfl,rfl,_,_,rfl,rfl,rfl,?_⟩;refine aa done x sh ρ rfl h0 _ fun r ak=>?_;refine Gh I ak (fun pre y rest ρ e=>aa pre y rest ρ (by rw[<-e];simp)) fun ρ h=>ab ρ ?_;have e:done++[x]++sh=done++x::sh:=by simp
  rw[<-e];exact h
end L3
namespace Cut
open PySem L2 L3
open PySem.Builtin.Int (intBits)
noncomputable def cf(f:P3->Int)(mt:P3->P3->P3)(sh:List Piece):List Piece:=(sh.map fun s=>(keepR f mt s.1,s.2)).filter fun s => !s.1.isEmpty
theorem sY{f:P3->Int}{mt:P3->P3->P3}(a b:List Piece):cf f mt (a++b)=cf f mt a++cf f mt b:=by unfold cf;rw[ZD,abz]
theorem wm{f:P3->Int}{mt:P3->P3->P3}{s:Piece}(h:(keepR f mt s.1).isEmpty=false):cf f mt [s]=[(keepR f mt s.1,s.2)]:=by unfold cf;simp[h]
theorem wo{f:P3->Int}{mt:P3->P3->P3}{s:Piece}(h:(keepR f mt s.1).isEmpty=true):cf f mt [s]=[]:=by unfold cf;simp[h]
theorem kP{f:P3->Int}{mt:P3->P3->P3}(sh:List Piece):(cf f mt sh).length<=sh.length:=by
 unfold cf;refine Gg (abX _ _) ?_;rw[YL];exact YK _
theorem sZ{f:P3->Int}{mt:P3->P3->P3}{sh:List Piece}{s:Piece}(h:s∈cf f mt sh):∃t∈sh,s=(dj f mt t.1,t.2)/\∃c∈t.1,0<f c:=by
 unfold cf at h;obtain⟨aa,ab⟩:=aaU.mp h;obtain⟨t,bt,rfl⟩:=ZJ.mp aa;refine⟨t,bt,?_⟩;unfold keepR at ab ⊢;split at ab
 ·rename_i c;rw[if_pos c];exact⟨rfl,c⟩
 ·simp at ab
theorem Gi:∀(z:P3)(L:List P3)(k:Nat),k<L.length->(cS z L)[k]?=some (bz (z::L) k,bz L k)
 | _,[],_,h=>absurd h (by simp)
 | z,p::L,0,_=>rfl
 | z,p::L,k+1,h=>by
  have:=Gi p L k (by simpa using h);simpa[cS,Fp]using this
theorem AX:∀(z:P3)(L:List P3),(cS z L).length=L.length
 | _,[]=>rfl
 | z,p::L=>by simp[cS,AX p L]
theorem wq:∀(z:P3)(L:List P3),L≠[]->bY z L=bz L (L.length-1)
 | _,[],h=>absurd rfl h
 | z,[p],_=>rfl
 | z,p::q::L,_=>by
  have:=wq p (q::L) (by simp);show bY p (q::L)=_
  rw[this];rfl
theorem wt(ps:List P3):dc ps=(ZX ps.length).map fun k=>(bz ps ((k+ps.length-1)%ps.length),bz ps k):=by
 apply abc;intro k;by_cases h:k<ps.length
 ·have aN:ps≠[]:=by rintro rfl;simp at h
  rw[ZL,abR h];unfold dc;rw[Gi _ _ _ h];simp only[abw];congr 2;cases k with
  | zero =>
   rw[PK,wq _ _ aN,aav,ZW (by omega)]
  | succ k =>
   rw[Fp,show k+1+ps.length-1=k+ps.length by omega,abf,ZW (by omega)]
 ·rw[Z' (by unfold dc;rw[AX];omega),Z' (by simp;omega)]
end Cut
namespace Cut
open PySem L2 L3
theorem Gj(h:P3->Int):∀ps:List P3,flats (ps.map fun c=>D.int (h c))=true
 | []=>rfl
 | p::r=>by
  rw[ZE,flats,Gj h r];rfl
theorem wu{f:P3->Int}{mt:P3->P3->P3}{ps:List P3}(h:∃c∈ps,0<f c):keepR f mt ps=dj f mt ps:=by unfold keepR;rw[if_pos h]
theorem AY{f:P3->Int}{mt:P3->P3->P3}{ps:List P3}(h:¬∃c∈ps,0<f c):keepR f mt ps=[]:=by unfold keepR;rw[if_neg h]
theorem wx{l:P3}{ps:List P3}:(∃c∈ps,0<(fun c => -ln l c) c)↔∃c∈ps,ln l c<0 :=
 ⟨fun⟨c,h,z⟩=>⟨c,h,by have z:0 < -ln l c:=z;omega⟩,fun⟨c,h,z⟩=>⟨c,h,by show 0 < -ln l c;omega⟩⟩
end Cut
namespace L3
open PySem L2
theorem AZ{α:Type}{f h:α->D}{P:α->Bool}{ut:dD}{u:a5}{fs:List aI}:∀{rs:List α}{v0:aI}{k:List D->Prop},(∀r∈rs,∀k:Bool->Prop,k (P r)->ut (.val (f r)::fs) k)->(∀r∈rs,∀k:D->Prop,k (h r)->u (.val (f r)::fs) k)->k ((rs.filter P).map h)->gN (gy 0) ut u (rs.map f) (v0::fs) k
 | [],_,_,_,_,ah=>ah
 | r::rs,v0,k,aa,ab,ah=>by
  refine aa r Zd _ ?_;cases c:P r with
  | true =>
   rw[if_pos rfl];refine ab r Zd _ ?_;refine AZ (P:=P) (fun x aC=>aa x (Zf _ aC)) (fun x aC=>ab x (Zf _ aC)) ?_;rw[ac9 c]at ah;exact ah
  | false =>
   rw[if_neg ZR];refine AZ (P:=P) (fun x aC=>aa x (Zf _ aC)) (fun x aC=>ab x (Zf _ aC)) ?_;rw[ac' (by rw[c];decide)]at ah;exact ah
end L3
namespace Cut
open PySem L2 L3
open PySem.Builtin.Int (intBits)
theorem QA{ps:List P3}{i:Nat}(h:i<ps.length):(dc ps).take (i+1)=(dc ps).take i++[(bz ps ((i+ps.length-1)%ps.length),bz ps i)]:=by
 rw[List.take_succ,wt,ZL,abR h];rfl
theorem QB(ps:List P3):(dc ps).take ps.length=dc ps:=aco (by unfold dc;rw[AX];exact YK _)
theorem n0(p q:P3):ln (crs p q) p=0:=by show bc p q p=0;unfold bc crs;grind
theorem Gk{f:P3->Int}{mt:P3->P3->P3}{x:P3}:∀{ps:List P3}{w:P3},x∈c9 f mt ps w->(x∈ps/\0<=f x)∨∃e∈cS (ps.headD w) (ps.tail++[w]),f e.1*f e.2<0/\x=mt e.1 e.2
 | [],_,h=>by cases h
 | p::r,w,h=>by
  have h:x∈kp f p++cF f mt p (r.headD w)++c9 f mt r w:=h;rcases ZK.mp h with h|h
  ·rcases ZK.mp h with h|h
   ·unfold kp at h;split at h
    ·rename_i z
     rw[ZG.mp h];exact .inl ⟨Zd,z⟩
    ·cases h
   ·unfold cF at h;split at h
    ·rename_i z
     refine .inr ⟨(p,r.headD w),?_,z,ZG.mp h⟩;cases r<;>exact Zd
    ·cases h
  ·rcases Gk h with⟨aa,ab⟩|⟨e,aa,ab⟩
   ·exact .inl ⟨Zf _ aa,ab⟩
   ·refine .inr ⟨e,?_,ab⟩;cases r with
    | nil=>cases h
    | cons q r=>exact Zf _ aa
theorem QC{f:P3->Int}{mt:P3->P3->P3}{x:P3}{ps:List P3}(h:x∈dj f mt ps):(x∈ps/\0<=f x)∨∃e∈dc ps,f e.1*f e.2<0/\x=mt e.1 e.2:=by
 cases ps with
 | nil=>cases h
 | cons a r =>
  rcases Gk h with h|⟨e,aa,ab⟩
  ·exact .inl h
  ·exact .inr ⟨e,AP.mp aa,ab⟩
structure wy (b m:Nat) (ps:List P3):Prop where
 pts:∀x∈ps,da b x
 lin:∀e∈dc ps,∃g:P3,cj m g/\(g.1≠0∨g.2.1≠0∨g.2.2≠0)/\ln g e.1=0/\ln g e.2=0
theorem par{g u v:P3}(aD:g.1≠0∨g.2.1≠0∨g.2.2≠0)(bF:ln g u=0)(aP:ln g v=0)(n:(crs u v).1≠0∨(crs u v).2.1≠0∨(crs u v).2.2≠0):∃a b:Int,a≠0/\b≠0/\sc a (crs u v)=sc b g:=by
 have t:crs g (crs u v)=lc (ln g v) u (-ln g u) v:=sL g u v;rw[bF,aP]at t;generalize crs u v=w at *
 have t1:g.2.1*w.2.2-g.2.2*w.2.1=0:=by
  have:=congrArg (fun x:P3=>x.1) t;unfold crs lc at this;dsimp only at this;grind
 have cE:g.2.2*w.1-g.1*w.2.2=0:=by
  have:=congrArg (fun x:P3=>x.2.1) t;unfold crs lc at this;dsimp only at this;grind
 have t3:g.1*w.2.1-g.2.1*w.1=0:=by
  have:=congrArg (fun x:P3=>x.2.2) t;unfold crs lc at this;dsimp only at this;grind
 have iP:∀{x y:Int},x≠0->x*y=0->y=0:=fun h e=>(aab.mp e).resolve_left h;rcases aD with h|h|h
 ·refine⟨g.1,w.1,h,fun z=>?_,?_⟩
  ·rw[z]at cE t3;have a:=iP h (show g.1*w.2.2=0 by grind);have b:=iP h (show g.1*w.2.1=0 by grind);rcases n with n|n|n<;>contradiction
  ·unfold sc;refine ef ?_ ?_ ?_<;>dsimp only<;>grind
 ·refine⟨g.2.1,w.2.1,h,fun z=>?_,?_⟩
  ·rw[z]at t1 t3;have a:=iP h (show g.2.1*w.2.2=0 by grind);have b:=iP h (show g.2.1*w.1=0 by grind);rcases n with n|n|n<;>contradiction
  ·unfold sc;refine ef ?_ ?_ ?_<;>dsimp only<;>grind
 ·refine⟨g.2.2,w.2.2,h,fun z=>?_,?_⟩
  ·rw[z]at t1 cE;have a:=iP h (show g.2.2*w.2.1=0 by grind);have b:=iP h (show g.2.2*w.1=0 by grind);rcases n with n|n|n<;>contradiction
  ·unfold sc;refine ef ?_ ?_ ?_<;>dsimp only<;>grind
theorem Gl(c:Int)(p q:P3):crs p (sc c q)=sc c (crs p q):=by
 refine ef ?_ ?_ ?_<;>simp only[crs,sc]<;>grind
theorem QD{l w g:P3}{a b:Int}(ay:a≠0)(af:b≠0)(e:sc a w=sc b g)(n:(crs l w).2.2≠0):(crs l g).2.2≠0/\nP (crs l w)=nP (crs l g):=by
 have ai:sc a (crs l w)=sc b (crs l g):=by rw[<-Gl,e,Gl]
 have aK:a*(crs l w).2.2=b*(crs l g).2.2:=congrArg (fun x:P3=>x.2.2) ai
 have dk:(crs l g).2.2≠0:=fun z=>by
  rw[z,ZO]at aK;rcases aab.mp aK with y|y<;>contradiction
 refine⟨dk,?_⟩;obtain⟨c,g7,hc⟩:=i0 dk;have av:sc a (crs l w)=sc (b*c) (nP (crs l g)):=by rw[ai,<-EU,<-hc]
 exact(qD ay (fun z=>by rcases aab.mp z with y|y<;>contradiction) (fg dk) av).2
theorem eP.sl{g:P3}{ps:List P3}(aD:aS g)(ag:∀p∈ps,aS p)(h:eP ps):eP (ps.map fun p=>nP (sld g p)):=h.map fun p q r a b c=>(Pj aD.1).side (ag p a).1 (ag q b).1 (ag r c).1
end Cut
namespace L3
open PySem L2
section
variable{K:PySem.W.Frag}{X:aM}{pos p:Pos}{bG:Expr}
theorem jk.rng2{B:ao}(sQ:Int)(n:Nat):jk K B (p4 sQ n) ((ZX n).map fun i:Nat=>D.int (sQ+i)):=by
 intro H s i;rw[YL,abQ];refine⟨fun aB=>aB,fun aB=>aB,fun x H' aB ⟨ai,av⟩=>⟨ai,?_⟩⟩;refine⟨.int (sQ+i),?_,?_⟩
 ·rw[ZL,abR aB];rfl
 ·rw[av];exact .int _
def QF(u dB:a5):cQ:=fun ρ k=>u ρ fun d=>dB ρ fun b1=>∃i j,d=.int i/\b1=.int j/\(-(2^62)<=i/\i<2^62 /\ -(2^62)<=j/\j<2^62)/\k ((ZX (j-i).toNat).map fun t:Nat=>D.int (i+t))
theorem QG{a b:Expr}{u dB:a5}(ay:bq X a u)(af:bq X b dB)(aD:eJ X "range")(hm:X.mg "range"=none)(aq:starEach [a,b] X.env=[(false,eval a X.env),(false,eval b X.env)]:=by rfl)(jI:starEach [b] X.env=[(false,eval b X.env)]:=by rfl):lz X bG (.Call (.Name "range" p) [a,b] [] pos) (QF u dB):=by
 obtain⟨_,aa,au⟩:=ay;obtain⟨_,ab,aG⟩:=af;refine⟨_,K1 aD hm (er aa (er ab fK (by rw[jI];rfl)) (by rw[aq,jI])) aq jI,fun ρ k h R W B H σ Q e q=>?_⟩;refine au ρ _ h R W B H σ _ e fun d v a4 H1 z1 ai g1 s1=>?_;refine aG ρ _ z1 R W a4 H1 σ _ ai fun b1 v2 bD aZ aT av g2 s2=>?_;obtain⟨i,j,rfl,rfl,QH,z⟩:=aT;exact⟨i,j,by rw[s1.intV,s2.intV],QH,q _ _ bD aZ z av (g1.trans g2) (jk.rng2 _ _)⟩
end
section
variable{P:Program}{w:World}{A:Around}{E:Value->Shared->Prop}{s:Shared}
inductive hS (h:Heap):List (List Int)->List Value->Prop
 | nil:hS h [] []
 | cons {l:List Int} {a:Addr} {ks:List (List Int)} {us:List Value} (k:IsTupleKey (intKind P w) h l a) (r:hS h ks us):hS h (l::ks) (.ref a::us)
def iE(P:Program)(w:World)(h:Heap)(ks:List (List Int))(a:Addr):Prop:=∃cI us n,h.get? a=some cI/\cI.cls=.type "tuple"/\cI.data=.seq us n/\hS (P:=P) (w:=w) h ks us.toList
theorem hS.inj2{h:Heap}{us:List Value}:∀{x y:List (List Int)},hS (P:=P) (w:=w) h x us->hS (P:=P) (w:=w) h y us->x=y:=by
 intro x y p;induction p generalizing y with
 | nil=>intro q;cases q;rfl
 | cons k r c0 =>
  intro q;cases q with
  | cons k' d0=>rw[k.inj k',c0 d0]
theorem iE.ty{ks:List (List Int)}{a:Addr}(x:iE P w s.heap ks a):s.TypeIs (.ref a) "tuple":=let⟨cI,_,_,aa,ab,_⟩:=x;⟨cI,aa,ab⟩
theorem iE.inj2{h:Heap}{a:Addr}{x y:List (List Int)}(p:iE P w h x a)(q:iE P w h y a):x=y:=by
 obtain⟨kK,dg,cc,a1,_,aF,bN⟩:=p;obtain⟨kL,dB,dk,a2,_,aH,b1⟩:=q;rw[a1]at a2;cases a2;rw[aF]at aH;cases aH;exact bN.inj2 b1
theorem hS.keep{h h':Heap}{d:Addr}{cI:Obj}{es:Array DictEntry}{br:Nat}(aE:h.get? d=some cI)(hd:cI.data=.dict es br)(aq:Heap.SameBut d h h'):∀{ks:List (List Int)}{us:List Value},hS (P:=P) (w:=w) h ks us->hS (P:=P) (w:=w) h' ks us
 | _,_,.nil=>.nil
 | _,_,.cons k r=>.cons (k.keeps aE hd aq) (hS.keep aE hd aq r)
theorem iE.keep{h h':Heap}{ks:List (List Int)}{a d:Addr}{cI:Obj}{es:Array DictEntry}{br:Nat}(x:iE P w h ks a)(aE:h.get? d=some cI)(hd:cI.data=.dict es br)(aq:Heap.SameBut d h h'):iE P w h' ks a:=by
 obtain⟨kK,dg,cc,a1,a9,aF,bN⟩:=x;refine⟨kK,dg,cc,?_,a9,aF,bN.keep aE hd aq⟩
 have ne:a≠d:=by
  rintro rfl;rw[aE]at a1;cases a1;rw[hd]at aF;cases aF
 exact(aq.2 a ne).trans a1
def wz(ks:List (List Int)):Nat:=(ks.map fun l=>l.length+1).sum+1
theorem QI{ks:List (List Int)}{a:Addr}{Q:Int->Shared->Prop}(bF:A.units+3<cLine)(ah:iE P w s.heap ks a)(h:Q (nq true ks) { s with toks:=s.toks+wz ks }):wpAny (model P w) A (pyHash (.ref a)) Q E s:=by
 have dC:=ah.ty;obtain⟨cI,us,n,aa,_,aK,bo⟩:=ah;unfold pyHash
 first|unfold pyHashByItsType|skip
 first|refine wpAny_bind (wpAny_cRoomFor_or (.inr (by omega)) ?_)|skip
 refine wpAny_bind (wpAny_specialOf dC F.slot_tuple_hash.lookup ?_);show wpAny (model P w) A (if(some (Value.builtin "tuple.__hash__")==some Value.none)=true then _ else _) Q E s
 rw[if_neg (by rw[beq_builtin_none];exact ZR)];refine wpAny_bind (wpAny_specialOf dC F.slot_tuple_hash.lookup ?_);show wpAny (model P w) A (callSpecialIfBoundUnlessNone? (.ref a) "__hash__" _ >>= _) Q E s
 refine wpAny_bind (wpAny_callSpecialIfBoundUnlessNone?_slot dC F.slot_tuple_hash (wpAny_call_entry F.slot_tuple_hash dC F.entry_tuple_hash ?_ (F.args_tuple_hash_1 _)));show wpAny (model P w) _ (Builtin.Tuple.tupleItemsOf (.ref a) >>= _) _ _ s
 refine wpAny_bind (wpAny_tupleItemsOf aa aK ?_);refine wpAny_bind ?_;rw[<-acA]
 refine wpAny_forIn_list _
  (fun rest (b:Array Int) s'=>∃done left,ks=done++left/\hS (P:=P) (w:=w) s.heap left rest/\b.toList=done.map (fun l=>reduceHash (Builtin.Tuple.tupleHashOf (l.map hashInt)))/\s'={ s with toks:=s.toks+(done.map fun l=>l.length+1).sum })
  _ ?_ ?_ _ _ ⟨[],ks,rfl,bo,rfl,rfl⟩
 ·rintro x rest b s' ⟨done,left,rfl,aj,af,rfl⟩;cases aj with
  | @cons l c h7 _ bU au =>
   have fin:∃qQ lf,done++l::h7=qQ++lf/\hS (P:=P) (w:=w) s.heap lf rest/\(b.push (reduceHash (Builtin.Tuple.tupleHashOf (l.map hashInt)))).toList=qQ.map (fun l=>reduceHash (Builtin.Tuple.tupleHashOf (l.map hashInt))) /\
     ({ s with toks:=s.toks+(done.map fun l=>l.length+1).sum+(l.length+1) }:Shared)={ s with toks:=s.toks+(qQ.map fun l=>l.length+1).sum }:=⟨done++[l],h7,by simp,au,by simp[af],by simp[acB]⟩
   refine wpAny_bind (wpAny_pyHash_tuple (s:={ s with toks:=s.toks+(done.map fun l=>l.length+1).sum }) (by show A.units+_<cLine;omega) bU ?_)
   first
    | exact wpAny_pure fin
    | exact wpAny_bind (wpAny_pure (wpAny_pure fin))
 ·rintro b s' ⟨done,left,rfl,aj,af,rfl⟩;cases aj;rw[ZF]at h;show wpAny (model P w) _ (retInt (Builtin.Tuple.tupleHashOf b.toList)) _ _ _
  rw[af];refine wpAny_ret_mkInt ?_;generalize bb:Builtin.Tuple.tupleHashOf (done.map fun l=>reduceHash (Builtin.Tuple.tupleHashOf (l.map hashInt)))=z;have av:nq true done=reduceHash z:=by rw[<-bb];rfl
  rw[av]at h;show wpAny (model P w) _ (if(decide (-(2:Int)^63<=z)&&decide (z<2^63))=true then _ else _) Q E _
  unfold reduceHash at h;by_cases ak:(decide (-(2:Int)^63<=z)&&decide (z<2^63))=true
  ·rw[if_pos ak];rw[if_pos ak]at h;exact wpAny_pure (by simpa[acB,wz]using h)
  ·rw[if_neg ak];rw[if_neg ak]at h;exact wpAny_bind (wpAny_rule (wpAny_pure (by simpa[acB,wz]using h)))
theorem QJ{x y:List (List Int)}{a b:Addr}{R:PySem.Fin->Shared->Prop}(bF:A.units+2<cLine)(aC:iE P w s.heap x a)(a6:iE P w s.heap y b)(h:R (.done (.ret (.bool (decide (x=y))))) s):
  wpAny (model P w) A (Builtin.«tuple.__eq__» ⟨[.ref a,.ref b],[]⟩) R E s:=by
 have dC:=a6.ty;obtain⟨kK,xs,cc,a1,_,aF,bN⟩:=aC;obtain⟨kL,ys,dk,a2,_,aH,b1⟩:=a6;show wpAny (model P w) A (isInstance (.ref b) (.type "tuple") >>= _) _ _ s
 refine wpAny_bind (wpAny_isInstance dC isSubtype_tuple_tuple ?_);simp only[abh,aan,if_false];refine wpAny_bind (wpAny_tupleItemsOf a1 aF (wpAny_bind (wpAny_tupleItemsOf a2 aH (wpAny_bind ?_))))
 refine wpAny_forIn_list _
  (fun rest r s'=>r.1=none/\s'=s/\∃gu eu s6 s7,rest=List.zip s6 s7/\hS (P:=P) (w:=w) s.heap gu s6/\hS (P:=P) (w:=w) s.heap eu s7/\decide (gu=eu)=decide (x=y)/\(s6.length==s7.length)=(xs.size==ys.size))
  _ ?_ ?_ _ _ ⟨rfl,rfl,x,y,xs.toList,ys.toList,rfl,bN,b1,rfl,by simp⟩
 ·rintro⟨u,v⟩ rest r s' ⟨ak,rfl,gu,eu,s6,s7,bb,rD,ni,wA,hlen⟩;cases rD with
  | nil=>simp at bb
  | @cons bU Y0 ew QK aa QL =>
   cases ni with
   | nil=>simp at bb
   | @cons cn Y1 c3 QM ab QN =>
    rw[List.zip_cons_cons,abx,abe]at bb;obtain⟨⟨rfl,rfl⟩,rfl⟩:=bb;refine wpAny_bind (wpAny_eqBool_tuple (by omega) aa ab ?_);by_cases ah:bU=cn
    ·subst ah;rw[decide_eq_true rfl];simp only[abh,aan,if_false];refine wpAny_pure ⟨rfl,rfl,ew,c3,QK,QM,rfl,QL,QN,?_,by simpa using hlen⟩;rw[<-wA];by_cases av:ew=c3<;>simp[av]
    ·rw[decide_eq_false ah];simp only[Bool.not_false,if_true];have hf:decide (x=y)=false:=by rw[<-wA];simp[ah]
     rw[hf]at h;exact wpAny_bind (wpAny_pure (wpAny_pure (wpAny_pure h)))
 ·rintro⟨au,aG⟩ s' ⟨ak,rfl,gu,eu,s6,s7,bb,rD,ni,wA,hlen⟩;simp only at ak;subst ak;refine wpAny_pure ?_
  have QO:(xs.size==ys.size)=decide (x=y):=by
   rw[<-wA,<-hlen];cases rD with
   | nil=>cases ni<;>simp
   | cons _ _ =>
    cases ni with
    | nil=>simp
    | cons _ _=>simp at bb
  show R (.done (.ret (.bool (xs.size==ys.size)))) s'
  rw[QO];exact h
theorem eq2{x y:List (List Int)}{a b:Addr}{Q:Bool->Shared->Prop}(bF:A.units+3<cLine)(aC:iE P w s.heap x a)(a6:iE P w s.heap y b)(h:Q (decide (x=y)) s):wpAny (model P w) A (eqBool (.ref a) (.ref b)) Q E s:=by
 unfold eqBool
 try with_reducible refine wpAny_holding ?_
 show wpAny (model P w) A (if(Value.ref a==Value.ref b)=true then _ else _) Q E s
 by_cases hs:(Value.ref a==Value.ref b)=true
 ·rw[if_pos hs];obtain rfl:a=b:=by have:=eq_of_beq hs;injection this
  obtain rfl:=aC.inj2 a6;exact wpAny_bind (wpAny_rule (wpAny_pure (by simpa using h)))
 ·rw[if_neg hs]
  exact wpAny_bind (wpAny_richCompare_same_room (op:=.Eq) aC.ty a6.ty F.slot_tuple_eq
   (wpAny_call_entry F.slot_tuple_eq aC.ty F.entry_tuple_eq (QJ (by show A.units+_+2<cLine;omega) aC a6 ⟨_,rfl,(fun e=>nomatch e),wpAny_truthy_bool h⟩) (F.args_tuple_eq_2 _ _)) (by omega))
theorem QP(n:Nat){l:List Int}{a:Addr}{Q:Bool->Shared->Prop}(ah:IsTupleKey (intKind P w) s.heap l a)(h:Q true s):wpAny (model P w) A (eqIsQuiet (n+1) (.ref a)) Q E s:=by
 have dC:=ah.typeIs;obtain⟨cI,us,m,aa,_,aK,bo⟩:=ah;unfold eqIsQuiet;refine wpAny_bind (wpAny_specialOf dC F.slot_tuple_eq.lookup ?_);show wpAny (model P w) A (isInstance (.ref a) (.type "tuple") >>= _) _ _ s
 refine wpAny_bind (wpAny_isInstance dC isSubtype_tuple_tuple ?_);simp only[abh,aan,if_false];refine wpAny_bind (wpAny_seqItems aa aK (wpAny_bind ?_));show wpAny (model P w) A (forIn us _ _) _ _ s
 rw[<-acA];refine wpAny_forIn_list _ (fun rest r s'=>r.1=none/\s'=s/\∀v∈rest,carriedByValue v=true) _ ?_ ?_ _ _ ⟨rfl,rfl,bo.byValue⟩
 ·rintro v rest r s' ⟨ak,rfl,qe⟩;rw[eqIsQuiet_byValue _ (qe v Zd)];refine wpAny_bind (wpAny_pure ?_);simp only[abh,aan,if_false];exact wpAny_pure ⟨rfl,rfl,fun u A0=>qe u (Zf _ A0)⟩
 ·rintro⟨au,aG⟩ s' ⟨ak,rfl,_⟩;simp only at ak;subst ak;exact wpAny_pure h
theorem QQ{ks:List (List Int)}{a:Addr}{Q:Bool->Shared->Prop}(ah:iE P w s.heap ks a)(h:Q true s):wpAny (model P w) A (eqIsQuiet 8 (.ref a)) Q E s:=by
 have dC:=ah.ty;obtain⟨cI,us,m,aa,_,aK,bo⟩:=ah;unfold eqIsQuiet;refine wpAny_bind (wpAny_specialOf dC F.slot_tuple_eq.lookup ?_);show wpAny (model P w) A (isInstance (.ref a) (.type "tuple") >>= _) _ _ s
 refine wpAny_bind (wpAny_isInstance dC isSubtype_tuple_tuple ?_);simp only[abh,aan,if_false];refine wpAny_bind (wpAny_seqItems aa aK (wpAny_bind ?_));show wpAny (model P w) A (forIn us _ _) _ _ s
 rw[<-acA];refine wpAny_forIn_list _ (fun rest r s'=>r.1=none/\s'=s/\∃left,hS (P:=P) (w:=w) s.heap left rest) _ ?_ ?_ _ _ ⟨rfl,rfl,ks,bo⟩
 ·rintro v rest r s' ⟨ak,rfl,left,aj⟩;cases aj with
  | @cons l c h7 _ bU au =>
   refine wpAny_bind (QP 6 bU ?_);simp only[abh,aan,if_false];exact wpAny_pure ⟨rfl,rfl,h7,au⟩
 ·rintro⟨au,aG⟩ s' ⟨ak,rfl,_⟩;simp only at ak;subst ak;exact wpAny_pure h
end
def kd(P:Program)(w:World):Bool->HeapKind P w (List (List Int))
 | false=>{
  is:=fun h k a=>∃l,k=[l]/\IsTupleKey (intKind P w) h l a
  hash:=nq false
  draws:=fun k=>(k.headD []).length+1
  room:=fun A=>A.units+3<cLine
  inj:=by rintro h a x y ⟨l,rfl,p⟩ ⟨m,rfl,q⟩;rw[p.inj q]
  keeps:=fun⟨l,e,p⟩ aE hd aq=>⟨l,e,p.keeps aE hd aq⟩
  pyHash:=fun bF ⟨l,e,p⟩ h=>by subst e;exact wpAny_pyHash_tuple (by omega) p h
  eqBool:=fun bF ⟨l,e,p⟩ ⟨m,aU,q⟩ h=>by subst e aU;exact wpAny_eqBool_tuple (by omega) p q (by simpa using h)
  quiet:=fun⟨l,e,p⟩ h=>wpAny_eqIsQuiet_tuple p h }
 | true=>{
  is:=iE P w
  hash:=nq true
  draws:=wz
  room:=fun A=>A.units+3<cLine
  inj:=fun p q=>p.inj2 q
  keeps:=fun p aE hd aq=>p.keep aE hd aq
  pyHash:=fun bF p h=>QI bF p h
  eqBool:=fun bF p q h=>eq2 bF p q h
  quiet:=fun p h=>QQ p h }
theorem QR(P:Program)(w:World)(b:Bool)(k:List (List Int)):(kd P w b).hash k=nq b k:=by cases b<;>rfl
theorem A1{P:Program}{w:World}{b:Bool}{A:Around}(h:A.units+4<cLine):(kd P w b).room A.in1:=by
 cases b<;>exact(show A.units+1+3<cLine by omega)
def cg{α:Type}:List (List (List Int))->List α->List (List Int)->Option α
 | k'::ks,d::ds,k=>if k'=k then some d else cg ks ds k
 | _,_,_=>none
def fb{α:Type}:List (List (List Int))->List α->List (List Int)->α->List α
 | k'::ks,d::ds,k,x=>(if k'=k then x else d)::fb ks ds k x
 | _,ds,_,_=>ds
def fG(ks:List (List (List Int)))(k:List (List Int)):List (List (List Int)):=if k∈ks then ks else ks++[k]
def fW{α:Type}(ks:List (List (List Int)))(ds:List α)(k:List (List Int))(x:α):List α:=if k∈ks then fb ks ds k x else ds++[x]
def d7:List (List (List Int))->List Addr->List Value->List (List (List Int)×Addr×Value)
 | k::ks,a::as,u::us=>(k,a,u)::d7 ks as us
 | _,_,_=>[]
section
variable{P:Program}{w:World}{b:Bool}
theorem A2:∀(ks:List (List (List Int)))(as:List Addr)(us:List Value),ji b ks as us=(d7 ks as us).map (entryOfKey (kd P w b))
 | k::ks,a::as,u::us=>by
  rw[ji,d7,ZE,<-A2 ks as us];unfold entryOfKey;rw[QR]
 | [],_,_=>by simp[ji,d7]
 | _::_,[],_=>by simp[ji,d7]
 | _::_,_::_,[]=>by simp[ji,d7]
theorem A3:∀{ks:List (List (List Int))}{as:List Addr}{us:List Value},as.length=ks.length->us.length=ks.length->(d7 ks as us).map (·.1)=ks
 | [],_,_,_,_=>by simp[d7]
 | k::ks,[],_,h,_=>by simp at h
 | k::ks,_::_,[],_,h=>by simp at h
 | k::ks,a::as,u::us,aa,ab=>by
  rw[d7,ZE,A3 (by simpa using aa) (by simpa using ab)]
theorem wB:∀{ks:List (List (List Int))}{as:List Addr}{us:List Value}(k:List (List Int)),as.length=ks.length->us.length=ks.length->(atKey (d7 ks as us) k).map (·.2)=cg ks us k
 | [],_,_,_,_,_=>by simp[d7,atKey,cg]
 | k::ks,[],_,_,h,_=>by simp at h
 | k::ks,_::_,[],_,_,h=>by simp at h
 | k'::ks,a::as,u::us,k,aa,ab=>by
  have c0:=wB (ks:=ks) (as:=as) (us:=us) k (by simpa using aa) (by simpa using ab);by_cases e:k'=k
  ·simp[d7,atKey,cg,e]
  ·rw[cg,if_neg e,<-c0];simp[d7,atKey,List.find?_cons,e]
theorem s8{α:Type}:∀{ks:List (List (List Int))}{ds:List α}{k:List (List Int)},ds.length=ks.length->(cg ks ds k=none↔k∉ks)
 | [],_,_,_=>by simp[cg]
 | k'::ks,[],_,h=>by simp at h
 | k'::ks,d::ds,k,h=>by
  have c0:=s8 (ks:=ks) (ds:=ds) (k:=k) (by simpa using h);rw[cg];by_cases e:k'=k
  ·simp[e]
  ·rw[if_neg e,c0,ZA];constructor
   ·intro z w;rcases w with w|w
    ·exact e w.symm
    ·exact z w
   ·exact fun z w=>z (.inr w)
theorem A4{α:Type}{x:α}:∀(ks:List (List (List Int)))(ds:List α)(k:List (List Int)),(fb ks ds k x).length=ds.length
 | [],_,_=>by simp[fb]
 | k'::ks,[],_=>by simp[fb]
 | k'::ks,d::ds,k=>by rw[fb,ZC,A4 ks ds k,ZC]
theorem Gm:∀{ks:List (List (List Int))}{as:List Addr}{us:List Value}(k:List (List Int))(u:Value),(d7 ks as us).map (putAt k u)=d7 ks as (fb ks us k u)
 | [],_,_,_,_=>by simp[d7]
 | k::ks,[],_,_,_=>by simp[d7]
 | k::ks,_::_,[],_,_=>by simp[d7,fb]
 | k'::ks,a::as,v::us,k,u=>by
  rw[d7,ZE,Gm k u,fb,d7];unfold putAt;by_cases e:k'=k
  ·rw[if_pos e,if_pos e]
  ·rw[if_neg e,if_neg e]
theorem Gn:∀{ks:List (List (List Int))}{as:List Addr}{us:List Value}(k:List (List Int))(a:Addr)(u:Value),as.length=ks.length->us.length=ks.length->d7 (ks++[k]) (as++[a]) (us++[u])=d7 ks as us++[(k,a,u)]
 | [],[],[],_,_,_,_,_=>rfl
 | [],_::_,_,_,_,_,h,_=>by simp at h
 | [],[],_::_,_,_,_,_,h=>by simp at h
 | k::ks,[],_,_,_,_,h,_=>by simp at h
 | k::ks,_::_,[],_,_,_,_,h=>by simp at h
 | k'::ks,ez::as,ek::us,k,a,u,aa,ab=>by
  rw[aah,aah,aah,d7,Gn k a u (by simpa using aa) (by simpa using ab),d7,aah]
theorem QS{ks:List (List (List Int))}{as:List Addr}{us:List Value}(k:List (List Int))(a:Addr)(u:Value)(aa:as.length=ks.length)(ab:us.length=ks.length):
  storedH (d7 ks as us) k a u=d7 (fG ks k) (if k∈ks then as else as++[a]) (fW ks us k u):=by
 have g:=wB (as:=as) (us:=us) k aa ab;unfold storedH fG fW;by_cases m:k∈ks
 ·have s:(atKey (d7 ks as us) k).isSome=true:=by
   have z:((atKey (d7 ks as us) k).map (·.2)).isSome=true:=by
    rw[g];cases q:cg ks us k with
    | none=>exact absurd m ((s8 ab).mp q)
    | some x=>rfl
   rwa [ada]at z
  rw[if_pos s,if_pos m,if_pos m,if_pos m,Gm]
 ·have s:¬(atKey (d7 ks as us) k).isSome=true:=by
   have z:((atKey (d7 ks as us) k).map (·.2)).isSome=false:=by
    rw[g,(s8 ab).mpr m];rfl
   rw[ada]at z;rw[z];simp
  rw[if_neg s,if_neg m,if_neg m,if_neg m,Gn k a u aa ab]
def mJ(H:ao)(b:Bool)(k:List (List Int))(a:Addr):Prop:=match b with
 | false=>∃l:List Int,k=[l]/\H a=some (.tup (l.map V.int))
 | true=>∃as:List Addr,H a=some (.tup (as.map V.ref))/\Paired (fun(l:List Int) c=>H c=some (.tup (l.map V.int))) k as
theorem Gp:∀{l:List Int}{us:List Value},Vals (l.map V.int) us->ItemsAre (intKind P w) l us
 | [],_,r=>by rw[aaq]at r;cases r;exact .nil
 | i::l,_,r=>by
  rw[ZE]at r;cases r with
  | cons h t =>
   obtain⟨t',e⟩:=(show ∃t,_=Value.int i t from h);subst e;exact .cons (by simp[intKind,Value.isInt]) (Gp t)
theorem Gq{H:ao}{h:Heap}{l:List Int}{a:Addr}(ok:ej P w H h)(e:H a=some (.tup (l.map V.int))):IsTupleKey (intKind P w) h l a:=by
 obtain⟨_,its,r,o,aa,ab,n,aK⟩:=(show fQ P w H h a (.tup (l.map V.int))from ok a _ e);exact⟨o,its.toArray,n,aa,ab,aK,by simpa using Gp r⟩
theorem Gr{H:ao}{h:Heap}(ok:ej P w H h):∀{ks:List (List Int)}{as:List Addr}{us:List Value},Paired (fun(l:List Int) c=>H c=some (.tup (l.map V.int))) ks as->Vals (as.map V.ref) us->hS (P:=P) (w:=w) h ks us
 | [],[],_,.nil,r=>by rw[aaq]at r;cases r;exact .nil
 | _::_,a::as,_,.cons p q,r=>by
  rw[ZE]at r;cases r with
  | cons h t =>
   cases(show _=Value.ref a from h);exact .cons (Gq ok p) (Gr ok q t)
theorem mJ.is{H:ao}{h:Heap}{k:List (List Int)}{a:Addr}(x:mJ H b k a)(ok:ej P w H h):(kd P w b).is h k a:=by
 cases b with
 | false =>
  obtain⟨l,rfl,e⟩:=x;exact⟨l,rfl,Gq ok e⟩
 | true =>
  obtain⟨as,e,p⟩:=x;obtain⟨_,its,r,o,aa,ab,n,aK⟩:=(show fQ P w H h a (.tup (as.map V.ref))from ok a _ e);exact⟨o,its.toArray,n,aa,ab,aK,by simpa using Gr ok p r⟩
structure n1 (H:ao) (b:Bool) (a:Addr) (br:Nat) (ks:List (List (List Int))) (as:List Addr) (vs:List V):Prop where
 h:H a=some (iQ b a br ks as vs)
 k:Paired (mJ H b) ks as
theorem Gs{H:ao}{h:Heap}(ok:ej P w H h):∀{ks:List (List (List Int))}{as:List Addr}{us:List Value},Paired (mJ H b) ks as->∀x∈d7 ks as us,(kd P w b).is h x.1 x.2.1
 | _,_,[],p,x,m=>by cases p<;>simp[d7]at m
 | [],[],_::_,.nil,x,m=>by simp[d7]at m
 | k::ks,a::as,u::us,.cons p q,x,m=>by
  rw[d7]at m;rcases ZA.mp m with e|m
  ·subst e;exact p.is ok
  ·exact Gs ok q x m
theorem n1.raw{H:ao}{h:Heap}{a:Addr}{br:Nat}{ks:List (List (List Int))}{as:List Addr}{vs:List V}(d:n1 H b a br ks as vs)(ok:ej P w H h):
  ks.length<=sizeLine/\as.length=ks.length/\vs.length=ks.length/\(a==sysModules)=false/\∃us,Vals vs us/\h.DictOfH (kd P w b) a (d7 ks as us)/\ks.Nodup:=by
 obtain⟨⟨aa,ab,aK,bo,us,df,o,es,fl,lE,kQ,s9,A5⟩,_⟩:=(show fQ P w H h a (iQ b a br ks as vs)from ok a _ d.h);have wC:=df.length;exact⟨aa,ab,aK,bo,us,df,⟨o,es,br,fl,lE,kQ,by rw[s9,A2 (P:=P) (w:=w)],Gs ok d.k,by rw[A3 ab (by omega)];exact A5⟩,A5⟩
theorem A6:∀{ks:List (List (List Int))}{vs:List V}{us:List Value}(k:List (List Int)),Vals vs us->m2 (cg ks vs k) (cg ks us k)
 | [],_,_,_,_=>by simp[cg];trivial
 | _::_,_,_,_,.nil=>by simp[cg];trivial
 | k'::ks,_,_,k,.cons r t=>by
  rw[cg,cg];by_cases e:k'=k
  ·rw[if_pos e,if_pos e];exact r
  ·rw[if_neg e,if_neg e];exact A6 k t
theorem Gu{v:V}{u:Value}(r:RelV v u):∀{ks:List (List (List Int))}{vs:List V}{us:List Value}(k:List (List Int)),Vals vs us->Vals (fb ks vs k v) (fb ks us k u)
 | [],_,_,_,t=>by simp only[fb];exact t
 | _::_,_,_,_,.nil=>by simp only[fb];exact .nil
 | k'::ks,_,_,k,.cons q t=>by
  rw[fb,fb];refine .cons ?_ (Gu r k t);by_cases e:k'=k
  ·rw[if_pos e,if_pos e];exact r
  ·rw[if_neg e,if_neg e];exact q
theorem QT{v:V}{u:Value}(r:RelV v u){ks:List (List (List Int))}{vs:List V}{us:List Value}(k:List (List Int))(t:Vals vs us):Vals (fW ks vs k v) (fW ks us k u):=by
 unfold fW;by_cases m:k∈ks
 ·rw[if_pos m,if_pos m];exact Gu r k t
 ·rw[if_neg m,if_neg m];exact Paired.snoc t r
end
theorem QU{o:Option V}{u:Option Value}{d:V}{d':Value}(r:m2 o u)(iv:RelV d d'):RelV (o.getD d) (u.getD d'):=by
 cases o<;>cases u<;>first|exact iv|exact r|exact r.elim
def QV(b:Bool):e5:=fun x y H Q=>∃a c br ks as vs k v,x=.ref a/\y=.ref c/\n1 H b a br ks as vs/\mJ H b k c/\cg ks vs k=some v/\Q v H
def QW(H:ao)(a:Addr):Prop:=∃b br ks as vs,n1 H b a br ks as vs
def QX(b:Bool):TE:=fun _ H Q=>∀p,H p=none->Q (.ref p) (upd H p (iQ b p 0 [] [] []))
def QY(b:Bool)(n2 ty wD:TE):TE:=fun σ H Q=>n2 σ H fun x H1=>∃a,x=.ref a/\QW H1 a/\ty σ H1 fun y aZ=>wD σ aZ fun z cP=>∃c br ks as vs k,y=.ref c/\n1 cP b a br ks as vs/\mJ cP b k c/\Q ((cg ks vs k).getD z) cP
def QZ(b:Bool)(n2 ty rI:TE):fR:=fun D σ H=>rI σ H fun v H1=>n2 σ H1 fun x aZ=>ty σ aZ fun y cP=>∃a c br ks as vs k,x=.ref a/\y=.ref c/\n1 cP b a br ks as vs/\mJ cP b k c/\ks.length<sizeLine /\
 ∀jc,D.nx σ (upd cP a (iQ b a jc (fG ks k) (if k∈ks then as else as++[c]) (fW ks vs k v)))
section
variable{X:aM}{b:Bool}{pos pos' apos c8:Pos}{o e f i value:Expr}{n2 ty wD rI:TE}
theorem n1.typ{H:ao}{s:Shared}{pins:List (Addr×Obj)}{σ:St}{a:Addr}{br:Nat}{ks:List (List (List Int))}{as:List Addr}{vs:List V}(I:Inv X pins σ H s)(d:n1 H b a br ks as vs):
  s.TypeIs (.ref a) "dict"/\∀c,Value.ref a=.ref c->∃cI,s.heap.get? c=some cI/\cI.dict=none:=by
 obtain⟨_,_,_,_,us,_,h4,_⟩:=d.raw I.hok;refine⟨h4.typeIs,fun c q=>?_⟩;cases q;obtain⟨cI,_,_,aa,ab,_⟩:=h4;exact⟨cI,aa,ab.2.1⟩
theorem Q0(bF:X.A.units+4<cLine):qd X (QV b):=by
 intro AU sl pins s σ H x y v u Q I bg cu h aq;obtain⟨a,c,br,ks,as,vs,k,z,rfl,rfl,d,qR,l,q⟩:=h;cases bg;cases(show u=Value.ref c from cu);obtain⟨aa,ab,aK,bo,us,df,h4,fl⟩:=d.raw I.hok;have wC:=df.length;have g:=wB (as:=as) (us:=us) k ab (by omega);obtain⟨ek,A0,hH⟩:=m2.some_of (v:=z) (o:=cg ks us k) (by rw[<-l];exact A6 k df);rw[A0]at g;obtain⟨p,ag,lO⟩:=Option.map_eq_some_iff.mp g
 exact PyProof.Rows.subscriptTail_builtinR (x:=ek) h4.typeIs PySem.F.slot_dict_getitem.lookup
  (wpAny_getItem_heap (Q:=fun r s'=>r=ek/\hl X pins σ Q r s') (A1 bF) (qR.is I.hok) h4 ag ⟨lO,by rw[lO];exact⟨z,H,I.tok _,hH,q⟩⟩) aq
theorem Q1(bF:X.A.units+4<cLine)(aE:b0 X o n2)(he:b0 X e ty)(hf:b0 X f wD)(ie:attributeBase o "get" X.env (eval o X.env)=eval o X.env:=by rfl)(km:((backTo c8 (starEach [e,f] X.env)).all (fun x => !x.1)&&(backToKw c8 (keywordEach [] X.env)).all (fun x=>x.1.isSome)
   && decide (([e,f]:List Expr).length+([]:List Keyword).length+(if([]:List Keyword).isEmpty then 0 else 1)<30))=true:=by rfl)(ig:(apos.endLine==c8.line)=true:=by rfl)(A7:backTo c8 (starEach [e,f] X.env)=[(false,eval e X.env),(false,eval f X.env)]:=by rfl):
  b0 X (.Call (.Attribute o "get" apos) [e,f] [] c8) (QY b n2 ty wD):=by
 intro pins s σ H Q I h;refine wpAny_Call_method ie km ig PySem.F.plainAttrs_dict adb PySem.F.type_dict_get (ck (aE pins s σ H _ I h) fun u s1 ⟨x,H1,bf,bg,a,ex,Q2,aW⟩=>?_);obtain⟨a9,Y2,i4,Y3,kR,d⟩:=Q2;subst ex;obtain rfl:u=Value.ref a:=bg;obtain⟨t1,cE⟩:=d.typ bf;refine⟨t1,cE,?_⟩;rw[A7]
 refine Calls.callWith_builtin rfl (Calls.evalArgs_plain (Calls.spliced_cons (ck (he pins s1 σ H1 _ bf aW) fun hD s2 ⟨y,aZ,ec,cu,bS⟩ =>
  Calls.spliced_cons (ck (hf pins s2 σ aZ _ ec bS) fun Q3 s3 ⟨z,cP,de,h3,c,br,ks,as,vs,k,fM,wF,qR,fC⟩=>Calls.spliced_nil ?_))))
 subst fM;obtain rfl:hD=Value.ref c:=cu;obtain⟨aa,ab,aK,bo,us,df,h4,fl⟩:=wF.raw de.hok;have wC:=df.length;refine call_meetsIn adb h4.typeIs PySem.F.entry_dict_get (PySem.F.args_dict_get_3 _ _ _) (meetsH_dict_get_default (kd X.prog X.w b) a c bo Q3) ⟨A1 bF,k,d7 ks as us,qR.is de.hok,h4,?_⟩;rw[wB k ab (by omega)];exact⟨_,cP,de.tok _,QU (A6 k df) h3,fC⟩
theorem Q4{ks:List (List (List Int))}{k:List (List Int)}(h:ks.Nodup):(fG ks k).Nodup:=by
 unfold fG;by_cases m:k∈ks
 ·rw[if_pos m];exact h
 ·rw[if_neg m];refine List.nodup_append.mpr ⟨h,by simp,fun x aC y a6=>?_⟩;rw[ZG.mp a6];rintro rfl;exact m aC
theorem Q5(bF:X.A.units+4<cLine)(aE:b0 X o n2)(aB:b0 X i ty)(aP:b0 X value rI)(aq:swapsWith value (some (.Subscript o i pos')) pos.line X.env=pure false:=by rfl):
  ia X (.Assign [.Subscript o i pos'] value pos) (QZ b n2 ty rI):=by
 intro pins s σ H D I h;refine wpAny_Assign_Subscript (ck (aP pins s σ H _ I h) fun r s1 ⟨v,H1,bf,cb,aW⟩=>ck (aE pins s1 σ H1 _ bf aW) fun u s2 ⟨x,aZ,ec,bg,bS⟩=>ck (aB pins s2 σ aZ _ ec bS) fun hD s3 ⟨y,cP,de,cu,a,c,Y4,ks,as,vs,k,ex,fM,wF,qR,aj,fC⟩=>?_) aq;subst ex fM;obtain rfl:u=Value.ref a:=bg;obtain rfl:hD=Value.ref c:=cu;obtain⟨aa,ab,aK,bo,us,df,h4,fl⟩:=wF.raw de.hok;have wC:=df.length
 have le:(d7 ks as us).length=ks.length:=by
  have:=congrArg ZS (A3 (as:=as) (us:=us) ab (by omega))
  rwa [YL]at this
 refine wpAny_setItem_heap (A1 bF) (qR.is de.hok) h4 (fun h' qQ f6=>?_) (by omega);rw[QS k c r ab (by omega)]at qQ
 have lk:(fG ks k).length<=sizeLine:=by
  unfold fG;split
  ·exact aa
  ·rw[Zg,aal];omega
 have la:(if k∈ks then as else as++[c]).length=(fG ks k).length:=by
  unfold fG;split
  ·exact ab
  ·rw[Zg,Zg,ab];rfl
 have lv:(fW ks vs k v).length=(fG ks k).length:=by
  unfold fG fW;split
  ·rw[A4];exact aK
  ·rw[Zg,Zg,aK];rfl
 obtain⟨cI,es,br,kK,kL,Fw,mK,Y5,Y6⟩:=qQ
 have Q6:Inv X pins σ (upd cP a (iQ b a br (fG ks k) (if k∈ks then as else as++[c]) (fW ks vs k v))) { s3 with heap:=h',toks:=s3.toks+(kd X.prog X.w b).draws k }:=by
  refine de.write (x:=a) (e:=a) (by rw[wF.h];trivial) (.inl rfl) (fun eU q af z=>(f6.2 eU af).trans z) ⟨cI,kK⟩ ?_;refine⟨⟨lk,la,lv,bo,_,QT cb k df,cI,es,kK,kL,Fw,?_,Q4 fl⟩,⟨cI,kK⟩,?_⟩
  ·rw[mK,A2 (P:=X.prog) (w:=X.w)]
  ·rintro g1 g2 ⟨z1,aT,fk,eW,jn,kC,A8,oB,A9,A'⟩ ah;exact⟨z1,aT,fk,eW,jn,kC,A8,oB,ah _ A9,A'⟩
 exact⟨σ,_,Q6,fC br⟩
theorem Q7:b0 X (.Dict [] [] pos) (QX b):=fun pins s σ H Q I h=>by
 have big:sysModules<s.heap.objs.size:=Nat.lt_trans (by decide) ((I.mod.glob.keeps I.bk).lt:mainGlobals<s.heap.objs.size);refine wpAny_Dict_empty ⟨.ref s.heap.objs.size,_,I.laid (a:=s.heap.objs.size) (o:=iQ b s.heap.objs.size 0 [] [] []) (t':=s.toks) (fun _ _ q=>Heap.get?_push_of_some _ q) (YK _) ?_,rfl,h _ (I.hok.fresh (YK _))⟩;refine⟨⟨aaa _,rfl,rfl,beq_eq_false_iff_ne.mpr (Z8 (Z0 big)),[],.nil,_,#[],Heap.get?_push_size _ rfl,⟨rfl,rfl,rfl⟩,rfl,rfl,List.nodup_nil⟩,⟨_,Heap.get?_push_size _ rfl⟩,?_⟩;rintro g1 g2 ⟨z1,aT,fk,eW,jn,kC,A8,oB,A9,A'⟩ ah;exact⟨z1,aT,fk,eW,jn,kC,A8,oB,ah _ A9,A'⟩
end
def ta(h:Heap)(d:Addr)(es:Array DictEntry)(br:Nat):Prop:=∃o,h.get? d=some o/\o.ExactDict/\o.data=.dict es br
section
variable{prog:Program}{w:World}{A:Around}{E:Value->Shared->Prop}{s:Shared}{d it:Addr}{i br:Nat}{es:Array DictEntry}
theorem Q8{Q:Value->Shared->Prop}(hd:(d==sysModules)=false)(hm:ta s.heap d es br)(gV:Q (.ref s.heap.objs.size) { s with heap:=s.heap.push { cls:=.type "dict_keyiterator",data:=.fields #[.ref d,.int 0 0,.int es.size 0,.int br 0] } }):wpAny (model prog w) A (pyIter (.ref d)) Q E s:=by
 obtain⟨o,aE,hc,he⟩:=hm;have ty:s.TypeIs (.ref d) "dict":=⟨o,aE,hc.1⟩;have no:¬(d==sysModules)=true:=fun z=>by rw[hd]at z;cases z
 refine wpAny_pyIter_slot ty F.slot_dict_iter (wpAny_call_entry F.slot_dict_iter ty F.entry_dict_iter ?_ (F.args_dict_iter_1 _));unfold Builtin.«dict.__iter__» Builtin.Dict.dictSlotNone;refine wpAny_bind (wpAny_bind (wpAny_notOrdered_dict ty (show wpAny _ _ (pure (Value.ref d)) _ _ s from wpAny_pure ?_)));show wpAny _ _ (Builtin.Dict.showsAll d >>= _) _ _ s
 unfold Builtin.Dict.showsAll;rw[if_neg no];refine wpAny_bind (wpAny_pure (wpAny_bind (wpAny_dictEntries aE he (wpAny_bind (wpAny_dictEpoch aE he (wpAny_bind (wpAny_newObj_type (wpAny_pure ?_))))))));exact⟨_,rfl,"dict_keyiterator",_,⟨_,Heap.get?_push_size _ rfl,rfl⟩,F.slot_dict_keyiterator_next.lookup,by simpa[rawInt]using gV⟩
theorem Gv{Q:Option Value->Shared->Prop}(et:A.handled=none)(hit:s.heap.IsKeyIter it d i es.size br)(hm:ta s.heap d es br)(more:∀e h',es[i]?=some e->h'.IsKeyIter it d (i+1) es.size br->Heap.SameBut it s.heap h'->Q (some e.key) { s with heap:=h' })(done:∀h',es[i]?=none->Heap.ExtBut it s.heap h'->Q none { s with heap:=h' }):wpAny (model prog w) A (pyNext (.ref it)) Q E s:=by
 have ty:=hit.typeIs;obtain⟨Y7,aB,ci,qS⟩:=hit;obtain⟨o,aE,hc,he⟩:=hm;have own:Builtin.Dict_items.ownsTuple "dict_keyiterator"=false:=by decide
 have cR:¬((i:Int)<0):=by omega
 have none_:¬(Value.ref d==Value.none)=true:=ZR;unfold pyNext;refine wpAny_bind (wpAny_attempt (wpAny_callSpecial?_slot (name:="__next__") ty F.slot_dict_keyiterator_next (wpAny_call_entry F.slot_dict_keyiterator_next ty F.entry_dict_keyiterator_next ?_ (F.args_dict_keyiterator_next_1 _))));refine wpAny_bind (wpAny_pure (wpAny_bind (wpAny_bind ?_)))
 first|refine wpAny_bind (wpAny_typeNameOfWhole_keyiter ty (wpAny_pure (wpAny_bind (wpAny_fieldsOf aB qS ?_))))|refine wpAny_bind (wpAny_typeNameOf_keyiter ty (wpAny_pure (wpAny_bind (wpAny_fieldsOf aB qS ?_))))
 rw[own];show wpAny _ _ (if(Value.ref d==Value.none)=true then _ else _) _ _ s
 rw[if_neg none_];refine wpAny_bind (wpAny_pure (wpAny_bind (wpAny_dictEntries aE he ?_)));rw[if_neg (by simp)];refine wpAny_bind (wpAny_pure (wpAny_bind (wpAny_dictEpoch aE he ?_)));rw[if_neg (by simp)];refine wpAny_pure ?_;simp only[cR,if_false,Int.toNat_natCast];cases q:es[i]? with
 | some e =>
  let aa:=s.heap.update it (Obj.mapFields (·.setIfInBounds 1 (rawInt ((i:Int)+1))))
  have bU:aa.IsKeyIter it d (i+1) es.size br:=by
   refine⟨_,Heap.get?_update_self _ aB ?_,(Obj.cls_mapFields ..).trans ci,?_⟩
   ·exact Obj.isFreed_of_fields (Obj.data_mapFields qS _)
   ·rw[Obj.data_mapFields qS];simp[rawInt]
  refine wpAny_bind ?_
  first|refine wpAny_bind (wpAny_typeNameOfWhole_keyiter ty (wpAny_pure (wpAny_bind (wpAny_isOneOf_keyiter ty ?_))))|refine wpAny_bind (wpAny_typeNameOf_keyiter ty (wpAny_pure (wpAny_bind (wpAny_isOneOf_keyiter ty ?_))))
  show wpAny _ _ (setField (.ref it) 1 (rawInt ((i:Int)+1)) >>= _) _ _ s
  refine wpAny_bind (wpAny_setField aB qS (by simp) (wpAny_bind (wpAny_holding (wpAny_bind (wpAny_isOneOf_keyiter (s:={ s with heap:=aa }) bU.typeIs ?_)))));exact wpAny_pure (wpAny_pure ⟨_,rfl,wpAny_pure (more e aa q bU (Heap.SameBut.update ..))⟩)
 | none =>
  refine wpAny_bind ?_
  first|refine wpAny_bind (wpAny_typeNameOfWhole_keyiter ty (wpAny_pure ?_))|refine wpAny_bind (wpAny_typeNameOf_keyiter ty (wpAny_pure ?_))
  show wpAny _ _ (setField (.ref it) 0 .none >>= _) _ _ s
  refine wpAny_bind (wpAny_setField aB qS (by simp) ?_);show wpAny _ _ (newExc (.type "StopIteration") [] >>= _) _ _ _
  unfold newExc newTuple;refine wpAny_bind (wpAny_bind (wpAny_newObj_type (wpAny_bind (m:=firstArgMember _ _) (wpAny_of_eq (a:=Value.none) (by first|rfl|(unfold firstArgMember;rfl)) (wpAny_newObj_type ?_ (by size_fits)))) (by size_fits)));unfold raiseNew;refine wpAny_bind (wpAny_handled ?_);rw[show A.in1.handled=none from et];refine wpAny_bind (wpAny_pure (wpAny_throw ?_));refine wpAny_bind (wpAny_isInstance (T:="StopIteration") (b:=true) (by exact⟨_,Heap.get?_push_size _ rfl,rfl⟩) isSubtype_stop ?_);exact wpAny_pure (done _ q (((Heap.SameBut.update ..).extBut.push _).push _))
theorem Q9{k v:Value}{hsh:Int}{Q:Option Value->Shared->Prop}(et:A.handled=none)(hit:s.heap.IsKeyIter it d i es.size br)(hm:ta s.heap d es br)(aC:es[i]?=some ⟨hsh,k,v⟩)(gV:∀h',h'.IsKeyIter it d (i+1) es.size br->Heap.SameBut it s.heap h'->Q (some k) { s with heap:=h' }):wpAny (model prog w) A (pyNext (.ref it)) Q E s :=
 Gv et hit hm (fun e h' q a b=>by rw[aC]at q;cases q;exact gV h' a b) fun h' q _=>by rw[aC]at q;cases q
theorem Q'{Q:Option Value->Shared->Prop}(et:A.handled=none)(hit:s.heap.IsKeyIter it d i es.size br)(hm:ta s.heap d es br)(aC:es.size<=i)(gV:∀h',Heap.ExtBut it s.heap h'->Q none { s with heap:=h' }):wpAny (model prog w) A (pyNext (.ref it)) Q E s :=
 Gv et hit hm (fun e h' q _ _=>by rw[Array.getElem?_eq_none aC]at q;cases q) fun h' _ ep=>gV h' ep
end
def Gw(b:Bool)(a:Addr)(br:Nat)(ks:List (List (List Int)))(as:List Addr)(vs:List V):hX where
 go:=fun i H=>H a=some (iQ b a br ks as vs)/\i<ks.length
 yld:=fun i H x H'=>H'=H/\∃c,as[i]?=some c/\x=.ref c
 stop:=fun i H=>H a=some (iQ b a br ks as vs)/\ks.length<=i
theorem Gx{b:Bool}:∀{ks:List (List (List Int))}{as:List Addr}{us:List Value},as.length=ks.length->us.length=ks.length->(ji b ks as us).length=ks.length
 | [],_,_,_,_=>by simp[ji]
 | k::ks,[],_,h,_=>by simp at h
 | k::ks,_::_,[],_,h=>by simp at h
 | k::ks,a::as,u::us,aa,ab=>by rw[ji,ZC,ZC,Gx (by simpa using aa) (by simpa using ab)]
theorem Gy{b:Bool}:∀{ks:List (List (List Int))}{as:List Addr}{us:List Value}{i:Nat},as.length=ks.length->us.length=ks.length->i<ks.length->∃k c u,as[i]?=some c/\us[i]?=some u/\(ji b ks as us)[i]?=some ⟨nq b k,.ref c,u⟩
 | [],_,_,i,_,_,h=>by simp at h
 | k::ks,[],_,_,h,_,_=>by simp at h
 | k::ks,_::_,[],_,_,h,_=>by simp at h
 | k::ks,a::as,u::us,0,_,_,_=>⟨k,a,u,rfl,rfl,rfl⟩
 | k::ks,a::as,u::us,i+1,aa,ab,aK=>by
  obtain⟨k',c,ek,z1,aT,fk⟩:=Gy (b:=b) (ks:=ks) (as:=as) (us:=us) (i:=i) (by simpa using aa) (by simpa using ab) (by simpa using aK);exact⟨k',c,ek,by simpa using z1,by simpa using aT,by simpa[ji]using fk⟩
section
variable{P:Program}{w:World}{K:PySem.W.Frag}{bG:Expr}{b:Bool}{a:Addr}{br:Nat}{ks:List (List (List Int))}{as:List Addr}{vs:List V}
theorem Ba{H:ao}{h:Heap}(ok:ej P w H h)(e:H a=some (iQ b a br ks as vs)):∃us es,ta h a es br/\es.toList=ji b ks as us/\as.length=ks.length/\us.length=ks.length/\es.size=ks.length/\Vals vs us/\(a==sysModules)=false:=by
 obtain⟨⟨aa,ab,aK,bo,us,df,o,es,fl,lE,kQ,s9,A5⟩,_⟩:=(show fQ P w H h a (iQ b a br ks as vs)from ok a _ e);have wC:=df.length;exact⟨us,es,⟨o,fl,lE,kQ⟩,s9,ab,by omega,by rw[<-abE,s9,Gx ab (by omega)],df,bo⟩
theorem Ra(it:Addr):Turn P w K bG (Gw b a br ks as vs) [it] it (fun i h=>h.IsKeyIter it a i ks.length br) where
 mem:=by simp
 obj:=fun i h st c hc=>by
  have e:c=it:=by simpa using hc
  subst e;obtain⟨o,e,_,d⟩:=st;exact⟨o,e,fun v z=>by rw[d]at z;cases z⟩
 keep:=fun i h h' st k=>st.at fun o e=>k it (by simp) o e
 item:=by
  intro X gr hw e4 hc i pins s σ H E I hf st aD;subst gr hw e4;obtain⟨aA,aB⟩:=aD;obtain⟨us,es,iv,o1,bx,bB,e9,_⟩:=Ba I.hok aA;obtain⟨k,c,u,Rb,Y8,he⟩:=Gy (b:=b) bx bB aB;obtain⟨f0,f1,f2,bQ,f4,eo⟩:=hf it (by simp);refine Q9 (I.ok.hd hc) (by rw[e9];exact st) iv (hsh:=nq b k) (k:=.ref c) (v:=u) (by rw[<-ace,o1];exact he) fun h' jH f6=>?_;rw[e9]at jH;have bf:Inv X pins σ H { s with heap:=h' }:=I.turned (t':=s.toks) (fun eU o af e=>(f6.2 eU af).trans e) f0 f1 bQ f4 eo;obtain⟨o,e,aH,d⟩:=id jH;exact⟨.ref c,rfl,uE (s:={ s with heap:=h' }) e aH d (by decide) ⟨.ref c,H,bf,rfl,⟨rfl,c,Rb,rfl⟩,jH,fun b' af=>(hf b' af).1⟩⟩
 done:=by
  intro X gr hw e4 hc i pins s σ H E I hf st aD;subst gr hw e4;obtain⟨aA,aB⟩:=aD;obtain⟨us,es,iv,o1,bx,bB,e9,_⟩:=Ba I.hok aA;obtain⟨f0,f1,f2,bQ,f4,eo⟩:=hf it (by simp);exact Q' (I.ok.hd hc) (by rw[e9];exact st) iv (by omega) fun h' ep=>⟨rfl,I.turned (t':=s.toks) (fun eU o af e=>ep eU o af e) f0 f1 bQ f4 eo⟩
 self:=fun _ _ _ _ _ st h=>wpAny_pyIter_keyiter st h
end
def Rc(gG:TE):TI:=fun σ H R=>gG σ H fun x H1=>∃b a br ks as vs,x=.ref a/\H1 a=some (iQ b a br ks as vs)/\R (Gw b a br ks as vs) H1
section
variable{X:aM}{bG:Expr}
theorem Rd{l:Expr}{gG:TE}(aj:b0 X l gG):jG X bG l (Rc gG):=by
 intro pins s σ H R I h;refine ck (aj pins s σ H _ I h) fun v s1 ⟨x,H1,bf,au,aW⟩=>?_;obtain⟨b,a,br,ks,as,vs,e,aA,q⟩:=aW;subst e;cases au;obtain⟨us,es,iv,o1,bx,bB,e9,_,aq⟩:=Ba bf.hok aA;refine Q8 aq iv ?_;refine⟨s1.heap.objs.size,[s1.heap.objs.size],_,_,H1,rfl,bf.kept (t':=s1.toks) fun b o e=>Heap.get?_push_of_some _ e,Ra _,⟨_,Heap.get?_push_size _ rfl,rfl,by rw[e9];rfl⟩,fun c hc=>?_,q⟩;have e:c=s1.heap.objs.size:=by simpa using hc
 subst e;exact bf.fpOk (YK _) (bf.hok.fresh (YK _))
end
section
variable{K:PySem.W.Frag}{B H:ao}
theorem Bb:∀{vs:List V}{l:List Int},Reps K B vs (l.map D.int)->vs=l.map V.int
 | _,[],r=>by cases r;rfl
 | _,i::l,r=>by
  rw[ZE]at r;cases r with
  | cons h t=>rw[h.intV,Bb t];rfl
theorem Gz(s:cm B H):∀{vs:List V}{k:List (List Int)},Reps K B vs (k.map fun ks=>.tup (ks.map D.int))->∃as:List Addr,vs=as.map V.ref/\Paired (fun(l:List Int) c=>H c=some (.tup (l.map V.int))) k as
 | _,[],r=>by cases r;exact⟨[],rfl,.nil⟩
 | _,l::k,r=>by
  rw[ZE]at r;cases r with
  | cons h t =>
   obtain⟨c,us,rfl,hc,rs⟩:=h.tupV;rw[Bb rs]at hc;obtain⟨as,rfl,p⟩:=Gz s t;exact⟨c::as,rfl,.cons (s _ _ hc) p⟩
theorem Bc{b:Bool}{k:List (List Int)}{v:V}(r:Rep K B v (ih b k)):∃c,v=.ref c:=by
 unfold ih at r;split at r
 ·obtain⟨c,_,rfl,_⟩:=r.tupV;exact⟨c,rfl⟩
 ·obtain⟨c,_,rfl,_⟩:=r.tupV;exact⟨c,rfl⟩
theorem wG{b:Bool}{k:List (List Int)}{c:Addr}(s:cm B H)(af:b=false->∃l,k=[l])(r:Rep K B (.ref c) (ih b k)):mJ H b k c:=by
 cases b with
 | false =>
  obtain⟨l,rfl⟩:=af rfl;obtain⟨eU,us,e,hc,rs⟩:=(show Rep K B (.ref c) (.tup (l.map D.int))from r).tupV;cases e;rw[Bb rs]at hc;exact⟨l,rfl,s _ _ hc⟩
 | true =>
  obtain⟨eU,us,e,hc,rs⟩:=(show Rep K B (.ref c) (.tup (k.map fun ks=>.tup (ks.map D.int)))from r).tupV;cases e;obtain⟨as,rfl,p⟩:=Gz s rs;exact⟨as,s _ _ hc,p⟩
theorem td{b:Bool}(s:cm B H):∀{ks:List (List (List Int))}{as:List Addr},(b=false->∀k∈ks,∃l,k=[l])->Reps K B (as.map V.ref) (ks.map (ih b))->Paired (mJ H b) ks as
 | [],[],_,_=>.nil
 | [],_::_,_,r=>by cases r
 | _::_,[],_,r=>by cases r
 | k::ks,a::as,af,r=>by
  rw[ZE,ZE]at r;cases r with
  | cons h t=>exact .cons (wG s (fun z=>af z k Zd) h) (td s (fun z k' m=>af z k' (Zf _ m)) t)
theorem GA{b:Bool}{z:V}{GB:D}(h3:Rep K B z GB)(k:List (List Int)):∀{ks:List (List (List Int))}{vs:List V}{ds:List D},Reps K B vs ds->Rep K B ((cg ks vs k).getD z) ((cg ks ds k).getD GB)
 | [],_,_,_=>by simp only[cg,abJ];exact h3
 | _::_,_,_,.nil=>by simp only[cg,abJ];exact h3
 | k'::ks,_,_,.cons h t=>by
  rw[cg,cg];by_cases e:k'=k
  ·rw[if_pos e,if_pos e];exact h
  ·rw[if_neg e,if_neg e];exact GA (b:=b) h3 k t
theorem GC{d:D}(k:List (List Int)):∀{ks:List (List (List Int))}{vs:List V}{ds:List D},Reps K B vs ds->cg ks ds k=some d->∃v,cg ks vs k=some v/\Rep K B v d
 | [],_,_,_,e=>by simp[cg]at e
 | _::_,_,_,.nil,e=>by simp[cg]at e
 | k'::ks,_,_,.cons h t,e=>by
  rw[cg]at e ⊢;by_cases z:k'=k
  ·rw[if_pos z]at e ⊢;cases e;exact⟨_,rfl,h⟩
  ·rw[if_neg z]at e ⊢;exact GC k t e
theorem GD{v:V}{d:D}(r:Rep K B v d)(k:List (List Int)):∀{ks:List (List (List Int))}{vs:List V}{ds:List D},Reps K B vs ds->Reps K B (fb ks vs k v) (fb ks ds k d)
 | [],_,_,t=>by simp only[fb];exact t
 | _::_,_,_,.nil=>by simp only[fb];exact .nil
 | k'::ks,_,_,.cons h t=>by
  rw[fb,fb];refine .cons ?_ (GD r k t);by_cases e:k'=k
  ·rw[if_pos e,if_pos e];exact r
  ·rw[if_neg e,if_neg e];exact h
theorem Rf{v:V}{d:D}(r:Rep K B v d)(k:List (List Int)){ks:List (List (List Int))}{vs:List V}{ds:List D}(t:Reps K B vs ds):Reps K B (fW ks vs k v) (fW ks ds k d):=by
 unfold fW;by_cases m:k∈ks
 ·rw[if_pos m,if_pos m];exact GD r k t
 ·rw[if_neg m,if_neg m];exact t.append (.cons r .nil)
theorem Rg{b:Bool}{c:Addr}{k:List (List Int)}{ks:List (List (List Int))}{as:List Addr}(r:Rep K B (.ref c) (ih b k))(t:Reps K B (as.map V.ref) (ks.map (ih b))):
  Reps K B ((if k∈ks then as else as++[c]).map V.ref) ((fG ks k).map (ih b)):=by
 unfold fG;by_cases m:k∈ks
 ·rw[if_pos m,if_pos m];exact t
 ·rw[if_neg m,if_neg m,ZD,ZD];exact t.append (.cons r .nil)
end
def wH(b:Bool)(k:List (List Int)):Prop:=b=false->∃l,k=[l]
theorem Rh{b:Bool}{k:List (List Int)}{ks:List (List (List Int))}(h:b=false->∀k∈ks,∃l,k=[l])(ah:wH b k):b=false->∀k'∈fG ks k,∃l,k'=[l]:=fun z k' m=>by
 unfold fG at m;split at m
 ·exact h z k' m
 ·rcases ZK.mp m with m|m
  ·exact h z k' m
  ·rw[ZG.mp m];exact ah z
def Ri(b:Bool)(i:Nat):cW:=fun U ρ=>U.nx (ρ.set i (.own (.d b none [] [])))
def Rj(b:Bool)(n:Nat)(ju te:a5):a5:=fun ρ k=>∃t ks ds,ρ[n]?=some (.own (.d b t ks ds))/\ju ρ fun y=>te ρ fun z=>∃aY,y=ih b aY/\wH b aY/\k ((cg ks ds aY).getD z)
def Rk(b:Bool)(n:Nat)(ju wI:a5):cW:=fun U ρ=>wI ρ fun d=>∃t ks ds,ρ[n]?=some (.own (.d b t ks ds))/\ju ρ fun y=>∃aY,y=ih b aY/\wH b aY/\ks.length<sizeLine/\U.nx (ρ.set n (.own (.d b t (fG ks aY) (fW ks ds aY d))))
def Rl(b:Bool)(nT ju:a5):a5:=fun ρ k=>nT ρ fun x=>ju ρ fun y=>∃ks ds aY d,x=.dct b ks ds/\y=ih b aY/\wH b aY/\cg ks ds aY=some d/\k d
def Rm(u:a5):cQ:=fun ρ k=>u ρ fun x=>∃b ks ds,x=.dct b ks ds/\k (ks.map (ih b))
def Rn(i:Nat)(s:cW):cW:=fun U ρ=>∃b t ks ds,ρ[i]?=some (.own (.d b t ks ds))/\s U (ρ.set i (.val (.dct b ks ds)))
section
variable{X:aM}{b:Bool}{n:Nat}{x:Str}{px pos pos' apos c8 tg:Pos}{o e f i value:Expr}{nT ju te wI:a5}{bG:Expr}
theorem Ro{i:Nat}(bI:X.N.Nodup)(aB:X.N[i]?=some x)(aC:Loc X.env.scope x)(aq:swapsWith (.Dict [] [] tg) (some (.Name x pos')) pos.line X.env=pure false:=by rfl)(hf:X.fn x=true∨X.env.scope.names.lookup x=some .local:=by first|exact .inl rfl|exact .inr rfl|assumption):
  e7 X (.Assign [.Name x pos'] (.Dict [] [] tg) pos) (Ri b i):=by
 refine⟨_,p3 bI aB aC (Q7 (b:=b)) aq hf,fun U ρ h R W B H σ D e s=>?_⟩;intro p ag;obtain⟨f1,f2,bQ⟩:=e.toWd.fresh ag;exact s.nx _ _ B _ h ((e.allocH ag _).setC i f1 bQ ⟨0,[],[],(fun _ z=>nomatch z),ei,.nil,fun _ _ z=>by simp at z,.nil⟩ fun j _ m=>e.notNew ag m rfl) (bM.refl _ _)
theorem GF(n:Nat)(bF:X.A.units+4<cLine)(he:bq X e ju)(hf:bq X f te)(bI:X.N[n]?=some x:=by rfl)(aP:gF X.env.scope x:=by first|exact Sz rfl|exact Zh (Sz rfl)|exact Zh (Zh rfl))(hd:(x==("__debug__":Str))=false:=by decide)(dz:(x==("__classdict__":Str))=false:=by decide)(ie:attributeBase (.Name x px) "get" X.env (eval (.Name x px) X.env)=eval (.Name x px) X.env:=by rfl)(km:((backTo c8 (starEach [e,f] X.env)).all (fun x => !x.1)&&(backToKw c8 (keywordEach [] X.env)).all (fun x=>x.1.isSome)
   && decide (([e,f]:List Expr).length+([]:List Keyword).length+(if([]:List Keyword).isEmpty then 0 else 1)<30))=true:=by rfl)(ig:(apos.endLine==c8.line)=true:=by rfl)(A7:backTo c8 (starEach [e,f] X.env)=[(false,eval e X.env),(false,eval f X.env)]:=by rfl):
  bq X (.Call (.Attribute (.Name x px) "get" apos) [e,f] [] c8) (Rj b n ju te):=by
 obtain⟨_,aa,au⟩:=he;obtain⟨_,ab,aG⟩:=hf;refine⟨_,Q1 (b:=b) bF (ic bI aP hd dz) aa ab ie km ig A7,fun ρ k z R W B H σ Q ev q=>?_⟩;obtain⟨t,ks,ds,aE,z⟩:=z;obtain⟨a,ai,av,bC,br,as,vs,_,c6,eK,mj,D2⟩:=ev.ownC aE;refine⟨_,ai,a,rfl,⟨b,br,ks,as,vs,c6,td ev.bh mj eK⟩,?_⟩;refine au ρ _ z R W B H σ _ ev fun y v a4 H1 z1 f1 g1 s1=>?_;refine aG ρ _ z1 R W a4 H1 σ _ f1 fun c3 v2 bD aZ aT f2 g2 s2=>?_;obtain⟨aY,rfl,ah,aA⟩:=aT;obtain⟨c,rfl⟩:=Bc s1;obtain⟨ez,aF,aH,bV,jc,th,kx,_,bP,b5,b6,pq⟩:=f2.ownC aE;rw[ai]at aF;cases aF;exact⟨c,jc,ks,th,kx,aY,rfl,⟨bP,td f2.bh b6 b5⟩,wG f2.bh ah (s1.mono g2.s),q _ _ bD aZ aA f2 (g1.trans g2) (GA (b:=b) s2 aY pq)⟩
theorem Rp(b:Bool)(bF:X.A.units+4<cLine)(aE:bq X o nT)(he:bq X e ju)(aq:uS e):bq X (.Subscript o e pos) (Rl b nT ju):=by
 obtain⟨_,aa,au⟩:=aE;obtain⟨_,ab,aG⟩:=he;refine⟨_,lp (Q0 (b:=b) bF) aa ab aq,fun ρ k z R W B H σ Q ev q=>?_⟩;refine au ρ _ z R W B H σ _ ev fun x v a4 H1 z1 f1 g1 s1=>?_;refine aG ρ _ z1 R W a4 H1 σ _ f1 fun y v2 bD aZ aT f2 g2 s2=>?_;obtain⟨ks,ds,aY,d,rfl,rfl,ah,aj,aA⟩:=aT;obtain⟨c,rfl⟩:=Bc s2;cases s1.mono g2.s with
 | @dct a _ br _ as vs _ ed Bd uV hE =>
  obtain⟨v,aP,cb⟩:=GC aY hE aj;exact⟨a,c,br,ks,as,vs,aY,v,rfl,rfl,⟨f2.bh _ _ ed,td f2.bh uV Bd⟩,wG f2.bh ah s2,aP,q _ _ bD aZ aA f2 (g1.trans g2) cb⟩
theorem GG(n:Nat)(bF:X.A.units+4<cLine)(he:bq X e ju)(aP:bq X value wI)(bI:X.N[n]?=some x:=by rfl)(Rq:gF X.env.scope x:=by first|exact Sz rfl|exact Zh (Sz rfl)|exact Zh (Zh rfl))(hd:(x==("__debug__":Str))=false:=by decide)(dz:(x==("__classdict__":Str))=false:=by decide)(aq:swapsWith value (some (.Subscript (.Name x px) e pos')) pos.line X.env=pure false:=by rfl):
  e7 X (.Assign [.Subscript (.Name x px) e pos'] value pos) (Rk b n ju wI):=by
 obtain⟨_,aa,au⟩:=aP;obtain⟨_,ab,aG⟩:=he;refine⟨_,Q5 (b:=b) bF (ic bI Rq hd dz) ab aa aq,fun U ρ z R W B H σ D ev dU=>?_⟩;refine au ρ _ z R W B H σ _ ev fun d v a4 H1 z1 f1 g1 s1=>?_;obtain⟨t,ks,ds,aE,z1⟩:=z1;obtain⟨a,ai,av,bC,_⟩:=f1.ownC aE;refine⟨_,ai,?_⟩;refine aG ρ _ z1 R W a4 H1 σ _ f1 fun y v2 bD aZ aT f2 g2 s2=>?_;obtain⟨aY,rfl,ah,aj,aA⟩:=aT;obtain⟨c,rfl⟩:=Bc s2;obtain⟨ez,aF,aH,bV,br,as,vs,g7,bP,b5,b6,pq⟩:=f2.ownC aE;rw[ai]at aF;cases aF;refine⟨a,c,br,ks,as,vs,aY,rfl,rfl,⟨bP,td f2.bh b6 b5⟩,wG f2.bh ah s2,aj,fun jc=>?_⟩;exact dU.nx _ _ bD _ aA (f2.writeC ai aE ⟨jc,_,_,g7,ei,Rg s2 b5,Rh b6 ah,Rf (s1.mono g2.s) aY pq⟩) (g1.trans g2)
theorem Rr{st:List Stmt}{s:cW}(i:Nat)(h:gM X st s):gM X st (Rn i s):=by
 obtain⟨_,aa,au⟩:=h;refine⟨_,aa,fun U ρ h R W B H σ D e dU=>?_⟩;obtain⟨b,t,ks,ds,aE,z⟩:=h;obtain⟨ax,aU,g⟩:=e.fzD aE;exact au U _ z R W ax H σ D aU (dU.grow g)
theorem Rt{l:Expr}(aj:bq X l nT):lz X bG l (Rm nT):=by
 obtain⟨_,aa,au⟩:=aj;refine⟨_,Rd aa,fun ρ k h R W B H σ Q e q=>?_⟩;refine au ρ _ h R W B H σ _ e fun d v a4 H1 z1 ai g1 s1=>?_;obtain⟨b,ks,ds,rfl,z⟩:=z1;cases s1 with
 | @dct a _ br _ as vs _ ed Bd uV hE =>
  refine⟨b,a,br,ks,as,vs,rfl,ai.bh _ _ ed,q _ _ a4 H1 z ai g1 fun H' wJ i=>⟨fun aB=>⟨wJ _ _ ed,by simpa using aB⟩,fun aB=>⟨wJ _ _ ed,by simpa using aB⟩,fun x aZ aB y=>?_⟩⟩;obtain⟨rfl,c,hc,rfl⟩:=y;obtain⟨d,hd,iv⟩:=Bd.getV (i:=i) (v:=.ref c) (by rw[ZL,hc];rfl);exact⟨rfl,d,hd,iv⟩
end
theorem ti{A:Around}{k:Nat}(ak:eA k A):A.units+4<cLine:=ade (Nat.add_le_add_left (by decide:4<=64) _) ak.units
abbrev tj:=Bool->List (List (List Int))->List D->List D->(List (List (List Int))->List D->Prop)->Prop
def tk(K:PySem.W.Frag)(n:Nat)(F:tj):gH:=fun vs H Q _=>∃(B:ao)(a:Addr)(us:List V)(xs:List D)(b:Bool)(ks:List (List (List Int)))(ds:List D)(k:List (List (List Int))->List D->Prop),
 vs=.ref a::us/\F b ks ds xs k/\xs.length+1=n/\cm B H/\B a=none/\jM K B H a (.d b none ks ds)/\Reps K B us xs /\
 ∀h7 ds' ax H',k h7 ds'->(∀c o,c≠a->H c=some o->H' c=some o)->cm ax H'->cm B ax->(∀c o,ax c=some o->B c=some o∨c=a∨H c=none)->ax a=none->jM K ax H' a (.d b none h7 ds')->Q .non H'
def Ru(m n:Nat)(F:tj)(w:cQ):cW:=fun U ρ=>∃b t ks ds,ρ[m]?=some (.own (.d b t ks ds))/\w ρ fun xs=>xs.length+1=n/\F b ks ds xs fun h7 ds'=>U.nx (ρ.set m (.own (.d b t h7 ds')))
section
variable{K:PySem.W.Frag}
theorem Rv{P:Program}{w:World}{mg:Str->Option Value}{base:Heap}{x:Str}{st:Stmt}{N ps:List Str}{lv n:Nat}{F:tj}(oX:cG K mg x st ps)(S:cK N ps (b4 st))(aN:ps.length=n)(jd:∀(f:Addr) (cdv:Value) (A:Around) (outer:List abd) (s:Shared) (H:ao) (E:fB),eA lv (A.deeper (abP x (b4 st) s.heap.objs.size f cdv))->∃u,gM (kl jg P w K mg base N x (b4 st) f cdv A outer s H E).nox (kn st) u/\∀b t ks ds xs k,xs.length+1=n->F b ks ds xs k->u { nx:=fun ρ=>∃h7 ds',ρ[0]?=some (.own (.d b t h7 ds'))/\k h7 ds',rt:=fun _=>False } (.own (.d b t ks ds)::xs.map aI.val++ZI (N.length-n) .no)):aJ P w K mg base x ps (lv+1) (tk K n F):=by
 refine oX.ok S (fun vs H Q E h=>?_) (fun f cdv A outer s H vs Q E ak h=>?_)
 ·obtain⟨B,a,us,xs,b,ks,ds,k,rfl,_,aj,_,_,_,rs,_⟩:=h;rw[ZC,rs.length,aj,aN]
 ·obtain⟨B,a,us,xs,b,ks,ds,k,rfl,jl,aj,sB,af,hc,rs,q⟩:=h;obtain⟨u,⟨t,bt,rt⟩,bF⟩:=jd f cdv A outer s H E ak;obtain⟨br,as,vs,_,bP,b5,b6,pq⟩:=hc;have hlen:=rs.length;have Be:(fun c=>if c=a then none else H c:ao) a=none:=if_pos rfl;have wK:∀c,c≠a->(fun c=>if c=a then none else H c:ao) c=H c:=fun c z=>if_neg z;generalize EE:(fun c=>if c=a then none else H c:ao)=R at Be wK;have Y9:(xs.map aI.val).length=us.length:=by rw[YL];omega
  have Rw:(L2.start N (.ref a::us))[0]?=some (some (.ref a)):=rfl
  have atS:∀i v,us[i]?=some v->(L2.start N (.ref a::us))[i+1]?=some (some v):=fun i v h=>by
   have lt:i<us.length:=by
    by_cases z:i<us.length
    ·exact z
    ·rw[Z' (by omega)]at h;cases h
   unfold L2.start;rw[aai (by rw[YL,ZC];omega),ZL,adf,h];rfl
  have look:∀(i:Nat)(aY:aI),(aI.own (.d b (some a) ks ds)::xs.map aI.val++ZI (N.length-n) aI.no)[i]?=some aY->(i=0/\aY=.own (.d b (some a) ks ds))∨(∃j d,i=j+1/\xs[j]?=some d/\aY=.val d)∨aY=.no:=fun i aY h=>by
   cases i with
   | zero=>exact .inl ⟨rfl,(ZH h).symm⟩
   | succ j =>
    rw[aah,adf]at h;by_cases z:j<(xs.map aI.val).length
    ·rw[aai z,ZL]at h;cases y:xs[j]? with
     | none=>rw[y]at h;cases h
     | some d=>rw[y]at h;exact .inr (.inl ⟨j,d,rfl,y,(ZH h).symm⟩)
    ·rw[aaf (by omega),aaM]at h;split at h
     ·exact .inr (.inr (ZH h).symm)
     ·cases h
  have ev:Ev K R (fun _=>False) B H (L2.start N (.ref a::us)) (.own (.d b (some a) ks ds)::xs.map aI.val++ZI (N.length-n) .no):=by
   refine⟨⟨fun c o h _=>?_,sB,fun _ z=>z.elim,fun _ z=>z.elim,fun _ z=>z.elim⟩,?_,fun i aY h=>?_,fun i j c bw b3=>?_⟩
   ·by_cases z:c=a
    ·subst z;rw[Be]at h;cases h
    ·rw[wK c z]at h;exact h
   ·unfold L2.start;simp only[Zg,YL,ZC,aaF];omega
   ·rcases look i aY h with⟨rfl,rfl⟩|⟨j,d,rfl,hd,rfl⟩|rfl
    ·exact⟨a,by rw[Rw];rfl,Be,af,br,as,vs,fun c z=>by cases z;rfl,bP,b5,b6,pq⟩
    ·obtain⟨v,aP,cb⟩:=rs.get hd;exact⟨v,by rw[atS j v aP];rfl,cb⟩
    ·trivial
   ·have one:∀i,cX (L2.start N (.ref a::us)) (.own (.d b (some a) ks ds)::xs.map aI.val++ZI (N.length-n) .no) i c->i=0:=fun i m=>by
     rcases m with⟨_,z|⟨_,z⟩⟩|⟨_,z,_⟩
     rotate_right
     ·rcases look i _ z with⟨rfl,y⟩|⟨j,d,rfl,hd,y⟩|y<;>cases y
     ·rcases look i _ z with⟨rfl,y⟩|⟨j,d,rfl,hd,y⟩|y<;>cases y
     ·rcases look i _ z with⟨rfl,y⟩|⟨j,d,rfl,hd,y⟩|y
      ·rfl
      ·cases y
      ·cases y
    rw[one i bw,one j b3]
  refine⟨t,bt,rt _ _ (bF b (some a) ks ds xs k aj jl) R (fun _=>False) B H (L2.start N (.ref a::us)) _ ev ⟨fun ρ σ ax H' h e g=>?_,fun _ _ _ _ h=>h.elim,fun _ _ _ _ h=>h.elim,fun _ _ _ _ h=>h.elim⟩⟩;obtain⟨h7,ds',aE,ah⟩:=h;obtain⟨ez,bN,b1,gX,jc,th,kx,gP,qJ,Bf,Bg,Bh⟩:=e.ownC aE;have dm:a=ez:=gP a rfl;subst dm;refine q h7 ds' ax H' ah (fun c o hc dw=>e.fr c o (by rw[wK c hc];exact dw) fun z=>z) e.bh g.s (fun c o z=>?_) gX ⟨jc,th,kx,(fun _ z=>nomatch z),qJ,Bf,Bg,Bh⟩;rcases g.n c o z with y|y
  ·exact .inl y
  ·by_cases aT:c=a
   ·exact .inr (.inl aT)
   ·rw[wK c aT]at y;exact .inr (.inr y)
end
section
variable{X:aM}{m n:Nat}{x:Str}{px p pos wL:Pos}{e:Expr}{es:List Expr}{F:tj}{w:cQ}
theorem GH{f:Str}{ps:List Str}{j lv:Nat}(m:Nat)(c:aJ X.prog X.w X.K X.mg X.base f ps j (tk X.K n F))(ak:eA lv X.A)(aD:eJ X f)(ay:oU X es w)(bI:X.N[m]?=some x:=by rfl)(aP:gF X.env.scope x:=by first|exact Sz rfl|exact Zh (Sz rfl)|exact Zh (Zh rfl))(hd:(x==("__debug__":Str))=false:=by decide)(dz:(x==("__classdict__":Str))=false:=by decide)(gL:j<=lv:=by decide)(gW:(f==("__debug__":Str))=false:=by decide)(he:starEach (.Name x px::es) X.env=(false,eval (.Name x px) X.env)::starEach es X.env:=by rfl)(e6:(backTo pos (starEach es X.env)).any (·.1)=false:=by rfl)(aq:swapsWith (.Call (.Name f p) (.Name x px::es) [] pos) none wL.line X.env=pure false:=by rfl):
  e7 X (.Expr (.Call (.Name f p) (.Name x px::es) [] pos) wL) (Ru m n F w):=by
 obtain⟨_,aa,au⟩:=ay;refine⟨_,uz (qg c ak aD (er (ic bI aP hd dz) aa he) gL gW he e6) aq,fun U ρ h R W B H σ D ev dU=>?_⟩;obtain⟨b,t,ks,ds,aE,h⟩:=h;obtain⟨a,ai,av,bC,_⟩:=ev.ownC aE;refine⟨_,ai,?_⟩;refine au ρ _ h R W B H σ _ ev fun xs vs a4 H1 z1 f1 g1 s1=>?_;obtain⟨qT,z1⟩:=z1;obtain⟨ez,aF,aH,bV,br,as,us,g7,bP,b5,b6,pq⟩:=f1.ownC aE;rw[ai]at aF;cases aF;show tk X.K n F ((.ref a::vs)++[]) H1 _ _
 rw[ZF];refine⟨a4,a,vs,xs,b,ks,ds,_,rfl,z1,qT,f1.bh,bV,⟨br,as,us,(fun _ z=>nomatch z),bP,b5,b6,pq⟩,s1,fun h7 ds' ax H' ah fr sB s2 jL Rx Ry=>?_⟩;have GI:¬W a:=fun z=>f1.wr a z aH;have bA:cX σ ρ m a:=.inl ⟨ai,.inr ⟨_,aE⟩⟩
 have nb:∀c,c≠a->a4 c=none->H1 c≠none->ax c=none:=fun c hc aa ab=>by
  cases z:ax c with
  | none=>rfl
  | some o =>
   rcases jL c o z with y|y|y
   ·rw[aa]at y;cases y
   ·exact absurd y hc
   ·exact absurd y ab
 have f0:Ev X.K R W a4 H1 (σ.set m (some .non)) (ρ.set m .no):=f1.set m trivial fun _ _ z=>by rcases z with z|⟨_,z⟩<;>cases z
 have wd:Wd R W ax H':=by
  refine⟨fun c o h nw=>fr c o (by rintro rfl;rw[aH]at h;cases h) (f1.fr c o h nw),sB,fun c z=>?_,fun c z=>?_,f1.wr⟩
  ·obtain⟨bE,c3,qU,_⟩:=f1.wh c z;exact nb c (by rintro rfl;exact GI z) (f1.wb c z) (by rw[qU];simp)
  ·obtain⟨bE,c3,qU,mn⟩:=f1.wh c z;exact⟨bE,c3,fr c _ (by rintro rfl;exact GI z) qU,mn⟩
 have keep:∀c,c≠a->H1 c≠none->H' c=H1 c:=fun c hc aN=>by
  cases z:H1 c with
  | none=>exact absurd z aN
  | some o=>exact fr c o hc z
 have f2:Ev X.K R W ax H' (σ.set m (some .non)) (ρ.set m .no):=f0.move wd s2 fun i c f3=>by
  have ne:c≠a:=by
   rintro rfl;obtain⟨jS,f3⟩:=rS f3 (by simp) (by simp) rfl;exact jS (f1.sep i m c f3 bA)
  obtain⟨bE,c3⟩:=f0.mutOk f3;refine⟨nb c ne bE c3,fun z=>?_,fun _=>keep c ne c3⟩;obtain⟨eU,w1,_,_,Rz⟩:=f0.bagAt z;rw[oS f3 z]at w1;cases w1;obtain⟨bK,ew,mL,j0⟩:=Rz;exact⟨bK,ew,by rw[keep c ne c3];exact mL,j0⟩
 obtain⟨jc,th,jn,_,qJ,Bf,Bg,Bh⟩:=Ry
 have bQ:=f2.setC m (c:=.d b t h7 ds') aH Rx ⟨jc,th,jn,g7,qJ,Bf,Bg,Bh⟩ fun j bZ f3=>by
  obtain⟨jS,f3⟩:=rS f3 (by simp) (by simp) rfl;exact jS (f1.sep j m a f3 bA)
 rw[aaZ,aaZ]at bQ
 have q:σ.set m (some (.ref a))=σ:=by
  apply abc;intro j;by_cases z:m=j
  ·subst z
   have lt:m<σ.length:=by
    by_cases z:m<σ.length
    ·exact z
    ·rw[Z' (by omega)]at ai;cases ai
   rw[aaV lt,ai]
  ·rw[aaE z]
 rw[q]at bQ;refine dU.nx _ _ ax H' ah bQ (g1.trans ⟨s2,fun c o z=>?_⟩);rcases jL c o z with y|y|y
 ·exact .inl y
 ·subst y;exact .inr aH
 ·exact .inr (f1.toWd.fresh y).1
end
end L3
namespace Cut
open PySem L2 L3
abbrev eh(ps:List P3):D:=.lst (ps.map dP)
theorem GJ{α β:Type}{f:α->β}{L:List α}{i:Int}(aa : -(L.length:Int)<=i)(ab:i<L.length):∃x∈L,dO (L.map f) i=some (f x):=by
 have e:∃j,L2.ixN (L.map f).length i=some j/\j<L.length:=by
  unfold L2.ixN;rw[YL];by_cases h0:0<=i
  ·rw[if_pos h0,if_pos ab];exact⟨_,rfl,by omega⟩
  ·rw[if_neg h0,if_pos aa];exact⟨_,rfl,by omega⟩
 obtain⟨j,e,bZ⟩:=e;refine⟨L[j],acv _,?_⟩;unfold dO;rw[e];simp[bZ]
end Cut
namespace Cut
open PySem L2 L3
open PySem.Builtin.Int (intBits)
abbrev GK:=List (List P3)
end Cut
namespace Cut
open PySem L2 L3
def dL(p:P3):List Int:=[p.1,p.2.1,p.2.2]
def jv(l:P3):Int:=(Z1 (Z1 l.1.natAbs l.2.1.natAbs) l.2.2.natAbs:Nat)
def kS(l:P3):Prop:=l.1<0∨(l.1=0/\l.2.1<0)
instance(l:P3):Decidable (kS l):=by unfold kS;infer_instance
def gg(l:P3):Int:=if kS l then -jv l else jv l
def g9(l:P3):P3:=(l.1/gg l,l.2.1/gg l,l.2.2/gg l)
theorem GL(l:P3):jv l∣l.1/\jv l∣l.2.1/\jv l∣l.2.2:=by
 unfold jv;refine⟨?_,?_,?_⟩
 ·exact abb.mpr (abN (abt _ _) (abt _ _))
 ·exact abb.mpr (abN (abt _ _) (abM _ _))
 ·exact abb.mpr (abM _ _)
theorem tl(l:P3):gg l∣l.1/\gg l∣l.2.1/\gg l∣l.2.2:=by
 obtain⟨a,b,c⟩:=GL l;unfold gg;split
 ·exact⟨aa9.mpr a,aa9.mpr b,aa9.mpr c⟩
 ·exact⟨a,b,c⟩
theorem RA(c:Int)(l:P3):jv (sc c l)=c.natAbs*jv l:=by
 unfold jv sc;dsimp only;rw[aau,aau,aau,abO,abO,Int.natCast_mul]
theorem RB{c:Int}{l:P3}(hc:c≠0)(aj:l.1≠0∨l.2.1≠0):gg (sc c l)=c*gg l:=by
 have down:kS (sc c l)↔(if 0<c then kS l else ¬kS l):=by
  unfold kS sc;dsimp only;split
  ·rename_i h
   constructor
   ·rintro(z|⟨z,y⟩)
    ·exact .inl (by
      by_cases q:l.1<0
      ·exact q
      ·have:=aac (Z4 h) (show 0<=l.1 by omega)
       omega)
    ·have z:=(aab.mp z).resolve_left hc;refine .inr ⟨z,?_⟩;by_cases q:l.2.1<0
     ·exact q
     ·have:=aac (Z4 h) (show 0<=l.2.1 by omega);omega
   ·rintro(z|⟨z,y⟩)
    ·exact .inl (ZP h z)
    ·exact .inr ⟨by rw[z,ZO],ZP h y⟩
  ·rename_i h
   have h:c<0:=by omega
   constructor
   ·rintro(z|⟨z,y⟩) (q|⟨q,r⟩)
    ·have:=aa3 h q;omega
    ·rw[q,ZO]at z;omega
    ·have z:=(aab.mp z).resolve_left hc;omega
    ·have:=aa3 h r;omega
   ·intro z;have z1:¬l.1<0:=fun q=>z (.inl q);by_cases q:l.1=0
    ·refine .inr ⟨by rw[q,ZO],aaJ h ?_⟩;have aT:¬l.2.1<0:=fun r=>z (.inr ⟨q,r⟩);rcases aj with w|w
     ·exact absurd q w
     ·omega
    ·exact .inl (aaJ h (by omega))
 unfold gg;rw[RA];by_cases h:0<c
 ·rw[if_pos h]at down;have e:((c.natAbs:Nat):Int)=c:=by omega
  by_cases d:kS l
  ·rw[if_pos (down.mpr d),if_pos d,e,abY]
  ·rw[if_neg (fun z=>d (down.mp z)),if_neg d,e]
 ·rw[if_neg h]at down;have e:((c.natAbs:Nat):Int) = -c:=by omega
  by_cases d:kS l
  ·rw[if_neg (fun z=>down.mp z d),if_pos d,e,abY,aba]
  ·rw[if_pos (down.mpr d),if_neg d,e,aba,Int.neg_neg]
theorem wM{l:P3}(aj:l.1≠0∨l.2.1≠0):gg l≠0:=by
 have g:jv l≠0:=fun z=>by
  obtain⟨a,b,_⟩:=GL l;rw[z]at a b;have a:=Int.zero_dvd.mp a;have b:=Int.zero_dvd.mp b;rcases aj with h|h<;>contradiction
 unfold gg;split
 ·omega
 ·exact g
theorem Bi{c x g:Int}(hc:c≠0)(aD:g≠0)(h:g∣x):c*x/(c*g)=x/g:=by
 obtain⟨k,rfl⟩:=h;rw[adg _ aD,<-aaN,adg _ (ZN hc aD)]
theorem n3{c:Int}{l:P3}(hc:c≠0)(aj:l.1≠0∨l.2.1≠0):g9 (sc c l)=g9 l:=by
 obtain⟨a,b,d⟩:=tl l;have g:=wM aj;unfold g9;rw[RB hc aj];unfold sc;dsimp only;rw[Bi hc g a,Bi hc g b,Bi hc g d]
def ea(p q:P3):P3:=g9 (crs p q)
def d1(p q x:P3):List (List Int):=[dL (ea p q),dL x]
def fH(φ:List (List Int)->Int)(p q:P3):Rat:=((φ (d1 p q p):Int):Rat)-((φ (d1 p q q):Int):Rat)
def dd(φ:List (List Int)->Int)(ps:List P3):Rat:=d9 (fH φ) (dc ps)
def e0(φ:List (List Int)->Int)(rs:List (List P3)):Rat:=(rs.map (dd φ)).sum
def fx(rs b9:List (List P3)):Prop:=∀φ,e0 φ rs=e0 φ b9
theorem RC{l w:P3}(aj:l.1≠0∨l.2.1≠0)(hw:w.1≠0∨w.2.1≠0)(h:crs l w=(0,0,0)):g9 l=g9 w:=by
 have aa:l.2.1*w.2.2-l.2.2*w.2.1=0:=congrArg (·.1) h;have ab:l.2.2*w.1-l.1*w.2.2=0:=congrArg (·.2.1) h;have aK:l.1*w.2.1-l.2.1*w.1=0:=congrArg (·.2.2) h;by_cases a:l.1=0
 ·have b:l.2.1≠0:=aj.resolve_left fun z=>z a
  have w1:w.1=0:=by
   rw[a]at aK;have:l.2.1*w.1=0:=by omega
   exact(aab.mp this).resolve_left b
  have c7:w.2.1≠0:=hw.resolve_left fun z=>z w1;have e:sc w.2.1 l=sc l.2.1 w:=ef (by show w.2.1*l.1=l.2.1*w.1;rw[a,w1];simp) (by show w.2.1*l.2.1=l.2.1*w.2.1;rw[ZQ]) (by show w.2.1*l.2.2=l.2.1*w.2.2;grind);rw[<-n3 c7 aj,e,n3 b hw]
 ·have w1:w.1≠0:=fun z=>by
   rw[z]at aK;have:l.1*w.2.1=0:=by omega
   have:=(aab.mp this).resolve_left a;rcases hw with q|q
   ·exact q z
   ·exact q this
  have e:sc w.1 l=sc l.1 w:=ef (by show w.1*l.1=l.1*w.1;rw[ZQ]) (by show w.1*l.2.1=l.1*w.2.1;grind) (by show w.1*l.2.2=l.1*w.2.2;grind);rw[<-n3 w1 aj,e,n3 a hw]
theorem j1{u v:P3}(bF:aS u)(aP:aS v)(h:u≠v):(crs u v).1≠0∨(crs u v).2.1≠0:=by
 by_cases a:(crs u v).1=0
 ·right;intro b;have a:u.2.1*v.2.2-u.2.2*v.2.1=0:=a;have b:u.2.2*v.1-u.1*v.2.2=0:=b;obtain⟨ai,av,bC⟩:=u1 bF aP (by grind) (by grind);exact h (ef ai av bC)
 ·exact .inl a
theorem RD{l u v:P3}(bF:ln l u=0)(aP:ln l v=0):crs l (crs u v)=(0,0,0):=by
 unfold ln at bF aP;refine ef ?_ ?_ ?_<;>simp only[crs]<;>grind
theorem RE{l u v:P3}(aj:l.1≠0∨l.2.1≠0)(bF:aS u)(aP:aS v)(h:u≠v)(r5:ln l u=0)(lv:ln l v=0):ea u v=g9 l:=(RC aj (j1 bF aP h) (RD r5 lv)).symm
theorem RF(u v:P3):crs v u=sc (-1) (crs u v):=by refine ef ?_ ?_ ?_<;>simp only[crs,sc]<;>grind
theorem GN{u v:P3}(bF:aS u)(aP:aS v):ea v u=ea u v:=by
 by_cases h:u=v
 ·rw[h]
 ·unfold ea;rw[RF,n3 (by decide) (j1 bF aP h)]
theorem Bj{s b:Int}{x w:P3}(aq:s≠0)(af:b≠0)(hw:w.1≠0∨w.2.1≠0)(e:sc s x=sc b w):g9 x=g9 w:=by
 obtain⟨ai,av,_⟩:=z9 e
 have aC:x.1≠0∨x.2.1≠0:=by
  rcases hw with h|h
  ·left;intro z;rw[z,ZO]at ai;exact ZN af h ai.symm
  ·right;intro z;rw[z,ZO]at av;exact ZN af h av.symm
 rw[<-n3 aq aC,e,n3 af hw]
theorem wN{p q m:P3}(ag:aS p)(aA:aS q)(h:p≠q)(b:gf p q m):ea p m=ea p q/\ea m q=ea p q:=by
 obtain⟨s,a,c,s0,fE,g7,e⟩:=b;obtain⟨ai,av,bC⟩:s*m.1=a*p.1+c*q.1/\s*m.2.1=a*p.2.1+c*q.2.1/\s*m.2.2=a*p.2.2+c*q.2.2:=⟨congrArg (·.1) e,congrArg (·.2.1) e,congrArg (·.2.2) e⟩;have w:=j1 ag aA h;constructor
 ·refine Bj (s:=s) (b:=c) (by omega) (by omega) w ?_;refine ef ?_ ?_ ?_<;>simp only[crs,sc]<;>grind
 ·refine Bj (s:=s) (b:=a) (by omega) (by omega) w ?_;refine ef ?_ ?_ ?_<;>simp only[crs,sc]<;>grind
section
variable(φ:List (List Int)->Int)(l:P3)
def lT(x:P3):Rat:=((φ [dL (g9 l),dL x]:Int):Rat)
def ha(p q:P3):Rat:=fH φ p q-(lT φ l p-lT φ l q)
end
theorem GO{T1 T2:P3->P3->Rat}:∀(es:List (P3×P3)),d9 (fun p q=>T1 p q-T2 p q) es=d9 T1 es-d9 T2 es
 | []=>by rw[hu,hu,hu];grind
 | e::es=>by rw[gD,gD,gD,GO es];grind
theorem wO{T1 T2:P3->P3->Rat}:∀{es:List (P3×P3)},(∀e∈es,T1 e.1 e.2=T2 e.1 e.2)->d9 T1 es=d9 T2 es
 | [],_=>rfl
 | e::es,h=>by rw[gD,gD,h e Zd,wO fun e he=>h e (Zf _ he)]
theorem RG(h:P3->Rat)(ps:List P3):d9 (fun p q=>h p-h q) (dc ps)=0:=by
 cases ps with
 | nil=>rfl
 | cons a r =>
  have e:bY (bY (0,0,1) (a::r)) (a::r)=bY (0,0,1) (a::r):=qN (by simp);unfold dc;rw[Gf,e];grind
theorem Bk(φ:List (List Int)->Int)(l:P3)(ps:List P3):d9 (ha φ l) (dc ps)=dd φ ps:=by
 unfold ha dd;rw[GO (T1:=fH φ) (T2:=fun p q=>lT φ l p-lT φ l q),RG];grind
theorem Bl(φ:List (List Int)->Int)(u:P3):fH φ u u=0:=by unfold fH;grind
theorem wQ{φ:List (List Int)->Int}{l u v:P3}(aj:l.1≠0∨l.2.1≠0)(bF:aS u)(aP:aS v)(r5:ln l u=0)(lv:ln l v=0):ha φ l u v=0:=by
 by_cases h:u=v
 ·subst h;unfold ha;rw[Bl];grind
 ·unfold ha fH lT d1;rw[RE aj bF aP h r5 lv];grind
section
variable{l o:P3}{ps:List P3}
theorem GP(φ:List (List Int)->Int)(aj:l.1≠0∨l.2.1≠0)(aE:aS o)(lo:ln l o=0)(aP:∀p∈ps,aS p):dd φ (keepR (ln l) (aX l) ps)=d9 (hR (ln l) (aX l) (ha φ l)) (dc ps):=by
 have tm:∀p q,aS p->aS q->ln l p*ln l q<0->aS (aX l p q):=fun p q ag aA c=>by
  rw[<-jr ag aA];exact fg (jt ag aA c)
 have bb:∀u v,aS u->aS v->ln l u=0->ln l v=0->ha φ l u v=0:=fun u v bF aP a b=>wQ aj bF aP a b;unfold keepR;split
 ·rw[<-Bk φ l];exact Gb (V:=aS) bb (fun p q ag aA c=>⟨tm p q ag aA c,qO c⟩) o aE lo aP
 ·rename_i n
  rw[AV (V:=aS) bb fun e he=>?_]
  ·rfl
  ·obtain⟨aa,ab⟩:=jY he;have a:¬0<ln l e.1:=fun z=>n ⟨_,aa,z⟩;have b:¬0<ln l e.2:=fun z=>n ⟨_,ab,z⟩;exact⟨aP _ aa,aP _ ab,by omega,by omega⟩
theorem GQ(φ:List (List Int)->Int)(aj:l.1≠0∨l.2.1≠0)(aE:aS o)(lo:ln l o=0)(aP:∀p∈ps,aS p):dd φ (keepR (fun c => -ln l c) (aX l) ps)=d9 (hR (fun c => -ln l c) (aX l) (ha φ l)) (dc ps):=by
 have tm:∀p q,aS p->aS q->ln l p*ln l q<0->aS (aX l p q):=fun p q ag aA c=>by
  rw[<-jr ag aA];exact fg (jt ag aA c)
 have bb:∀u v,aS u->aS v -> -ln l u=0 -> -ln l v=0->ha φ l u v=0:=fun u v bF aP a b=>wQ aj bF aP (by omega) (by omega);unfold keepR;split
 ·rw[<-Bk φ l];refine Gb (f:=fun c => -ln l c) (V:=aS) bb (fun p q ag aA c=>?_) o aE (by show -ln l o=0;omega) aP;have c:ln l p*ln l q<0:=by rw[aay]at c;exact c
  exact⟨tm p q ag aA c,by show -ln l (aX l p q)=0;rw[qO c];rfl⟩
 ·rename_i n
  rw[AV (f:=fun c => -ln l c) (V:=aS) bb fun e he=>?_]
  ·rfl
  ·obtain⟨aa,ab⟩:=jY he;have a:¬0 < -ln l e.1:=fun z=>n ⟨_,aa,z⟩;have b:¬0 < -ln l e.2:=fun z=>n ⟨_,ab,z⟩;exact⟨aP _ aa,aP _ ab,by show -ln l e.1<=0;omega,by show -ln l e.2<=0;omega⟩
theorem Bm{p q:P3}(c:ln l p*ln l q<0):p≠q:=by
 rintro rfl
 have:0<=ln l p*ln l p:=by
  rcases Int.le_total 0 (ln l p)with h|h
  ·exact aac h h
  ·exact abW h h
 omega
theorem RH{φ:List (List Int)->Int}{p q m:P3}(ag:aS p)(aA:aS q)(h:p≠q)(b:gf p q m):ha φ l p m+ha φ l m q=ha φ l p q:=by
 obtain⟨ai,av⟩:=wN ag aA h b;unfold ha fH d1;rw[ai,av];grind
theorem wR(φ:List (List Int)->Int)(aj:l.1≠0∨l.2.1≠0)(aE:aS o)(lo:ln l o=0)(aP:∀p∈ps,aS p):dd φ (keepR (ln l) (aX l) ps)+dd φ (keepR (fun c => -ln l c) (aX l) ps)=dd φ ps:=by
 rw[GP φ aj aE lo aP,GQ φ aj aE lo aP,<-Bk φ l];refine Gd fun e he=>?_;obtain⟨aa,ab⟩:=jY he;exact Qx (V:=aS) (fun u v bF aP a b=>wQ aj bF aP a b) (aP _ aa) (aP _ ab) fun c=>RH (aP _ aa) (aP _ ab) (Bm c) (pj c)
end
def i5:List Int->P3
 | [a,b,c]=>(a,b,c)
 | _=>(0,0,0)
theorem wU(p:P3):i5 (dL p)=p:=rfl
def j2(s:Int)(φ:List (List Int)->Int)(l:P3):List (List Int)->Int
 | [k,x]=>if 0<s*ln l (i5 x)then φ [k,x]-φ [dL (g9 l),x]-(φ [k,dL (nP (crs l (i5 k)))]-φ [dL (g9 l),dL (nP (crs l (i5 k)))])else 0
 | _=>0
theorem Bn{l p q:P3}(ag:aS p)(aA:aS q)(h:p≠q)(aN:(crs l (crs p q)).2.2≠0):nP (crs l (ea p q))=nP (crs l (crs p q)):=by
 have w:=j1 ag aA h;have g:=wM w;obtain⟨bN,b1,gX⟩:=tl (crs p q)
 have e:crs p q=sc (gg (crs p q)) (ea p q):=by
  unfold ea g9 sc;refine ef ?_ ?_ ?_
  ·exact(abi bN).symm
  ·exact(abi b1).symm
  ·exact(abi gX).symm
 have av:crs l (crs p q)=sc (gg (crs p q)) (crs l (ea p q)):=by
  conv=>lhs;rw[e]
  refine ef ?_ ?_ ?_<;>simp only[crs,sc]<;>grind
 have pt:=fg aN;obtain⟨c,g7,hc⟩:=i0 aN;exact(qD (M:=crs l (ea p q)) (h:=nP (crs l (crs p q))) g g7 pt (by rw[<-av];exact hc)).2
theorem GR{l p q:P3}(ag:aS p)(aA:aS q)(mH:ln l p≠0)(jZ:ln l q=0):nP (crs l (ea p q))=q/\nP (crs l (ea q p))=q:=by
 have ne:p≠q:=by rintro rfl;exact mH jZ
 have e:crs l (crs p q)=sc (-ln l p) q:=by
  unfold ln at jZ ⊢;refine ef ?_ ?_ ?_<;>simp only[crs,sc]<;>grind
 have lP:=aA.1
 have aN:(crs l (crs p q)).2.2≠0:=by
  rw[e];exact ZN (by omega) (by omega)
 have a:nP (crs l (ea p q))=q:=by
  rw[Bn ag aA ne aN];exact(qD (M:=crs l (crs p q)) (G:=1) (c :=-ln l p) (by decide) (by omega) aA (by rw[e];unfold sc;simp)).2
 exact⟨a,by rw[GN ag aA];exact a⟩
theorem wV(a b:Int):((a-b:Int):Rat)=(a:Rat)-(b:Rat):=by grind
section
variable{l:P3}{φ:List (List Int)->Int}
theorem wW{s:Int}{k:List Int}{x:P3}(h:0<s*ln l x):((j2 s φ l [k,dL x]:Int):Rat)=((φ [k,dL x]:Int):Rat)-lT φ l x-(((φ [k,dL (nP (crs l (i5 k)))]:Int):Rat)-lT φ l (nP (crs l (i5 k)))):=by
 have e:j2 s φ l [k,dL x]=φ [k,dL x]-φ [dL (g9 l),dL x]-(φ [k,dL (nP (crs l (i5 k)))]-φ [dL (g9 l),dL (nP (crs l (i5 k)))]):=by
  show(if 0<s*ln l x then _ else _)=_
  rw[if_pos h]
 rw[e,wV,wV,wV];rfl
theorem pv{s:Int}{k:List Int}{x:P3}(h:¬0<s*ln l x):((j2 s φ l [k,dL x]:Int):Rat)=0:=by
 have e:j2 s φ l [k,dL x]=0:=by
  show(if 0<s*ln l x then _ else _)=_
  rw[if_neg h]
 rw[e];rfl
theorem GS(aj:l.1≠0∨l.2.1≠0){p q:P3}(ag:aS p)(aA:aS q){s:Int}(aq:s=1∨s = -1):hR (fun c=>s*ln l c) (aX l) (ha φ l) p q=fH (j2 s φ l) p q:=by
 have wX:∀a b:Int,(s*a)*(s*b)=a*b:=fun a b=>by rcases aq with rfl|rfl<;>grind
 unfold hR;dsimp only;rw[wX];have s0:∀x:Int,s*x=0->x=0:=fun x h=>by rcases aq with rfl|rfl<;>omega
 have key:fH (j2 s φ l) p q=((j2 s φ l [dL (ea p q),dL p]:Int):Rat)-((j2 s φ l [dL (ea p q),dL q]:Int):Rat):=rfl;rw[key];rcases aax (s*ln l p) 0 with a|a|a
 ·rw[if_neg (show ¬0<=s*ln l p by omega),pv (show ¬0<s*ln l p by omega)];by_cases b:0<s*ln l q
  ·have c:ln l p*ln l q<0:=by rw[<-wX];exact aaJ a b
   have ne:=Bm c;obtain⟨ai,av⟩:=wN ag aA ne (pj c);have em:nP (crs l (i5 (dL (ea p q))))=aX l p q:=by rw[wU,Bn ag aA ne (jt ag aA c),jr ag aA]
   rw[if_pos c,wW b,em];unfold ha fH d1;rw[av];grind
  ·have c:¬ln l p*ln l q<0:=by rw[<-wX];have:=abW (show s*ln l p<=0 by omega) (show s*ln l q<=0 by omega);omega
   rw[if_neg c,pv b];grind
 ·have mH:=s0 _ a;have c:¬ln l p*ln l q<0:=by rw[mH,aaw];omega
  rw[if_pos (show 0<=s*ln l p by omega),pv (show ¬0<s*ln l p by omega),if_neg c];rcases aax (s*ln l q) 0 with b|b|b
  ·rw[if_neg (show ¬0<=s*ln l q by omega),pv (show ¬0<s*ln l q by omega)];grind
  ·rw[if_pos (show 0<=s*ln l q by omega),pv (show ¬0<s*ln l q by omega),wQ aj ag aA mH (s0 _ b)];grind
  ·have jZ:ln l q≠0:=fun z=>by rw[z,ZO]at b;omega
   have em:nP (crs l (i5 (dL (ea p q))))=p:=by rw[wU];exact(GR aA ag jZ mH).2
   rw[if_pos (show 0<=s*ln l q by omega),wW b,em];unfold ha fH d1;grind
 ·have mH:ln l p≠0:=fun z=>by rw[z,ZO]at a;omega
  rw[if_pos (show 0<=s*ln l p by omega),wW a];rcases aax (s*ln l q) 0 with b|b|b
  ·have c:ln l p*ln l q<0:=by rw[<-wX];exact ZP a b
   have ne:=Bm c;obtain⟨ai,av⟩:=wN ag aA ne (pj c);have em:nP (crs l (i5 (dL (ea p q))))=aX l p q:=by rw[wU,Bn ag aA ne (jt ag aA c),jr ag aA]
   rw[if_neg (show ¬0<=s*ln l q by omega),if_pos c,pv (show ¬0<s*ln l q by omega),em];unfold ha fH d1;rw[ai];grind
  ·have em:nP (crs l (i5 (dL (ea p q))))=q:=by rw[wU];exact(GR ag aA mH (s0 _ b)).1
   rw[if_pos (show 0<=s*ln l q by omega),pv (show ¬0<s*ln l q by omega),em];unfold ha fH d1;grind
  ·rw[if_pos (show 0<=s*ln l q by omega),wW b];unfold ha fH d1;grind
theorem GU{o:P3}{ps:List P3}(aj:l.1≠0∨l.2.1≠0)(aE:aS o)(lo:ln l o=0)(aP:∀p∈ps,aS p):dd φ (keepR (ln l) (aX l) ps)=dd (j2 1 φ l) ps/\dd φ (keepR (fun c => -ln l c) (aX l) ps)=dd (j2 (-1) φ l) ps:=by
 rw[GP φ aj aE lo aP,GQ φ aj aE lo aP];constructor
 ·refine wO fun e he=>?_;obtain⟨aa,ab⟩:=jY he;have:=GS (φ:=φ) aj (aP _ aa) (aP _ ab) (s:=1) (.inl rfl);rw[<-this];congr 1;funext c;rw[acC]
 ·refine wO fun e he=>?_;obtain⟨aa,ab⟩:=jY he;have:=GS (φ:=φ) aj (aP _ aa) (aP _ ab) (s :=-1) (.inr rfl);rw[<-this];congr 1;funext c;rw[Int.neg_one_mul]
end
theorem fx.keep{l o:P3}{rs b9:List (List P3)}(h:fx rs b9)(aj:l.1≠0∨l.2.1≠0)(aE:aS o)(lo:ln l o=0)(ak:∀ps∈rs,∀p∈ps,aS p)(aA:∀ps∈b9,∀p∈ps,aS p):
  fx (rs.map (keepR (ln l) (aX l))) (b9.map (keepR (ln l) (aX l)))/\fx (rs.map (keepR (fun c => -ln l c) (aX l))) (b9.map (keepR (fun c => -ln l c) (aX l))):=by
 have one:∀(L:List (List P3)) φ,(∀ps∈L,∀p∈ps,aS p)->e0 φ (L.map (keepR (ln l) (aX l)))=e0 (j2 1 φ l) L:=fun L φ eT=>by
  unfold e0;rw[ZV];congr 1;exact aaK fun ps ag=>(GU aj aE lo (eT ps ag)).1
 have two:∀(L:List (List P3)) φ,(∀ps∈L,∀p∈ps,aS p)->e0 φ (L.map (keepR (fun c => -ln l c) (aX l)))=e0 (j2 (-1) φ l) L:=fun L φ eT=>by
  unfold e0;rw[ZV];congr 1;exact aaK fun ps ag=>(GU aj aE lo (eT ps ag)).2
 exact⟨fun φ=>by rw[one rs φ ak,one b9 φ aA];exact h _,fun φ=>by rw[two rs φ ak,two b9 φ aA];exact h _⟩
theorem GV(m:P3->P3):∀(z:P3)(L:List P3),cS (m z) (L.map m)=(cS z L).map fun e=>(m e.1,m e.2)
 | _,[]=>rfl
 | z,p::L=>by
  show(m z,m p)::cS (m p) (L.map m)=_
  rw[GV m p L];rfl
theorem GW(m:P3->P3):∀(z:P3)(L:List P3),bY (m z) (L.map m)=m (bY z L)
 | _,[]=>rfl
 | z,p::L=>GW m p L
theorem Bo(m:P3->P3)(ps:List P3):dc (ps.map m)=(dc ps).map fun e=>(m e.1,m e.2):=by
 cases ps with
 | nil=>rfl
 | cons a r =>
  unfold dc
  have e:bY (0,0,1) ((a::r).map m)=m (bY (0,0,1) (a::r)):=by
   rw[<-GW m (0,0,1) (a::r)];exact qN (by simp)
  rw[e,GV]
theorem RI{T:P3->P3->Rat}(m:P3->P3)(es:List (P3×P3)):d9 T (es.map fun e=>(m e.1,m e.2))=d9 (fun p q=>T (m p) (m q)) es:=by
 unfold d9;rw[ZV];rfl
structure jw (m A:P3->P3):Prop where
 lin:∀c l,A (sc c l)=sc c (A l)
 ne:∀l:P3,(l.1≠0∨l.2.1≠0)->(A l).1≠0∨(A l).2.1≠0
 pt:∀p,aS p->aS (m p)
 ln:∀p q,aS p->aS q->∃g h:Int,g≠0/\h≠0/\sc g (crs (m p) (m q))=sc h (A (crs p q))
def Bp(m A:P3->P3)(φ:List (List Int)->Int):List (List Int)->Int
 | [k,x]=>φ [dL (g9 (A (i5 k))),dL (m (i5 x))]
 | _=>0
theorem GX{p q:P3}:crs p q=sc (gg (crs p q)) (ea p q):=by
 obtain⟨bN,b1,gX⟩:=tl (crs p q);unfold ea g9 sc;refine ef ?_ ?_ ?_
 ·exact(abi bN).symm
 ·exact(abi b1).symm
 ·exact(abi gX).symm
theorem RJ{p q:P3}(ag:aS p)(aA:aS q)(h:p≠q):(ea p q).1≠0∨(ea p q).2.1≠0:=by
 have w:=j1 ag aA h;rw[GX]at w;rcases w with w|w
 ·exact .inl fun z=>w (by show _*(ea p q).1=0;rw[z,ZO])
 ·exact .inr fun z=>w (by show _*(ea p q).2.1=0;rw[z,ZO])
theorem jw.line{m A:P3->P3}(M:jw m A){p q:P3}(ag:aS p)(aA:aS q)(h:p≠q):ea (m p) (m q)=g9 (A (ea p q)):=by
 obtain⟨g,c,a7,g7,e⟩:=M.ln p q ag aA;have w:=j1 ag aA h;have ai:ea (m p) (m q)=g9 (A (crs p q)):=Bj a7 g7 (M.ne _ w) e;rw[ai]
 conv=>lhs;rw[GX,M.lin]
 exact n3 (wM w) (M.ne _ (RJ ag aA h))
theorem jw.side{m A:P3->P3}(M:jw m A)(φ:List (List Int)->Int){p q:P3}(ag:aS p)(aA:aS q):fH φ (m p) (m q)=fH (Bp m A φ) p q:=by
 by_cases h:p=q
 ·subst h;rw[Bl,Bl]
 ·unfold fH d1;rw[M.line ag aA h];rfl
theorem jw.ring{m A:P3->P3}(M:jw m A)(φ:List (List Int)->Int){ps:List P3}(aP:∀p∈ps,aS p):dd φ (ps.map m)=dd (Bp m A φ) ps:=by
 unfold dd;rw[Bo,RI];refine wO fun e he=>?_;obtain⟨aa,ab⟩:=jY he;exact M.side φ (aP _ aa) (aP _ ab)
theorem jw.bal{m A:P3->P3}(M:jw m A){rs b9:List (List P3)}(h:fx rs b9)(ak:∀ps∈rs,∀p∈ps,aS p)(aA:∀ps∈b9,∀p∈ps,aS p):fx (rs.map fun ps=>ps.map m) (b9.map fun ps=>ps.map m):=fun φ=>by
 have one:∀(L:List (List P3)),(∀ps∈L,∀p∈ps,aS p)->e0 φ (L.map fun ps=>ps.map m)=e0 (Bp m A φ) L:=fun L eT=>by
  unfold e0;rw[ZV];congr 1;exact aaK fun ps ag=>M.ring φ (eT ps ag)
 rw[one rs ak,one b9 aA];exact h _
def slA(v l:P3):P3:=(l.1*v.2.2,l.2.1*v.2.2,l.2.2*v.2.2-l.1*v.1-l.2.1*v.2.1)
def qV(l:P3):P3:=(-l.1,-l.2.1,l.2.2)
theorem Bq{v:P3}(aP:0<v.2.2):jw (fun p=>nP (sld v p)) (slA v):=by
 refine⟨fun c l=>?_,fun l h=>?_,fun p ag=>fg ?_,fun p q ag aA=>?_⟩
 ·refine ef ?_ ?_ ?_<;>simp only[slA,sc]<;>grind
 ·rcases h with h|h
  ·exact .inl (ZN h (by omega))
  ·exact .inr (ZN h (by omega))
 ·have:=ag.1;show p.2.2*v.2.2≠0
  exact ZN (by omega) (by omega)
 ·have cc:(sld v p).2.2≠0:=ZN (by have:=ag.1;omega) (by omega);have dk:(sld v q).2.2≠0:=ZN (by have:=aA.1;omega) (by omega);obtain⟨g1,z1,ai⟩:=i0 cc;obtain⟨g2,aT,av⟩:=i0 dk;refine⟨g1*g2,v.2.2,ZN z1 aT,by omega,?_⟩;rw[<-z',<-ai,<-av];refine ef ?_ ?_ ?_<;>simp only[crs,sc,slA,sld]<;>grind
theorem pw:jw trn qV:=by
 refine⟨fun c l=>?_,fun l h=>?_,fun p ag=>zz ag,fun p q ag aA=>⟨1,1,by decide,by decide,?_⟩⟩
 ·refine ef ?_ ?_ ?_<;>simp only[qV,sc]<;>grind
 ·rcases h with h|h
  ·exact .inl (by show -l.1≠0;omega)
  ·exact .inr (by show -l.2.1≠0;omega)
 ·refine ef ?_ ?_ ?_<;>simp only[crs,sc,qV,trn]<;>grind
theorem Br(φ:List (List Int)->Int)(a:P3)(r:List P3):dd φ (r++[a])=dd φ (a::r):=by
 unfold dd;rw[<-AS]
 have e:dc (r++[a])=cS a (r++[a]):=by
  unfold dc;rw[nX];rfl
 rw[e]
end Cut
namespace Cut
open PySem L2 L3
open PySem.Builtin.Int (intBits)
theorem RK{ps:List P3}{i:Nat}(h:i<ps.length):∃p q,p∈ps/\q∈ps/\dO (ps.map dP) ((i:Int)-1)=some (dP p)/\dO (ps.map dP) (i:Int)=some (dP q)/\(p,q)∈dc ps/\(dc ps).take (i+1)=(dc ps).take i++[(p,q)]:=by
 obtain⟨p,mp,ag⟩:=GJ (f:=id) (L:=ps) (i:=(i:Int)-1) (by omega) (by omega);obtain⟨q,Bs,aA⟩:=GJ (f:=id) (L:=ps) (i:=(i:Int)) (by omega) (by omega);rw[List.map_id]at ag aA;have ai:bz ps ((i+ps.length-1)%ps.length)=p:=ES (ZH ((Fn h).symm.trans (so ag)));have av:bz ps i=q:=ES (ZH ((lL h).symm.trans (so aA)));have wY:(dc ps).take (i+1)=(dc ps).take i++[(p,q)]:=by rw[QA h,ai,av]
 exact⟨p,q,mp,Bs,so ag,so aA,acD (i:=i+1) (by rw[wY];simp),wY⟩
theorem GY{α:Type}(k:List (List Int))(x:α):∀{ks:List (List (List Int))}{ds:List α}(key:List (List Int)),ds.length=ks.length->cg (fG ks k) (fW ks ds k x) key=if key=k then some x else cg ks ds key:=by
 have ir:∀{ks:List (List (List Int))}{ds:List α}(key:List (List Int)),ds.length=ks.length->cg ks (fb ks ds k x) key=if key=k/\k∈ks then some x else cg ks ds key:=by
  intro ks;induction ks with
  | nil=>intro ds key h;simp[cg]
  | cons k' ks c0 =>
   intro ds key h;cases ds with
   | nil=>simp at h
   | cons d ds =>
    have c0:=c0 (ds:=ds) key (by simpa using h);rw[fb,cg,cg];by_cases e:k'=key
    ·rw[if_pos e,if_pos e];by_cases av:k'=k
     ·rw[if_pos av,if_pos ⟨by rw[<-e,av],by rw[av];simp⟩]
     ·rw[if_neg av,if_neg (fun z=>av (e.trans z.1))]
    ·rw[if_neg e,if_neg e,c0];by_cases z:key=k/\k∈ks
     ·rw[if_pos z,if_pos ⟨z.1,Zf _ z.2⟩]
     ·rw[if_neg z,if_neg (fun y=>z ⟨y.1,by
       rcases ZA.mp y.2 with q|q
       ·exact absurd (q.symm.trans y.1.symm) e
       ·exact q⟩)]
 have ap:∀{ks:List (List (List Int))}{ds:List α}(key:List (List Int)),ds.length=ks.length->cg (ks++[k]) (ds++[x]) key=(cg ks ds key).or (if k=key then some x else none):=by
  intro ks;induction ks with
  | nil =>
   intro ds key h;cases ds with
   | nil=>simp[cg]
   | cons d ds=>simp at h
  | cons k' ks c0 =>
   intro ds key h;cases ds with
   | nil=>simp at h
   | cons d ds =>
    have c0:=c0 (ds:=ds) key (by simpa using h);rw[aah,aah,cg,cg];by_cases e:k'=key
    ·rw[if_pos e,if_pos e];rfl
    ·rw[if_neg e,if_neg e,c0]
 intro ks ds key h;unfold fG fW;by_cases m:k∈ks
 ·rw[if_pos m,if_pos m,ir key h];by_cases e:key=k
  ·rw[if_pos ⟨e,m⟩,if_pos e]
  ·rw[if_neg (fun z=>e z.1),if_neg e]
 ·rw[if_neg m,if_neg m,ap key h];by_cases e:key=k
  ·subst e;rw[(s8 h).mpr m,if_pos rfl];rfl
  ·rw[if_neg e,if_neg (fun z=>e z.symm)];cases cg ks ds key<;>rfl
theorem GZ{α:Type}{k:List (List Int)}{x:α}{ks:List (List (List Int))}{ds:List α}(h:ds.length=ks.length):(fW ks ds k x).length=(fG ks k).length/\(fG ks k).length<=ks.length+1:=by
 unfold fG fW;by_cases m:k∈ks
 ·rw[if_pos m,if_pos m,A4];exact⟨h,by omega⟩
 ·rw[if_neg m,if_neg m,Zg,Zg,h];exact⟨rfl,YK _⟩
theorem Bt{α β:Type}(f:α->β):∀(ks:List (List (List Int)))(ds:List α)(key:List (List Int)),cg ks (ds.map f) key=(cg ks ds key).map f
 | [],_,_=>by simp[cg]
 | _::_,[],_=>by simp[cg]
 | k'::ks,d::ds,key=>by
  rw[ZE,cg,cg];by_cases e:k'=key
  ·rw[if_pos e,if_pos e];rfl
  ·rw[if_neg e,if_neg e,Bt f ks ds key]
theorem G0{α β:Type}(f:α->β)(k:List (List Int))(x:α)(ks:List (List (List Int)))(ds:List α):(fW ks ds k x).map f=fW ks (ds.map f) k (f x):=by
 have ir:∀(ks:List (List (List Int)))(ds:List α),(fb ks ds k x).map f=fb ks (ds.map f) k (f x):=by
  intro ks;induction ks with
  | nil=>intro ds;simp[fb]
  | cons k' ks c0 =>
   intro ds;cases ds with
   | nil=>simp[fb]
   | cons d ds =>
    rw[fb,ZE,c0,ZE,fb];by_cases e:k'=k
    ·rw[if_pos e,if_pos e]
    ·rw[if_neg e,if_neg e]
 unfold fW;by_cases m:k∈ks
 ·rw[if_pos m,if_pos m,ir]
 ·rw[if_neg m,if_neg m,ZD];rfl
def tn(key:List (List Int))(e:P3×P3):Int:=(if key=d1 e.1 e.2 e.1 then 1 else 0)-(if key=d1 e.1 e.2 e.2 then 1 else 0)
def n4(key:List (List Int))(es:List (P3×P3)):Int:=(es.map (tn key)).sum
def n5(key:List (List Int))(rs:List (List P3)):Int:=(rs.map fun ps=>n4 key (dc ps)).sum
theorem Bu:∀(l:List Int),((l.sum:Int):Rat)=(l.map fun x:Int=>(x:Rat)).sum
 | []=>by simp
 | a::l=>by
  rw[Z3,ZE,Z3,<-Bu l];grind
theorem RL{rs b9:List (List P3)}(h:fx rs b9)(key:List (List Int)):n5 key rs=n5 key b9:=by
 have one:∀L:List (List P3),((n5 key L:Int):Rat)=e0 (fun k=>if key=k then 1 else 0) L:=fun L=>by
  unfold n5 e0;rw[Bu,ZV];congr 1;refine aaK fun ps _=>?_;show((n4 key (dc ps):Int):Rat)=_
  unfold n4 dd d9;rw[Bu,ZV];congr 1;refine aaK fun e _=>?_;show((tn key e:Int):Rat)=_
  unfold tn fH;rw[wV]
 have:=h (fun k=>if key=k then 1 else 0);rw[<-one,<-one]at this;exact_mod_cast this
def mM(ps:List P3):Prop:=ps.length<=75/\(∀e∈dc ps,(crs e.1 e.2).1≠0∨(crs e.1 e.2).2.1≠0)/\∀p∈ps,cj 4000 p
theorem G1{g x:Int}{n:Nat}(h:g∣x)(x0:x≠0)(b:intBits x<=n):intBits g<=n:=by
 refine intBits_le_iff.mpr (ade ?_ (intBits_le_iff.mp b));exact ack (by omega) (abu.mpr h)
theorem RM{l:P3}{n:Nat}(a9:intBits l.1<=n)(ba:intBits l.2.1<=n)(w:l.1≠0∨l.2.1≠0):intBits (gg l)<=n:=by
 obtain⟨bN,b1,_⟩:=tl l;rcases w with h|h
 ·exact G1 bN h a9
 ·exact G1 b1 h ba
theorem G2(ks:List (List (List Int)))(vs:List Int)(key:List (List Int)):(cg ks (vs.map D.int) key).getD (.int 0)=.int ((cg ks vs key).getD 0):=by
 rw[Bt];cases cg ks vs key<;>rfl
def iF(p q:P3)(t:Int):P3:=cx (p.1*q.2.2*(3-t)+q.1*p.2.2*t) (p.2.1*q.2.2*(3-t)+q.2.1*p.2.2*t) (p.2.2*q.2.2*3)
theorem RN{ps:List P3}{k:Nat}(h:k<ps.length)(ab:2<=ps.length):dO (ps.map dP) ((k:Int)-2)=some (dP (bz ps ((k+ps.length-2)%ps.length))):=by
 by_cases z:2<=k
 ·have e:(k+ps.length-2)%ps.length=k-2:=by
   rw[show k+ps.length-2=(k-2)+ps.length by omega,abf,ZW (by omega)]
  rw[e,show((k:Int)-2)=((k-2:Nat):Int) by omega];exact lL (by omega)
 ·have e:(k+ps.length-2)%ps.length=k+ps.length-2:=ZW (by omega);rw[e,kI (by omega)];unfold dO ixN;rw[if_neg (by omega),if_pos (by rw[YL];omega)];show(ps.map dP)[_]?=_
  rw[ZL,YL,show((k:Int)-2+(ps.length:Int)).toNat=k+ps.length-2 by omega,ZT (by omega)];rfl
theorem G3{x:Int}(h:sg x=1):0<x:=by
 unfold sg at h;split at h
 ·assumption
 ·split at h<;>omega
theorem eP.turn{ps:List P3}(h:eP ps){k:Nat}(ah:k<ps.length):0<bc (bz ps ((k+ps.length-2)%ps.length)) (bz ps ((k+ps.length-1)%ps.length)) (bz ps k):=by
 have e9:=h.1
 have e:((k+ps.length-2)%ps.length+1)%ps.length=(k+ps.length-1)%ps.length:=by
  rw[Nat.mod_add_mod];congr 1;omega
 have kT:∀d,0<d->d<ps.length->k≠(k+ps.length-d)%ps.length:=fun d gP bN z=>by
  by_cases y:d<=k
  ·rw[show k+ps.length-d=(k-d)+ps.length by omega,abf,ZW (by omega)]at z;omega
  ·rw[ZW (by omega)]at z;omega
 have:=h.2 ((k+ps.length-2)%ps.length) k (aa1 _ (by omega)) ah (kT 2 (by decide) (by omega)) (by rw[e];exact kT 1 (by decide) (by omega));rw[e]at this;exact G3 this
theorem RO(p q r:P3):bc p q r=bc q r p:=by unfold bc crs;grind
theorem eP.fan{ps:List P3}(h:eP ps){k:Nat}(cC:0<k)(ah:k+1<ps.length):0<bc (bz ps 0) (bz ps k) (bz ps (k+1)):=by
 have:=h.2 k 0 (by omega) (by omega) (by omega) (by rw[ZW ah];omega);rw[ZW ah]at this;rw[RO];exact G3 this
theorem RP{p s:P3}(ag:aS p)(aq:aS s)(lj:Bool):cx ((1-2*(if lj then 1 else 0))*(p.1*s.2.2-s.1*p.2.2)) ((1-2*(if lj then 1 else 0))*(p.2.1*s.2.2-s.2.1*p.2.2)) (p.2.2*s.2.2)=if lj=true then trn (nP (sld (trn s) p))else nP (sld (trn s) p):=by
 have e:sld (trn s) p=(p.1*s.2.2-s.1*p.2.2,p.2.1*s.2.2-s.2.1*p.2.2,p.2.2*s.2.2):=by
  refine ef ?_ ?_ ?_<;>simp only[sld,trn]<;>grind
 have cR:(sld (trn s) p).2.2≠0:=by
  rw[e];exact ZN (YM ag.1) (YM aq.1)
 cases lj with
 | false =>
  simp only[aan,if_false,ZO,acE,acC];unfold nP;rw[e]
 | true =>
  simp only[if_true];obtain⟨g,a7,aD⟩:=i0 cR;refine(qD (M:=((1-2*1)*(p.1*s.2.2-s.1*p.2.2),(1-2*1)*(p.2.1*s.2.2-s.2.1*p.2.2),p.2.2*s.2.2)) (h:=trn (nP (sld (trn s) p))) (G:=1) (c:=g) (by decide) a7 (zz (fg cR)) ?_).2;rw[e]at aD ⊢;obtain⟨aa,ab,aK⟩:p.1*s.2.2-s.1*p.2.2=g*(nP (p.1*s.2.2-s.1*p.2.2,p.2.1*s.2.2-s.2.1*p.2.2,p.2.2*s.2.2)).1/\p.2.1*s.2.2-s.2.1*p.2.2=g*(nP (p.1*s.2.2-s.1*p.2.2,p.2.1*s.2.2-s.2.1*p.2.2,p.2.2*s.2.2)).2.1/\p.2.2*s.2.2=g*(nP (p.1*s.2.2-s.1*p.2.2,p.2.1*s.2.2-s.2.1*p.2.2,p.2.2*s.2.2)).2.2:=⟨congrArg (·.1) aD,congrArg (·.2.1) aD,congrArg (·.2.2) aD⟩;refine ef ?_ ?_ ?_
  ·show 1*((1-2*1)*(p.1*s.2.2-s.1*p.2.2))=g * -(nP _).1;grind
  ·show 1*((1-2*1)*(p.2.1*s.2.2-s.2.1*p.2.2))=g * -(nP _).2.1;grind
  ·show 1*(p.2.2*s.2.2)=g*(nP _).2.2;grind
theorem n6(s:Piece):fa s=s.1.map fun p=>if s.2.1=true then trn (nP (sld (trn s.2.2) p))else nP (sld (trn s.2.2) p):=by
 unfold fa;by_cases h:s.2.1=true
 ·rw[if_pos h,ZV];refine aaK fun p _=>?_;rw[if_pos h];rfl
 ·rw[if_neg h];refine aaK fun p _=>?_;rw[if_neg h]
theorem G4(a p:P3):bc a p p=0:=by unfold bc crs;grind
theorem eP.side{ps:List P3}(h:eP ps){p q:P3}(ik:(p,q)∈dc ps):p≠q:=by
 rw[wt]at ik;obtain⟨i,aB,e⟩:=ZJ.mp ik;have aB:=aar.mp aB;have t:=h.turn aB;obtain⟨rfl,rfl⟩:=Prod.mk.inj e;intro z;rw[z,G4]at t;omega
theorem jw.rg{m A:P3->P3}(M:jw m A){ps:List P3}(aP:∀p∈ps,aS p)(he:∀e∈dc ps,(crs e.1 e.2).1≠0∨(crs e.1 e.2).2.1≠0):∀e∈dc (ps.map m),(crs e.1 e.2).1≠0∨(crs e.1 e.2).2.1≠0:=fun e h=>by
 rw[Bo]at h;obtain⟨d,hd,rfl⟩:=ZJ.mp h;obtain⟨aa,ab⟩:=jY hd;obtain⟨g,c,a7,g7,q⟩:=M.ln d.1 d.2 (aP _ aa) (aP _ ab);obtain⟨aW,bS,_⟩:=z9 q;rcases M.ne _ (he d hd)with w|w
 ·exact .inl fun z=>ZN g7 w (by rw[<-aW];show g*(crs (m d.1) (m d.2)).1=0;rw[show(crs (m d.1) (m d.2)).1=0 from z,ZO])
 ·exact .inr fun z=>ZN g7 w (by rw[<-bS];show g*(crs (m d.1) (m d.2)).2.1=0;rw[show(crs (m d.1) (m d.2)).2.1=0 from z,ZO])
theorem G5(s:Piece):(fa s).length=s.1.length:=by rw[n6,YL]
theorem wZ{α:Type}{f:α->Nat}{m:Nat}:∀{l:List α},(∀x∈l,f x<=m)->(l.map f).sum<=l.length*m
 | [],_=>by simp
 | x::l,h=>by
  rw[ZE,Z3,ZC];have aa:=h x Zd;have ab:=wZ (l:=l) fun y a6=>h y (Zf _ a6);rw[Nat.add_mul,Nat.one_mul];omega
theorem RR(a b:Bool):eqD (.bl a) (.bl b)=(a==b):=by
 by_cases h:a=b
 ·subst h;rw[mv];simp
 ·have:eqD (.bl a) (.bl b)=false:=by
   unfold eqD;exact @decide_eq_false _ (aa0 _) fun z=>h (D.bl.inj z)
  rw[this];cases a<;>cases b<;>first|rfl|exact absurd rfl h
theorem RS{ps:List P3}(cv:eP ps)(ag:∀p∈ps,da 4000 p)(aj:ps.length<=75):mM ps:=⟨aj,fun e he=>by
 obtain⟨aa,ab⟩:=jY he
 exact j1 (ag _ aa).pt (ag _ ab).pt (cv.side he),fun p h=>(ag p h).bp⟩
theorem RT{w h:Int×Int}(b:ht w h)(a9:intBits w.1<=140)(ba:intBits w.2<=140)(dG:intBits h.1<=140)(fw:intBits h.2<=140):mM (iC w h):=RS b.cvx (fun p ag=>(b.boxG a9 ba dG fw p ag).mono (by decide)) (by show 4<=75;decide)
def dW(x:Int×Int):P3:=crs (cx (x.1*1) (0*x.2) (x.2*1)) (cx (x.1*1) (1*x.2) (x.2*1))
def dX(x:Int×Int):P3:=crs (cx (0*x.2) (x.1*1) (1*x.2)) (cx (1*x.2) (x.1*1) (1*x.2))
theorem j3{x y u v:Int}{m n:Nat}(i6:intBits x<=m)(hb:intBits y<=m)(iA:intBits u<=n)(bv:intBits v<=n)(bx:aO x y)(bB:aO u v):cj (m+n) (cx (x*v) (u*y) (y*v)):=
 cj.nP (p:=(x*v,u*y,y*v)) ⟨intBits_mul_le i6 bv,by rw[Nat.add_comm];exact intBits_mul_le iA hb,intBits_mul_le hb bv⟩ (ZN (YM bx.1) (YM bB.1))
noncomputable def cL(x:Int×Int)(b:Bool)(sh:List Piece):List Piece:=if b then cf (ln (dW x)) (aX (dW x)) sh else cf (fun c => -ln (dW x) c) (aX (dW x)) sh
noncomputable def cV(x:Int×Int)(b:Bool)(sh:List Piece):List Piece:=if b then cf (ln (dX x)) (aX (dX x)) sh else cf (fun c => -ln (dX x) c) (aX (dX x)) sh
theorem n7(φ:List (List Int)->Int)(ps:List P3)(rs:List (List P3)):e0 φ (ps::rs)=dd φ ps+e0 φ rs:=by unfold e0;rw[ZE,Z3]
theorem pz(φ:List (List Int)->Int):∀rs b9:List (List P3),e0 φ (rs++b9)=e0 φ rs+e0 φ b9
 | [],b9=>by rw[Z5];show _=(0:Rat)+_;grind
 | ps::rs,b9=>by rw[aah,n7,n7,pz φ rs b9];grind
theorem gR(φ:List (List Int)->Int)(ps:List P3):e0 φ [ps]=dd φ ps:=by rw[n7];show _+(0:Rat)=_;grind
theorem tp(φ:List (List Int)->Int)(f:P3->Int)(mt:P3->P3->P3):∀sh:List Piece,e0 φ ((cf f mt sh).map fun s=>s.1)=e0 φ (sh.map fun s=>keepR f mt s.1)
 | []=>rfl
 | s::sh=>by
  have c0:=tp φ f mt sh
  have e:cf f mt (s::sh)=cf f mt [s]++cf f mt sh:=by
   unfold cf;rw[<-abz,<-ZD];rfl
  rw[e,ZD,pz,c0,ZE,n7];congr 1;cases c:(keepR f mt s.1).isEmpty with
  | true =>
   rw[wo c,adh.mp c];rfl
  | false =>
   rw[wm c];exact gR φ _
section
variable{l o:P3}{sh:List Piece}{b9:List P3}
theorem w2(h:fx (sh.map fun s=>s.1) [b9])(aj:l.1≠0∨l.2.1≠0)(aE:aS o)(lo:ln l o=0)(ak:∀s∈sh,∀p∈s.1,aS p)(aA:∀p∈b9,aS p):
  fx ((cf (ln l) (aX l) sh).map fun s=>s.1) [keepR (ln l) (aX l) b9]/\fx ((cf (fun c => -ln l c) (aX l) sh).map fun s=>s.1) [keepR (fun c => -ln l c) (aX l) b9]:=by
 obtain⟨a,b⟩:=h.keep aj aE lo (fun ps ag=>by
  obtain⟨s,aq,rfl⟩:=ZJ.mp ag
  exact ak s aq) (fun ps ag=>by rw[ZG.mp ag];exact aA)
 rw[ZV]at a b;exact⟨fun φ=>by rw[tp];exact a φ,fun φ=>by rw[tp];exact b φ⟩
theorem RU{g:P3}(aD:0<g.2.2)(h:fx (sh.map fun s=>s.1) [b9])(ak:∀s∈sh,∀p∈s.1,aS p)(aA:∀p∈b9,aS p):fx ((sh.map (eg g)).map fun s=>s.1) [b9.map fun p=>nP (sld g p)]:=by
 have:=(Bq aD).bal h (fun ps ag=>by
  obtain⟨s,aq,rfl⟩:=ZJ.mp ag
  exact ak s aq) (fun ps ag=>by rw[ZG.mp ag];exact aA)
 rw[ZV]at this;rw[ZV];exact this
end
theorem RV{s:Piece}(aq:aS s.2.2):∃A,jw (fun p=>if s.2.1=true then trn (nP (sld (trn s.2.2) p))else nP (sld (trn s.2.2) p)) A:=by
 have bw:=Bq (v:=trn s.2.2) aq.1;by_cases h:s.2.1=true
 ·refine⟨fun l=>qV (slA (trn s.2.2) l),⟨fun c l=>by rw[bw.lin,pw.lin],fun l aj=>pw.ne _ (bw.ne l aj),fun p ag=>by rw[if_pos h];exact pw.pt _ (bw.pt p ag),fun p q ag aA=>?_⟩⟩;simp only[if_pos h];obtain⟨g,c,a7,g7,e⟩:=bw.ln p q ag aA;obtain⟨g',eU,RW,RX,aU⟩:=pw.ln _ _ (bw.pt p ag) (bw.pt q aA);refine⟨g*g',c*eU,ZN a7 RW,ZN g7 RX,?_⟩
  have av:sc g (qV (crs (nP (sld (trn s.2.2) p)) (nP (sld (trn s.2.2) q))))=sc c (qV (slA (trn s.2.2) (crs p q))):=by
   rw[<-pw.lin,e,pw.lin]
  have ss:∀(a b:Int)(x:P3),sc (a*b) x=sc a (sc b x):=fun a b x=>by refine ef ?_ ?_ ?_<;>simp only[sc]<;>grind
  have sw:∀(a b:Int)(x:P3),sc a (sc b x)=sc b (sc a x):=fun a b x=>by refine ef ?_ ?_ ?_<;>simp only[sc]<;>grind
  rw[ss,aU,sw,av,<-ss,ZQ eU]
 ·refine⟨slA (trn s.2.2),⟨bw.lin,bw.ne,fun p ag=>by rw[if_neg h];exact bw.pt p ag,fun p q ag aA=>?_⟩⟩;simp only[if_neg h];exact bw.ln p q ag aA
theorem RY{l o:P3}{s:Piece}(φ:List (List Int)->Int)(aq:aS s.2.2)(aj:l.1≠0∨l.2.1≠0)(aE:aS o)(lo:ln l o=0)(aP:∀p∈s.1,aS p):dd φ (fa (keepR (ln l) (aX l) s.1,s.2))+dd φ (fa (keepR (fun c => -ln l c) (aX l) s.1,s.2))=dd φ (fa s):=by
 obtain⟨A,M⟩:=RV aq
 have tm:∀p q,aS p->aS q->ln l p*ln l q<0->aS (aX l p q):=fun p q ag aA c=>by
  rw[<-jr ag aA];exact fg (jt ag aA c)
 have kp:∀f:P3->Int,(∀p q,f p*f q<0->ln l p*ln l q<0)->∀p∈keepR f (aX l) s.1,aS p:=fun f hf p ag=>by
  unfold keepR at ag;split at ag
  ·rcases pk ag with⟨h,_⟩|⟨a,ay,b,af,c,e⟩
   ·exact aP p h
   ·rw[e];exact tm a b (aP a ay) (aP b af) (hf a b c)
  ·cases ag
 have ai:=M.ring φ (kp (ln l) fun p q h=>h);have av:=M.ring φ (kp (fun c => -ln l c) fun p q h=>by rw[aay]at h;exact h);have bC:=M.ring φ aP;rw[n6,n6,n6,ai,av,bC];exact wR _ aj aE lo aP
theorem RZ{g p q:P3}(aD:aS g)(ag:aS p)(aA:aS q):nP (sld (trn (nP (sld g q))) (nP (sld g p)))=nP (sld (trn q) p):=by
 have iP:∀{a b:P3},aS a->aS b->(sld a b).2.2≠0:=fun ay af=>ZN (YM af.1) (YM ay.1);obtain⟨ga,fE,dm⟩:=i0 (iP aD ag);obtain⟨hy,dr,ep⟩:=i0 (iP aD aA);obtain⟨lU,h0,n8⟩:=i0 (iP aA.trn ag);have et:aS (nP (sld (trn q) p)):=fg (iP aA.trn ag);obtain⟨a1,a2,iG⟩:(sld g p).1=ga*(nP (sld g p)).1/\(sld g p).2.1=ga*(nP (sld g p)).2.1/\(sld g p).2.2=ga*(nP (sld g p)).2.2:=⟨congrArg (·.1) dm,congrArg (·.2.1) dm,congrArg (·.2.2) dm⟩;obtain⟨a9,ba,dG⟩:(sld g q).1=hy*(nP (sld g q)).1/\(sld g q).2.1=hy*(nP (sld g q)).2.1/\(sld g q).2.2=hy*(nP (sld g q)).2.2:=⟨congrArg (·.1) ep,congrArg (·.2.1) ep,congrArg (·.2.2) ep⟩;obtain⟨aa,ab,aK⟩:(sld (trn q) p).1=lU*(nP (sld (trn q) p)).1/\(sld (trn q) p).2.1=lU*(nP (sld (trn q) p)).2.1/\(sld (trn q) p).2.2=lU*(nP (sld (trn q) p)).2.2:=⟨congrArg (·.1) n8,congrArg (·.2.1) n8,congrArg (·.2.2) n8⟩;generalize nP (sld g p)=a at *;generalize nP (sld g q)=b at *;generalize nP (sld (trn q) p)=h at *;simp only[sld,trn]at a1 a2 iG a9 ba dG aa ab aK;refine(qD (M:=sld (trn b) a) (h:=h) (G:=ga*hy) (c:=g.2.2*g.2.2*lU) (ZN fE dr) (ZN (ZN (YM aD.1) (YM aD.1)) h0) et ?_).2;refine ef ?_ ?_ ?_<;>simp only[sc,sld,trn]
 ·have:ga*hy*(a.1*b.2.2 + -b.1*a.2.2)=(ga*a.1)*(hy*b.2.2)-(hy*b.1)*(ga*a.2.2):=by grind
  rw[this,<-a1,<-dG,<-a9,<-iG];have:g.2.2*g.2.2*lU*h.1=g.2.2*g.2.2*(lU*h.1):=by grind
  rw[this,<-aa];grind
 ·have:ga*hy*(a.2.1*b.2.2 + -b.2.1*a.2.2)=(ga*a.2.1)*(hy*b.2.2)-(hy*b.2.1)*(ga*a.2.2):=by grind
  rw[this,<-a2,<-dG,<-ba,<-iG];have:g.2.2*g.2.2*lU*h.2.1=g.2.2*g.2.2*(lU*h.2.1):=by grind
  rw[this,<-ab];grind
 ·have:ga*hy*(a.2.2*b.2.2)=(ga*a.2.2)*(hy*b.2.2):=by grind
  rw[this,<-iG,<-dG];have:g.2.2*g.2.2*lU*h.2.2=g.2.2*g.2.2*(lU*h.2.2):=by grind
  rw[this,<-aK];grind
theorem R0{g:P3}{s:Piece}(aD:aS g)(aq:aS s.2.2)(aP:∀p∈s.1,aS p):fa (eg g s)=fa s:=by
 rw[n6,n6];unfold eg;dsimp only;rw[ZV];refine aaK fun p ag=>?_;show(if s.2.1=true then trn (nP (sld (trn (nP (sld g s.2.2))) (nP (sld g p))))else nP (sld (trn (nP (sld g s.2.2))) (nP (sld g p))))=_
 rw[RZ aD (aP p ag) aq]
def dq(φ:List (List Int)->Int)(b:Bool)(L:List Piece):Rat:=e0 φ ((L.filter fun s=>s.2.1==b).map fa)
theorem pA(φ:List (List Int)->Int)(b:Bool)(L M:List Piece):dq φ b (L++M)=dq φ b L+dq φ b M:=by unfold dq;rw[abz,ZD,pz]
theorem G6(φ:List (List Int)->Int)(b:Bool):dq φ b []=0:=rfl
theorem w3(φ:List (List Int)->Int)(b:Bool)(s:Piece):dq φ b [s]=if s.2.1==b then dd φ (fa s)else 0:=by
 unfold dq;by_cases h:(s.2.1==b)=true
 ·rw[if_pos h,ac9 (by exact h)];exact gR φ _
 ·rw[if_neg h,ac' (by exact h)];rfl
theorem Bv(φ:List (List Int)->Int)(b:Bool)(s:Piece)(L:List Piece):dq φ b (s::L)=dq φ b [s]+dq φ b L:=by rw[<-pA];rfl
theorem tq(φ:List (List Int)->Int)(b:Bool){g:P3}(aD:aS g):∀{L:List Piece},(∀s∈L,aS s.2.2/\∀p∈s.1,aS p)->dq φ b (L.map (eg g))=dq φ b L
 | [],_=>rfl
 | s::L,h=>by
  obtain⟨aa,ab⟩:=h s Zd;rw[ZE,Bv,Bv φ b s,tq φ b aD fun t bt=>h t (Zf _ bt),w3,w3,R0 aD aa ab];rfl
theorem w4(φ:List (List Int)->Int)(b:Bool){l o:P3}(aj:l.1≠0∨l.2.1≠0)(aE:aS o)(lo:ln l o=0):∀{L:List Piece},(∀s∈L,aS s.2.2/\∀p∈s.1,aS p)->dq φ b (cf (ln l) (aX l) L)+dq φ b (cf (fun c => -ln l c) (aX l) L)=dq φ b L
 | [],_=>by show dq φ b []+dq φ b []=_;rw[G6];grind
 | s::L,h=>by
  obtain⟨aa,ab⟩:=h s Zd;have c0:=w4 φ b aj aE lo fun t bt=>h t (Zf _ bt);have e:∀f:P3->Int,cf f (aX l) (s::L)=cf f (aX l) [s]++cf f (aX l) L:=fun f=>sY (f:=f) [s] L
  have one:∀f:P3->Int,dq φ b (cf f (aX l) [s])=if s.2.1==b then dd φ (fa (keepR f (aX l) s.1,s.2))else 0:=fun f=>by
   cases c:(keepR f (aX l) s.1).isEmpty with
   | true =>
    rw[wo c,G6,adh.mp c,n6];split
    ·rfl
    ·rfl
   | false=>rw[wm c,w3]
  have fs:=RY φ aa aj aE lo ab;rw[e,e,pA,pA,one,one,Bv,w3,<-c0];by_cases c:(s.2.1==b)=true
  ·rw[if_pos c,if_pos c,if_pos c,<-fs];grind
  ·rw[if_neg c,if_neg c,if_neg c];grind
theorem tr{x:Int×Int}(l:aO x.1 x.2):((dW x).1≠0∨(dW x).2.1≠0)/\aS (cx (x.1*1) (0*x.2) (x.2*1))/\ln (dW x) (cx (x.1*1) (0*x.2) (x.2*1))=0:=by
 have cR:x.2*1≠0:=by have:=l.1;omega
 have cN:aS (cx (x.1*1) (0*x.2) (x.2*1)):=fg (p:=(x.1*1,0*x.2,x.2*1)) cR;have c2:aS (cx (x.1*1) (1*x.2) (x.2*1)):=fg (p:=(x.1*1,1*x.2,x.2*1)) cR
 have ne:cx (x.1*1) (0*x.2) (x.2*1)≠cx (x.1*1) (1*x.2) (x.2*1):=fun z=>by
  obtain⟨_,ai,av,_⟩:=iz (a:=x.1*1) (b:=0*x.2) cR;obtain⟨q,f1,f2,_⟩:=iz (a:=x.1*1) (b:=1*x.2) cR;rw[z,f2]at av;have fF:=q.1;have w5:=l.1;have:1*x.2*(cx (x.1*1) (1*x.2) (x.2*1)).2.2=0:=by rw[av];simp
  have:=Ze (show 0<1*x.2 by omega) fF;omega
 refine⟨j1 cN c2 ne,cN,?_⟩;unfold dW ln crs;grind
theorem tu{x:Int×Int}(l:aO x.1 x.2):((dX x).1≠0∨(dX x).2.1≠0)/\aS (cx (0*x.2) (x.1*1) (1*x.2))/\ln (dX x) (cx (0*x.2) (x.1*1) (1*x.2))=0:=by
 have cR:1*x.2≠0:=by have:=l.1;omega
 have cN:aS (cx (0*x.2) (x.1*1) (1*x.2)):=fg (p:=(0*x.2,x.1*1,1*x.2)) cR;have c2:aS (cx (1*x.2) (x.1*1) (1*x.2)):=fg (p:=(1*x.2,x.1*1,1*x.2)) cR
 have ne:cx (0*x.2) (x.1*1) (1*x.2)≠cx (1*x.2) (x.1*1) (1*x.2):=fun z=>by
  obtain⟨_,ai,av,_⟩:=iz (a:=0*x.2) (b:=x.1*1) cR;obtain⟨q,f1,f2,_⟩:=iz (a:=1*x.2) (b:=x.1*1) cR;rw[z,f1]at ai;have fF:=q.1;have w5:=l.1;have:1*x.2*(cx (1*x.2) (x.1*1) (1*x.2)).2.2=0:=by rw[ai];simp
  have:=Ze (show 0<1*x.2 by omega) fF;omega
 refine⟨j1 cN c2 ne,cN,?_⟩;unfold dX ln crs;grind
theorem G7(φ:List (List Int)->Int)(b c:Bool){x:Int×Int}(l:aO x.1 x.2){L:List Piece}(h:∀s∈L,aS s.2.2/\∀p∈s.1,aS p):dq φ b (cL x c L)+dq φ b (cL x (!c) L)=dq φ b L:=by
 obtain⟨dg,dB,fO⟩:=tr l;have:=w4 φ b dg dB fO h;cases c with
 | true=>exact this
 | false=>rw[<-this];show dq φ b (cf _ _ L)+dq φ b (cf _ _ L)=_;grind
theorem R1(φ:List (List Int)->Int)(b c:Bool){x:Int×Int}(l:aO x.1 x.2){L:List Piece}(h:∀s∈L,aS s.2.2/\∀p∈s.1,aS p):dq φ b (cV x c L)+dq φ b (cV x (!c) L)=dq φ b L:=by
 obtain⟨dg,dB,fO⟩:=tu l;have:=w4 φ b dg dB fO h;cases c with
 | true=>exact this
 | false=>rw[<-this];show dq φ b (cf _ _ L)+dq φ b (cf _ _ L)=_;grind
theorem hg(a:Rat):(0:Rat)/a=0:=by grind
theorem G8(d:Rat):d<0∨d=0∨0<d:=by grind
def b7(p:P3)(x y:Rat):Prop:=aS p/\hv p=x/\hx p=y
theorem Bw{a b c d:Int}(af:0<b)(hd:0<d)(h:(a:Rat)/b=(c:Rat)/d):a*d=c*b:=by
 have dr:=dy af;have gP:=dy hd;have:(a:Rat)*d=c*b:=by grind
 exact_mod_cast this
theorem b7.eq{p q:P3}{x y:Rat}(h:b7 p x y)(g:b7 q x y):p=q:=by
 obtain⟨ag,aa,ab⟩:=h;obtain⟨hT,g1,g2⟩:=g;obtain⟨ai,av,bC⟩:=u1 ag hT (Bw ag.1 hT.1 (aa.trans g1.symm)) (Bw ag.1 hT.1 (ab.trans g2.symm));exact ef ai av bC
theorem b7.to{p:P3}{x y gu eu:Rat}(h:b7 p x y)(ai:x=gu)(av:y=eu):b7 p gu eu:=by subst ai av;exact h
def ar(r:Int×Int):Rat:=(r.1:Rat)/r.2
theorem qW{a b n:Int}(aN:0<n):b7 (cx a b n) ((a:Rat)/n) ((b:Rat)/n):=by
 obtain⟨p,ai,av,_⟩:=iz (a:=a) (b:=b) (YM aN);have cR:=dy aN;have lS:=dy p.1;have f1:(((cx a b n).1:Int):Rat)*n=a*((cx a b n).2.2:Int):=by exact_mod_cast ai
 have f2:(((cx a b n).2.1:Int):Rat)*n=b*((cx a b n).2.2:Int):=by exact_mod_cast av
 refine⟨p,?_,?_⟩
 ·unfold hv;grind
 ·unfold hx;grind
theorem fP{w h:Int×Int}(lw:0<w.2)(lh:0<h.2):b7 (b8 w h) (ar w) (ar h):=by
 have w0:=dy lw;have h0:=dy lh;refine(qW (Ze lw lh)).to ?_ ?_<;>(unfold ar;push_cast;grind)
theorem G9{w:Int×Int}(l:aO w.1 w.2):b7 (w.1,0,w.2) (ar w) 0:=⟨Au l,rfl,by unfold hx;show((0:Int):Rat)/_=0;exact hg _⟩
theorem G'{w:Int×Int}(l:aO w.1 w.2):b7 (0,w.1,w.2) 0 (ar w):=⟨Av l,by unfold hv;show((0:Int):Rat)/_=0;exact hg _,rfl⟩
theorem R2:b7 (0,0,1) 0 0:=⟨⟨by decide,by decide⟩,by unfold hv;exact hg _,by unfold hx;exact hg _⟩
theorem j4{g p:P3}{a b x y:Rat}(aD:b7 g a b)(ag:b7 p x y):b7 (nP (sld g p)) (x+a) (y+b):=by
 obtain⟨g1,g2,g3⟩:=aD;obtain⟨cN,c2,o8⟩:=ag;have Y':=dy g1.1;have R3:=dy cN.1;refine(qW (a:=(sld g p).1) (b:=(sld g p).2.1) (n:=(sld g p).2.2) (Ze cN.1 g1.1)).to ?_ ?_
 ·rw[<-g2,<-c2];unfold hv sld;dsimp only;push_cast;grind
 ·rw[<-g3,<-o8];unfold hx sld;dsimp only;push_cast;grind
theorem Bx{p q r:P3}{bK bE ew c3 mL qU:Rat}(ag:b7 p bK bE)(aA:b7 q ew c3)(ak:b7 r mL qU):∃k:Rat,0<k/\((bc p q r:Int):Rat)=k*((ew-bK)*(qU-bE)-(c3-bE)*(mL-bK)):=by
 obtain⟨cN,c2,o8⟩:=ag;obtain⟨aW,bS,fC⟩:=aA;obtain⟨au,aG,f7⟩:=ak;have R3:=dy cN.1;have Za:=dy aW.1;have h3:=dy au.1;refine⟨((p.2.2*q.2.2*r.2.2:Int):Rat),?_,?_⟩
 ·have:=Ze (Ze cN.1 aW.1) au.1;exact_mod_cast this
 ·rw[<-c2,<-o8,<-bS,<-fC,<-aG,<-f7];unfold bc crs hv hx;dsimp only;push_cast;grind
section
variable{X:Int×Int}{c:P3}{x y:Rat}
theorem tv(l:aO X.1 X.2)(hc:b7 c x y):∃k:Rat,0<k/\((ln (dW X) c:Int):Rat)=k*(ar X-x):=by
 have x0:=dy l.1;have a:b7 (cx (X.1*1) (0*X.2) (X.2*1)) (ar X) 0:=(qW (by have:=l.1;omega)).to (by unfold ar;simp) (by simp;exact hg _);have b:b7 (cx (X.1*1) (1*X.2) (X.2*1)) (ar X) 1:=(qW (by have:=l.1;omega)).to (by unfold ar;simp) (by simp;grind);obtain⟨k,cC,e⟩:=Bx a b hc;exact⟨k,cC,by show((bc _ _ c:Int):Rat)=_;rw[e];grind⟩
theorem tw(l:aO X.1 X.2)(hc:b7 c x y):∃k:Rat,0<k/\((ln (dX X) c:Int):Rat)=k*(y-ar X):=by
 have x0:=dy l.1;have a:b7 (cx (0*X.2) (X.1*1) (1*X.2)) 0 (ar X):=(qW (by have:=l.1;omega)).to (by simp;exact hg _) (by unfold ar;simp);have b:b7 (cx (1*X.2) (X.1*1) (1*X.2)) 1 (ar X):=(qW (by have:=l.1;omega)).to (by simp;grind) (by unfold ar;simp);obtain⟨k,cC,e⟩:=Bx a b hc;exact⟨k,cC,by show((bc _ _ c:Int):Rat)=_;rw[e];grind⟩
end
theorem kU{n:Int}{k d:Rat}(cC:0<k)(e:(n:Rat)=k*d)(h:0<d):0<n:=by
 have:(0:Rat)<n:=by rw[e];exact ZY cC h
 exact_mod_cast this
theorem n9{n:Int}{k d:Rat}(cC:0<k)(e:(n:Rat)=k*d)(h:d<0):n<0:=by
 have:0 < -n:=kU cC (d :=-d) (by push_cast;rw[e];grind) (by grind);omega
theorem w6{n:Int}{k d:Rat}(e:(n:Rat)=k*d)(h:d=0):n=0:=by
 rw[h]at e;have:(n:Rat)=0:=by rw[e];grind
 exact_mod_cast this
section
variable{X:Int×Int}{c p q:P3}{x y bK bE ew c3:Rat}
theorem tx(l:aO X.1 X.2)(hc:b7 c x y)(h:x<ar X):0<ln (dW X) c:=by
 obtain⟨k,cC,e⟩:=tv l hc;exact kU cC e (by grind)
theorem By(l:aO X.1 X.2)(hc:b7 c x y)(h:ar X<x):ln (dW X) c<0:=by
 obtain⟨k,cC,e⟩:=tv l hc;exact n9 cC e (by grind)
theorem Bz(l:aO X.1 X.2)(hc:b7 c x y)(h:ar X<y):0<ln (dX X) c:=by
 obtain⟨k,cC,e⟩:=tw l hc;exact kU cC e (by grind)
theorem tA(l:aO X.1 X.2)(hc:b7 c x y)(h:y<ar X):ln (dX X) c<0:=by
 obtain⟨k,cC,e⟩:=tw l hc;exact n9 cC e (by grind)
theorem w7(l:aO X.1 X.2)(ag:b7 p bK bE)(aA:b7 q ew c3)(h:ln (dW X) p*ln (dW X) q<0)(a6:(y-bE)*(ew-bK)=(ar X-bK)*(c3-bE)):b7 (aX (dW X) p q) (ar X) y:=by
 have pm:aS (aX (dW X) p q):=by rw[<-jr ag.1 aA.1];exact fg (jt ag.1 aA.1 h)
 obtain⟨a,b,Ha,ex,fM⟩:=AW (pj h) ag.1.1 aA.1.1 pm.1;have im:b7 (aX (dW X) p q) (hv (aX (dW X) p q)) (hx (aX (dW X) p q)):=⟨pm,rfl,rfl⟩;obtain⟨k,cC,e⟩:=tv l im;rw[qO h]at e
 have xe:hv (aX (dW X) p q)=ar X:=by
  have bU:k≠0:=by intro z;rw[z]at cC;exact absurd cC (by decide)
  have:k*(ar X-hv (aX (dW X) p q))=0:=by rw[<-e];rfl
  grind
 have ne:ew-bK≠0:=fun z=>by
  obtain⟨cn,tB,av⟩:=tv l ag;obtain⟨fN,tC,bC⟩:=tv l aA;have BA:ew=bK:=by grind
  rw[BA]at bC;rcases G8 (ar X-bK)with d|d|d
  ·have a1:=n9 tB av d;have a2:=n9 tC bC d;have:=aa3 a1 a2;omega
  ·have a1:=w6 av d;rw[a1,aaw]at h;omega
  ·have a1:=kU tB av d;have a2:=kU tC bC d;have:=Ze a1 a2;omega
 refine im.to xe ?_;rw[fM,ag.2.2,aA.2.2];rw[ex,ag.2.1,aA.2.1]at xe;have dm:a=1-b:=by grind
 subst dm;grind
theorem w8(l:aO X.1 X.2)(ag:b7 p bK bE)(aA:b7 q ew c3)(h:ln (dX X) p*ln (dX X) q<0)(aC:(x-bK)*(c3-bE)=(ar X-bE)*(ew-bK)):b7 (aX (dX X) p q) x (ar X):=by
 have pm:aS (aX (dX X) p q):=by rw[<-jr ag.1 aA.1];exact fg (jt ag.1 aA.1 h)
 obtain⟨a,b,Ha,ex,fM⟩:=AW (pj h) ag.1.1 aA.1.1 pm.1;have im:b7 (aX (dX X) p q) (hv (aX (dX X) p q)) (hx (aX (dX X) p q)):=⟨pm,rfl,rfl⟩;obtain⟨k,cC,e⟩:=tw l im;rw[qO h]at e
 have Hb:hx (aX (dX X) p q)=ar X:=by
  have bU:k≠0:=by intro z;rw[z]at cC;exact absurd cC (by decide)
  have:k*(hx (aX (dX X) p q)-ar X)=0:=by rw[<-e];rfl
  grind
 have ne:c3-bE≠0:=fun z=>by
  obtain⟨cn,tB,av⟩:=tw l ag;obtain⟨fN,tC,bC⟩:=tw l aA;have BA:c3=bE:=by grind
  rw[BA]at bC;rcases G8 (bE-ar X)with d|d|d
  ·have a1:=n9 tB av d;have a2:=n9 tC bC d;have:=aa3 a1 a2;omega
  ·have a1:=w6 av d;rw[a1,aaw]at h;omega
  ·have a1:=kU tB av d;have a2:=kU tC bC d;have:=Ze a1 a2;omega
 refine im.to ?_ Hb;rw[ex,ag.2.1,aA.2.1];rw[fM,ag.2.2,aA.2.2]at Hb;have dm:a=1-b:=by grind
 subst dm;grind
end
end Cut
namespace Cut
open PySem L2 L3
section
variable{f:P3->Int}{mt:P3->P3->P3}{a b c d:P3}
theorem j5:dj f mt [a,b,c,d]=kp f a++cF f mt a b++(kp f b++cF f mt b c++(kp f c++cF f mt c d++(kp f d++cF f mt d a++[]))):=rfl
theorem fy(h:0<=f a):kp f a=[a]:=by unfold kp;rw[if_pos h]
theorem gh(h:f a<0):kp f a=[]:=by unfold kp;rw[if_neg (by omega)]
theorem gS(h:(0<f a/\f b<0)∨(f a<0/\0<f b)):cF f mt a b=[mt a b]:=by
 unfold cF;rcases h with⟨aa,ab⟩|⟨aa,ab⟩
 ·rw[if_pos (ZP aa ab)]
 ·rw[if_pos (aaJ aa ab)]
theorem fh(h:(0<=f a/\0<=f b)∨(f a<=0/\f b<=0)):cF f mt a b=[]:=by
 unfold cF;rcases h with⟨aa,ab⟩|⟨aa,ab⟩
 ·rw[if_neg (by have:=aac aa ab;omega)]
 ·rw[if_neg (by have:=abW aa ab;omega)]
theorem j6{ps:List P3}(p:P3)(ag:p∈ps)(h:0<f p):keepR f mt ps=dj f mt ps:=wu ⟨p,ag,h⟩
theorem R4(ay:f a<0)(af:f b<0)(hc:0<f c)(hd:f d=0):keepR f mt [a,b,c,d]=[mt b c,c,d]:=by
 rw[j6 c (by simp) hc,j5,gh ay,fh (.inr ⟨by omega,by omega⟩),gh af,gS (.inr ⟨af,hc⟩),fy (by omega),fh (.inl ⟨by omega,by omega⟩),fy (by omega),fh (.inr ⟨by omega,by omega⟩)];rfl
theorem R5(ay:0<f a)(af:0<f b)(hc:f c<0)(hd:f d=0):keepR f mt [a,b,c,d]=[a,b,mt b c,d]:=by
 rw[j6 a (by simp) ay,j5,fy (by omega),fh (.inl ⟨by omega,by omega⟩),fy (by omega),gS (.inl ⟨af,hc⟩),gh hc,fh (.inr ⟨by omega,by omega⟩),fy (by omega),fh (.inl ⟨by omega,by omega⟩)];rfl
end
theorem pB{t b:Int}(af:0<b):ar (cA t b)=(t:Rat)/b:=by
 obtain⟨l,e,_,_⟩:=g6 (t:=t) (b:=b) (YM af);have dr:=dy af;have w5:=dy l.1;have f:(((cA t b).1:Int):Rat)*b=t*((cA t b).2:Int):=by exact_mod_cast e
 unfold ar;grind
theorem d2{r:Int×Int}(h:0<r.1)(ab:0<r.2):0<ar r:=by
 have a:(0:Rat)<r.1:=by exact_mod_cast h
 have b:(0:Rat)<r.2:=by exact_mod_cast ab
 unfold ar;rw[aa5];exact ZY a (abA.mpr b)
theorem Hc{a b c ez b' eU:P3}(aa:a=ez)(ab:b=b')(aK:c=eU):[a,b,c]=[ez,b',eU]:=by rw[aa,ab,aK]
theorem Hd{a b c d ez b' eU d':P3}(aa:a=ez)(ab:b=b')(aK:c=eU)(bo:d=d'):[a,b,c,d]=[ez,b',eU,d']:=by rw[aa,ab,aK,bo]
theorem He{a b c:P3}{P:P3->Prop}(aa:P a)(ab:P b)(aK:P c):∀p∈[a,b,c],P p:=by simp;exact⟨aa,ab,aK⟩
theorem BB{a b c d:P3}{P:P3->Prop}(aa:P a)(ab:P b)(aK:P c)(bo:P d):∀p∈[a,b,c,d],P p:=by simp;exact⟨aa,ab,aK,bo⟩
end Cut
namespace L2
open PySem PySem.Spec PyProof.Rows PySem.W
variable{X:aM}
theorem R6:nc X (.builtin "sorted") (fun xs H Q=>∃(p:Addr)(ns:List Int),xs=[.ref p]/\H p=some (.lst (ns.map V.int))/\ns.length<64/\∀i7:List Int,i7.Perm ns->i7.Pairwise (· <= ·)->∀l,H l=none->Q (.ref l) (upd H l (.lst (i7.map V.int)))):=by
 intro pins s σ H xs us Q I r h;obtain⟨p,ns,rfl,ag,aN,q⟩:=h;obtain⟨u,rfl,bg⟩:=vals1 r;cases bg;obtain⟨its,cb,c1,bb⟩:=I.list (cJ.of ag);have hlen:=cb.length;rw[YL]at hlen;refine sorted_ints c1.isList (intsAre_of cb) (by omega) fun out i7 a1 a2 iG=>?_;obtain⟨e,he⟩:=sortedAll_at s.heap its out;have aj:=a2.length_eq;exact⟨.ref (s.heap.objs.size+1),_,I.laid (t':=s.toks) (fun _ _=>sortedAll_old) (aa8 _) (show fQ X.prog X.w _ _ _ (.lst (i7.map V.int))from⟨by rw[YL,sizeLine_eq];omega,out.toList,e,zp a1,he⟩),rfl,q i7 a2 iG _ (I.hok.fresh (aa8 _))⟩
end L2
namespace L3
open PySem L2
variable{X:aM}{e:Expr}{u:a5}{p pos:Pos}
def R7(u:a5):cQ:=fun ρ k=>u ρ fun x=>∃ns:List Int,x=.lst (ns.map D.int)/\ns.length<64/\∀i7:List Int,i7.Perm ns->i7.Pairwise (· <= ·)->k (i7.map D.int)
theorem R8(ay:bq X e u)(aD:eJ X "sorted")(hm:X.mg "sorted"=none)(aq:starEach [e] X.env=(false,eval e X.env)::starEach [] X.env:=by rfl):kq X (.Call (.Name "sorted" p) [e] [] pos) (R7 u):=by
 obtain⟨_,aa,au⟩:=ay;refine⟨_,oK R6 aD hm (by decide +kernel) (er aa fK aq) (by decide) (by decide) aq rfl,fun ρ k h R W B H σ Q e q=>?_⟩;refine au ρ _ h R W B H σ _ e fun d v a4 H1 z1 ai g1 s1=>?_;obtain⟨ns,rfl,aN,z⟩:=z1;obtain⟨a,vs,rfl,ay,rs⟩:=s1.lstV;have ev:=El rs;subst ev;refine⟨a,ns,rfl,ai.bh _ _ ay,aN,fun i7 cN c2 p ag=>?_⟩;obtain⟨f1,f2,bQ,f4,eo⟩:=ai.newO ag (Reps.ints i7);exact q _ p _ a4 _ (z i7 cN c2) f1 g1 f2 bQ f4 (Reps.ints i7) eo
end L3
namespace L2
open PySem PySem.Spec PyProof.Rows PySem.W
variable{X:aM}
def R9:V->List V->ao->cO->Prop:=fun x vs H Q=>∃l b xs zs,x=.ref l/\vs=[.ref b]/\H l=some (.lst xs)/\H b=some (.tup zs)/\xs.length+zs.length<=sizeLine/\Q .non (upd H l (.lst (xs++zs)))
theorem R':rM X "list.extend" R9:=by
 intro pins s σ H x vs v us Q I bg cb h;obtain⟨l,b,xs,zs,rfl,rfl,dw,ed,bb,q⟩:=h;cases bg;obtain⟨u,rfl,hH⟩:=cb.one;cases hH;obtain⟨z,its,n,r,aj,e⟩:=I.lstM dw;obtain⟨aT,fT,aG,av⟩:=I.hok b _ ed;have uU:=aG.length;obtain⟨kL,tD,Sa,dk,hd2⟩:=av;have je:its.toArray.size+fT.toArray.size<=sizeLine:=by rw[ZM,ZM];omega
 have zk:¬(!its.toArray.isEmpty&&Builtin.List.listTooLong (its.toArray.size+fT.toArray.size))=true:=by
  rw[DL je,Bool.and_false];exact ZR
 refine wpAny_call_entry F.slot_list_extend ⟨_,e,rfl⟩ F.entry_list_extend ?_ (F.args_list_extend_2 _ _);show wpAny _ _ (Builtin.List.listExtendWith (.ref l) (.ref b) .none) _ _ s
 unfold Builtin.List.listExtendWith;refine wpAny_bind (wpAny_typeOf (T:="tuple") ⟨kL,tD,Sa⟩ ?_);rw[if_pos (by rw[show(Value.type "tuple"==Value.type "tuple")=true from rfl];simp)];refine wpAny_bind (listItems_at tD hd2 ?_);refine wpAny_bind (listItems_at e rfl ?_);rw[if_neg zk];refine wpAny_bind (listUpdate_at e rfl ?_ (by rw[ZM];omega) (by rw[Array.size_append];omega));refine wpAny_pure ⟨_,rfl,?_⟩;refine⟨.non,_,I.lset (t':=s.toks) (its':=its++fT) dw e (by simp) (r.append aG) ?_,rfl,q⟩;rw[Zg];omega
end L2
namespace L3
open PySem L2
section
variable{K:PySem.W.Frag}{B:ao}
theorem Reps.eraseIdx:∀{vs:List V}{ds:List D}(i:Nat),Reps K B vs ds->Reps K B (vs.eraseIdx i) (ds.eraseIdx i)
 | _,_,_,.nil=>.nil
 | _,_,0,.cons _ t=>t
 | _,_,i+1,.cons r t=>.cons r (Reps.eraseIdx i t)
end
variable{X:aM}{e:Expr}{u:a5}{F:FS}{pos:Pos}
def Sb(i j:Nat)(F:FS)(u:a5):cW:=fun U ρ=>∃ds:List D,ρ[i]?=some (.own ds)/\ρ[j]?=some .bag/\u ρ fun d=>∃(n:Nat)(z:D),d=.int n/\n<1000/\ds[n]?=some z/\F [.bag,.val z] fun r=>∃es,r=.val (.tup es)/\ds.length+es.length<=sizeLine/\U.nx (ρ.set i (.own (ds.eraseIdx n++es)))
theorem Sd(i j:Nat){f x y:Str}{ps:List Str}{qB lv:Nat}{px jx py tE apos c8 j7 iH qX:Pos}(c:aJ X.prog X.w X.K X.mg X.base f ps qB (aL X.K 2 F))(ak:eA lv X.A)(aD:eJ X f)(he:bq X e u)(gL:qB<=lv:=by decide)(bI:X.N[i]?=some x:=by rfl)(aP:gF X.env.scope x:=by first|exact Sz rfl|exact Zh (Sz rfl)|exact Zh (Zh rfl))(hd:(x==("__debug__":Str))=false:=by decide)(dz:(x==("__classdict__":Str))=false:=by decide)(Se:X.N[j]?=some y:=by rfl)(sF:gF X.env.scope y:=by first|exact Sz rfl|exact Zh (Sz rfl)|exact Zh (Zh rfl))(hd2:(y==("__debug__":Str))=false:=by decide)(Sf:(y==("__classdict__":Str))=false:=by decide)(gW:(f==("__debug__":Str))=false:=by decide)(ie:attributeBase (.Name x px) "extend" X.env (eval (.Name x px) X.env)=eval (.Name x px) X.env:=by rfl)(Sg:attributeBase (.Name x jx) "pop" X.env (eval (.Name x jx) X.env)=eval (.Name x jx) X.env:=by rfl)(km:((backTo c8 (starEach [.Call (.Name f tE) [.Name y py,.Call (.Attribute (.Name x jx) "pop" j7) [e] [] iH] [] qX] X.env)).all (fun x => !x.1)&&(backToKw c8 (keywordEach [] X.env)).all (fun x=>x.1.isSome)
   && decide (1+([]:List Keyword).length+(if([]:List Keyword).isEmpty then 0 else 1)<30))=true:=by rfl)(Sh:((backTo iH (starEach [e] X.env)).all (fun x => !x.1)&&(backToKw iH (keywordEach [] X.env)).all (fun x=>x.1.isSome)
   && decide (1+([]:List Keyword).length+(if([]:List Keyword).isEmpty then 0 else 1)<30))=true:=by rfl)(ig:(apos.endLine==c8.line)=true:=by rfl)(Si:(j7.endLine==iH.line)=true:=by rfl)(aq:starEach [.Call (.Name f tE) [.Name y py,.Call (.Attribute (.Name x jx) "pop" j7) [e] [] iH] [] qX] X.env=(false,eval (.Call (.Name f tE) [.Name y py,.Call (.Attribute (.Name x jx) "pop" j7) [e] [] iH] [] qX) X.env)::starEach [] X.env:=by rfl)(sR:starEach [.Name y py,.Call (.Attribute (.Name x jx) "pop" j7) [e] [] iH] X.env=(false,eval (.Name y py) X.env)::starEach [.Call (.Attribute (.Name x jx) "pop" j7) [e] [] iH] X.env:=by rfl)(jI:starEach [.Call (.Attribute (.Name x jx) "pop" j7) [e] [] iH] X.env=(false,eval (.Call (.Attribute (.Name x jx) "pop" j7) [e] [] iH) X.env)::starEach [] X.env:=by rfl)(qw:starEach [e] X.env=(false,eval e X.env)::starEach [] X.env:=by rfl)(oM:(backTo c8 (starEach ([]:List Expr) X.env)).any (·.1)=false:=by rfl)(Sj:(backTo iH (starEach ([]:List Expr) X.env)).any (·.1)=false:=by rfl)(e6:(backTo qX (starEach [.Call (.Attribute (.Name x jx) "pop" j7) [e] [] iH] X.env)).any (·.1)=false:=by rfl)(kv:swapsWith (.Call (.Attribute (.Name x px) "extend" apos) [.Call (.Name f tE) [.Name y py,.Call (.Attribute (.Name x jx) "pop" j7) [e] [] iH] [] qX] [] c8) none pos.line X.env=pure false:=by rfl):
  e7 X (.Expr (.Call (.Attribute (.Name x px) "extend" apos) [.Call (.Name f tE) [.Name y py,.Call (.Attribute (.Name x jx) "pop" j7) [e] [] iH] [] qX] [] c8) pos) (Sb i j F u):=by
 obtain⟨_,aa,au⟩:=he;refine⟨_,uz (uT abv ac1 ac2 R' (ic bI aP hd dz) (er (qg c ak aD (er (ic Se sF hd2 Sf) (er (uT abv adi adj Md (ic bI aP hd dz) (er aa fK qw) Sg Sh Si qw Sj) fK jI) sR) gL gW sR e6) fK aq) ie km ig aq oM) kv,fun U ρ h R W B H σ D e s=>?_⟩;obtain⟨ds,aE,af,h⟩:=h;obtain⟨a,vs,ai,av,bC,c6,eK⟩:=e.ownAt aE;obtain⟨b,a9,ba⟩:=e.bagAt af;refine⟨_,ai,.inl ⟨rfl,vs,cJ.of c6⟩,?_⟩;refine⟨_,a9,?_⟩;refine⟨_,ai,.inl ⟨rfl,vs,cJ.of c6⟩,?_⟩;refine au ρ _ h R W B H σ _ e fun d v a4 H1 z1 f1 g1 s1=>?_;obtain⟨n,z,rfl,aN,bb,jl⟩:=z1;obtain⟨ez,kx,bU,cn,fN,iu,nC⟩:=f1.ownAt aE;rw[ai]at bU;cases bU;obtain⟨w,hw,l'⟩:=nC.get bb
 have cM:n<kx.length:=by
  rcases abZ n kx.length with q|q
  ·exact q
  ·rw[Z' q]at hw;cases hw
 cases s1;refine⟨a,kx,n,n,w,rfl,rfl,iu,by omega,by omega,?_,hw,?_⟩
 ·rw[seqIndex_of (by omega) (by omega)];rfl
 have f2:=f1.write ai aE (nC.eraseIdx n);have tF:i≠j:=fun q=>by rw[q,af]at aE;cases aE
 have aB:i<ρ.length:=by
  rcases abZ i ρ.length with q|q
  ·exact q
  ·rw[Z' q]at aE;cases aE
 have BC:(ρ.set i (.own (ds.eraseIdx n)))[j]?=some .bag:=by rw[aaE tF];exact af
 refine qp (E:=oO) (as:=[.bag j,.val z]) f2 (.bag a9 BC (.val l' .nil)) rfl jl fun r v bD aZ ah bQ g3 res=>?_;obtain⟨es,rfl,aj,tG⟩:=ah;obtain⟨p,ws,rfl,ag,lT⟩:=Rep.tupV res;have tD:(ρ.set i (.own (ds.eraseIdx n)))[i]?=some (.own (ds.eraseIdx n)):=aaV aB;obtain⟨ez,fX,Hf,Zb,Zc,Sk,Hg⟩:=bQ.ownAt tD;rw[ai]at Hf;cases Hf;have f4:=bQ.write ai tD (Hg.append lT);rw[aaZ]at f4;refine⟨a,p,fX,ws,rfl,rfl,Sk,bQ.bh _ _ ag,?_,s.nx _ _ bD _ tG f4 (g1.trans g3)⟩;rw[Hg.length,lT.length];have:=zj ds n;omega
end L3
namespace Cut
open PySem L2 L3
open PySem.Builtin.Int (intBits)
theorem Hh{p q:P3}{t:Int}(ag:0<p.2.2)(aA:0<q.2.2)(t1:1<=t)(cE:t<=2):gf p q (iF p q t):=by
 have cR:0<p.2.2*q.2.2*3:=Ze (Ze ag aA) (by decide);obtain⟨g,a7,aD⟩:=i0 (p:=(p.1*q.2.2*(3-t)+q.1*p.2.2*t,p.2.1*q.2.2*(3-t)+q.2.1*p.2.2*t,p.2.2*q.2.2*3)) (YM cR);have pt:=(fg (p:=(p.1*q.2.2*(3-t)+q.1*p.2.2*t,p.2.1*q.2.2*(3-t)+q.2.1*p.2.2*t,p.2.2*q.2.2*3)) (YM cR)).1;have bC:p.2.2*q.2.2*3=g*(iF p q t).2.2:=congrArg (·.2.2) aD
 have gp:0<g:=by
  rcases Int.lt_or_le 0 g with h|h
  ·exact h
  ·have:g*(iF p q t).2.2<=0:=Int.mul_nonpos_of_nonpos_of_nonneg h (Z4 pt);omega
 refine⟨g,q.2.2*(3-t),p.2.2*t,gp,Ze aA (by omega),Ze ag (by omega),?_⟩;show sc g (iF p q t)=_
 rw[show sc g (iF p q t)=_ from aD.symm];refine ef ?_ ?_ ?_<;>simp only[lc]<;>grind
theorem Hi{m:Nat}{p q:P3}{t:Int}(ag:da m p)(aA:da m q)(t1:1<=t)(cE:t<=2):da (2*m+3) (iF p q t):=by
 have cR:0<p.2.2*q.2.2*3:=Ze (Ze ag.pt.1 aA.pt.1) (by decide);have a9:intBits (3-t)<=2:=intBits_le_iff.mpr (by have e:(2:Nat)^2=4:=rfl;rw[e];omega);have ba:intBits t<=2:=intBits_le_iff.mpr (by have e:(2:Nat)^2=4:=rfl;rw[e];omega);refine⟨fg (p:=(p.1*q.2.2*(3-t)+q.1*p.2.2*t,p.2.1*q.2.2*(3-t)+q.2.1*p.2.2*t,p.2.2*q.2.2*3)) (YM cR),cj.nP (p:=(p.1*q.2.2*(3-t)+q.1*p.2.2*t,p.2.1*q.2.2*(3-t)+q.2.1*p.2.2*t,p.2.2*q.2.2*3)) ⟨?_,?_,?_⟩ (YM cR)⟩
 ·exact Gg (intBits_add_le (intBits_mul_le (intBits_mul_le ag.bp.a aA.bp.c) a9) (intBits_mul_le (intBits_mul_le aA.bp.a ag.bp.c) ba)) (by omega)
 ·exact Gg (intBits_add_le (intBits_mul_le (intBits_mul_le ag.bp.b aA.bp.c) a9) (intBits_mul_le (intBits_mul_le aA.bp.b ag.bp.c) ba)) (by omega)
 ·exact Gg (intBits_mul_le (intBits_mul_le ag.bp.c aA.bp.c) (show intBits 3<=2 by decide)) (by omega)
theorem T0.half{B D:List P3}{a b c d m n:P3}(h:T0 (b::B++(d::D)))(aj:3<=(b::B).length+(d::D).length)(dm:bY b B=a)(gB:bY d D=c)(hm:gf c b m)(aN:gf a d n):T0 (m::(b::B)++[n]):=by
 obtain⟨X,jy⟩:∃X,b::B=X++[a]:=by
  obtain⟨X,e⟩:=wg (z:=b) (r:=b::B) (by simp);exact⟨X,by rw[e];show _=X++[a];rw[<-dm];rfl⟩
 cases D with
 | nil =>
  have gB:d=c:=gB;subst gB;cases B with
  | nil=>simp at aj
  | cons ba B =>
   have dm:bY ba B=a:=dm
   obtain⟨Y,BD⟩:∃Y,ba::B=Y++[a]:=by
    obtain⟨Y,e⟩:=wg (z:=ba) (r:=ba::B) (by simp);exact⟨Y,by rw[e];show _=Y++[a];rw[<-dm];rfl⟩
   rw[BD]at h ⊢;have aa:T0 ((b::(Y++[a]))++[d]):=h
   have ab:T0 (Y++a::d::b::[]):=by
    have:=T0.turn (xs:=[b]) (ys:=(Y++[a])++[d]) aa;simpa using this
   have aK:=T0.off ab aN hm;have bo:T0 ((Y++[a,n])++[m,b]):=by simpa using aK
   have df:=T0.turn bo;simpa using df
 | cons b1 D =>
  have gB:bY b1 D=c:=gB
  obtain⟨Y,BD⟩:∃Y,b1::D=Y++[c]:=by
   obtain⟨Y,e⟩:=wg (z:=b1) (r:=b1::D) (by simp);exact⟨Y,by rw[e];show _=Y++[c];rw[<-gB];rfl⟩
  have aa:T0 ((b::B)++[d,c]):=by
   refine T0.sub ?_ h;refine aa4 (abU _) (ac6 _ ?_);rw[BD];exact ac7 _ _
  rw[jy]at aa;have ab:T0 (X++a::d::[c]):=by simpa using aa
  have aK:=T0.back ab aN;have bo:T0 ((b::B)++([n]++[c])):=by rw[jy];simpa using aK
  have df:T0 ([c]++((b::B)++[n])):=T0.turn (ys:=[c]) (xs:=(b::B)++[n]) (by simpa using bo);have fl:T0 ([]++c::b::(B++[n])):=by simpa using df
  have lE:=T0.on fl hm;simpa using lE
theorem Sl(φ:List (List Int)->Int){p q:P3}(ag:aS p)(aA:aS q):fH φ p q+fH φ q p=0:=by
 unfold fH d1;rw[GN ag aA];grind
theorem Hj(φ:List (List Int)->Int){p q m:P3}(ag:aS p)(aA:aS q)(h:p≠q)(b:gf p q m):fH φ p m+fH φ m q=fH φ p q:=by
 obtain⟨ai,av⟩:=wN ag aA h b;unfold fH d1;rw[ai,av];grind
theorem Sm(φ:List (List Int)->Int){B D:List P3}{a b c d m n:P3}(dm:bY b B=a)(gB:bY d D=c)(hm:gf c b m)(aN:gf a d n)(pa:aS a)(pb:aS b)(pc:aS c)(tg:aS d)(pm:aS m)(pn:aS n)(aa:c≠b)(ab:a≠d):
  dd φ (m::(b::B)++[n])+dd φ (n::(d::D)++[m])=dd φ (b::B++(d::D)):=by
 have ai:dc (m::(b::B)++[n])=(n,m)::(m,b)::(cS b B++[(a,n)]):=by
  unfold dc;rw[show bY (0,0,1) (m::(b::B)++[n])=n from by rw[nX];rfl];show(n,m)::(m,b)::cS b (B++[n])=_
  rw[nW,dm];rfl
 have av:dc (n::(d::D)++[m])=(m,n)::(n,d)::(cS d D++[(c,m)]):=by
  unfold dc;rw[show bY (0,0,1) (n::(d::D)++[m])=m from by rw[nX];rfl];show(m,n)::(n,d)::cS d (D++[m])=_
  rw[nW,gB];rfl
 have bC:dc (b::B++(d::D))=(c,b)::(cS b B++((a,d)::cS d D)):=by
  unfold dc;rw[show bY (0,0,1) (b::B++(d::D))=c from by rw[nX];exact gB];show(c,b)::cS b (B++(d::D))=_
  rw[nW,dm];rfl
 unfold dd;rw[ai,av,bC];simp only[gD,wi,hu];have bU:=Sl φ pn pm;have cn:=Hj φ pc pb aa hm;have fN:=Hj φ pa tg ab aN;grind
theorem Hk(φ:List (List Int)->Int):∀A B:List P3,dd φ (A++B)=dd φ (B++A)
 | [],B=>by rw[ZF];rfl
 | a::A,B=>by
  have h:=Hk φ A (B++[a]);rw[show a::A++B=a::(A++B)from rfl,<-Br,ZU,h,ZU];rfl
def qY(ps:List P3)(i j:Nat)(p q:P3):List P3:=[p]++(ps.drop (i+1)).take (j-i)++[q]
def qZ(ps:List P3)(i j:Nat)(p q:P3):List P3:=[q]++ps.drop (j+1)++ps.take (i+1)++[p]
theorem BE{ps:List P3}{i:Nat}(h:i<ps.length):ps.drop i=bz ps i::ps.drop (i+1):=by
 rw[aaH h,kI h]
structure BF (m n:Nat) (ps b9 rs:List P3):Prop where
 a:eP b9
 b:eP rs
 la:b9.length<=n
 lb:rs.length<=n
 pa:∀x∈b9,da m x
 pb:∀x∈rs,da m x
 bal:∀φ,dd φ b9+dd φ rs=dd φ ps
theorem Sn{m:Nat}{ps:List P3}{i j:Nat}{t u:Int}(cv:eP ps)(ag:∀x∈ps,da m x)(m7:i<j)(bZ:j<ps.length)(t1:1<=t)(cE:t<=2)(dg:1<=u)(dB:u<=2):
  BF (2*m+3) (ps.length+1) ps (qY ps i j (iF (bz ps i) (bz ps (i+1)) t) (iF (bz ps j) (bz ps ((j+1)%ps.length)) u)) (qZ ps i j (iF (bz ps i) (bz ps (i+1)) t) (iF (bz ps j) (bz ps ((j+1)%ps.length)) u)):=by
 have e9:=cv.1;have cn:(j+1)%ps.length<ps.length:=aa1 _ (by omega);have BG:=ag _ (mD (show i<ps.length by omega));have BH:=ag _ (mD (show i+1<ps.length by omega));have BI:=ag _ (mD bZ);have BJ:=ag _ (mD cn);have bm:=Hh BG.pt.1 BH.pt.1 t1 cE;have bn:=Hh BI.pt.1 BJ.pt.1 dg dB;have gm:=Hi BG BH t1 cE;have jL:=Hi BI BJ dg dB;generalize iF (bz ps i) (bz ps (i+1)) t=M at bm gm ⊢;generalize iF (bz ps j) (bz ps ((j+1)%ps.length)) u=N at bn jL ⊢
 obtain⟨B,oa⟩:∃B,(ps.drop (i+1)).take (j-i)=bz ps (i+1)::B:=by
  rw[BE (show i+1<ps.length by omega),show j-i=(j-i-1)+1 by omega,acp];exact⟨_,rfl⟩
 have BK:(bz ps (i+1)::B).length=j-i:=by rw[<-oa,aat,aaX];omega
 have lastB:bY (bz ps (i+1)) B=bz ps j:=by
  have:=wq (bz ps (i+1)) (bz ps (i+1)::B) (by simp);rw[show bY (bz ps (i+1)) (bz ps (i+1)::B)=bY (bz ps (i+1)) B from rfl]at this;rw[this,BK,<-oa];have aC:j-i-1<((ps.drop (i+1)).take (j-i)).length:=by rw[aat,aaX];omega
  rw[kI aC,kI bZ,adk,List.getElem_drop];congr 1;omega
 obtain⟨D,q0⟩:∃D,ps.drop (j+1)++ps.take (i+1)=bz ps ((j+1)%ps.length)::D:=by
  by_cases z:j+1<ps.length
  ·rw[ZW z,BE z];exact⟨_,rfl⟩
  ·have e:j+1=ps.length:=by omega
   rw[e,acw,aaP,Z5];have:=BE (show 0<ps.length by omega);rw[acq]at this;rw[this,acp];exact⟨_,rfl⟩
 have rZ:(bz ps ((j+1)%ps.length)::D).length=ps.length-(j-i):=by rw[<-q0,Zg,aat,aaX];omega
 have BL:bY (bz ps ((j+1)%ps.length)) D=bz ps i:=by
  have d8:bY (bz ps ((j+1)%ps.length)) D=bY (0,0,1) (bz ps ((j+1)%ps.length)::D):=rfl;have bt:ps.take (i+1)≠[]:=fun z=>by have:=congrArg ZS z;rw[aat,aaQ]at this;omega
  rw[d8,<-q0,nX,wq _ _ bt];have aC:(ps.take (i+1)).length-1<(ps.take (i+1)).length:=by rw[aat];omega
  rw[kI aC,kI (show i<ps.length by omega),adk];congr 1;rw[aat];omega
 have whole:ps=ps.take (i+1)++((ps.drop (i+1)).take (j-i)++ps.drop (j+1)):=by
  conv=>lhs;rw[<-adl (i+1) ps]
  congr 1
  conv=>lhs;rw[<-adl (j-i) (ps.drop (i+1))]
  rw[List.drop_drop];congr 2;omega
 have t0:T0 ps:=(o' ps).mpr cv.tri
 have rC:T0 (bz ps (i+1)::B++(bz ps ((j+1)%ps.length)::D)):=by
  rw[<-oa,<-q0,<-ZU];refine T0.turn (xs:=ps.take (i+1)) ?_;rw[whole]at t0;exact t0
 have aj:3<=(bz ps (i+1)::B).length+(bz ps ((j+1)%ps.length)::D).length:=by rw[BK,rZ];omega
 have a1:=T0.half rC aj lastB BL bm bn;have a2:=T0.half (T0.turn rC) (by omega) BL lastB bn bm;have q1:qY ps i j M N=M::(bz ps (i+1)::B)++[N]:=by unfold qY;rw[oa];rfl
 have w9:qZ ps i j M N=N::(bz ps ((j+1)%ps.length)::D)++[M]:=by unfold qZ;rw[ZU [N],q0];rfl
 have big:∀x∈ps,da (2*m+3) x:=fun x h=>(ag x h).mono (by omega);have So:∀x∈bz ps (i+1)::B,x∈ps:=fun x h=>by rw[<-oa]at h;exact adm (acD h)
 have Sp:∀x∈bz ps ((j+1)%ps.length)::D,x∈ps:=fun x h=>by
  rw[<-q0]at h;rcases ZK.mp h with h|h
  ·exact adm h
  ·exact acD h
 have cc:bz ps i≠bz ps (i+1):=cv.side (by
  rw[wt];refine ZJ.mpr ⟨i+1,aar.mpr (by omega),?_⟩
  rw[show i+1+ps.length-1=i+ps.length by omega,abf,ZW (by omega)])
 have dk:bz ps j≠bz ps ((j+1)%ps.length):=cv.side (by
  rw[wt];refine ZJ.mpr ⟨(j+1)%ps.length,aar.mpr cn,?_⟩;congr 1;by_cases z:j+1<ps.length
  ·rw[ZW z,show j+1+ps.length-1=j+ps.length by omega,abf,ZW bZ]
  ·rw[show j+1=ps.length by omega,acw,aav,ZW (by omega)];congr 1
   omega)
 refine⟨?_,?_,?_,?_,?_,?_,fun φ=>?_⟩
 ·rw[q1];refine o9.cvx ?_ ((o' _).mp a1)
  first|(simp;done)|(simp;omega)
 ·rw[w9];refine o9.cvx ?_ ((o' _).mp a2)
  first|(simp;done)|(simp;omega)
 ·rw[q1,aah,ZC,Zg,BK]
  first|(simp;done)|(simp;omega)
 ·rw[w9,aah,ZC,Zg,rZ]
  first|(simp;done)|(simp;omega)
 ·rw[q1];intro x aC;rcases ZK.mp aC with aC|aC
  ·rcases ZA.mp aC with rfl|aC
   ·exact gm
   ·exact big x (So x aC)
  ·rw[ZG.mp aC];exact jL
 ·rw[w9];intro x aC;rcases ZK.mp aC with aC|aC
  ·rcases ZA.mp aC with rfl|aC
   ·exact jL
   ·exact big x (Sp x aC)
  ·rw[ZG.mp aC];exact gm
 ·rw[q1,w9,Sm φ lastB BL bm bn BI.pt BH.pt BG.pt BJ.pt gm.pt jL.pt cc dk,<-oa,<-q0,<-ZU,<-Hk φ (ps.take (i+1))];rw[<-whole]
end Cut
namespace Cut
theorem Sq{ns:List Int}{x y:Int}(h:ns.Perm [x,y])(s:ns.Pairwise (· <= ·)):(ns=[x,y]/\x<=y)∨(ns=[y,x]/\y<=x):=by
 match ns,h.length_eq with
 | [a,b],_ =>
  have hs:a<=b:=by simpa using s
  have ay:a∈[x,y]:=h.mem_iff.mp (by simp);have af:b∈[x,y]:=h.mem_iff.mp (by simp);have aC:x∈[a,b]:=h.mem_iff.mpr (by simp);have a6:y∈[a,b]:=h.mem_iff.mpr (by simp);simp at ay af aC a6;rcases ay with rfl|rfl
  ·have:b=y:=by omega
   subst this;exact .inl ⟨rfl,hs⟩
  ·have:b=x:=by omega
   subst this;exact .inr ⟨rfl,hs⟩
theorem Sr{ns:List Int}{a b:Int}{n:Nat}(fE:0<=a)(a1:a<n)(dr:0<=b)(a9:b<(n:Int)-1)(pm:ns.Perm [a,b+if decide (a<=b)=true then 1 else 0])(w':ns.Pairwise (· <= ·)):∃I J:Nat,ns=[(I:Int),(J:Int)]/\I<J/\J<n:=by
 obtain⟨c,hc,aF,aH,bV⟩:∃c:Int,(b+if decide (a<=b)=true then 1 else 0)=c/\a≠c/\0<=c/\c<n:=by
  by_cases h:a<=b
  ·rw[decide_eq_true h,if_pos rfl];exact⟨b+1,rfl,by omega,by omega,by omega⟩
  ·rw[decide_eq_false h,if_neg ZR];exact⟨b+0,rfl,by omega,by omega,by omega⟩
 rw[hc]at pm;rcases Sq pm w' with⟨rfl,l⟩|⟨rfl,l⟩
 ·exact⟨a.toNat,c.toNat,by rw[ab0 fE,ab0 aH],by omega,by omega⟩
 ·exact⟨c.toNat,a.toNat,by rw[ab0 fE,ab0 aH],by omega,by omega⟩
end Cut
namespace Cut
open PySem L2 L3
theorem Su{α:Type}{xs:List α}{i j:Nat}(h:i<=j)(ab:j<=xs.length):fU xs (some ((i:Nat):Int)) (some ((j:Nat):Int))=(xs.drop i).take (j-i):=by
 have ai:HT.sIx xs.length 0 (some ((i:Nat):Int))=i:=by
  unfold HT.sIx
  first|omega|(simp only[];split<;>omega)|(split<;>omega)|(dsimp only;split<;>(try split)<;>omega)
 have av:HT.sIx xs.length xs.length (some ((j:Nat):Int))=j:=by
  unfold HT.sIx
  first|omega|(simp only[];split<;>omega)|(split<;>omega)|(dsimp only;split<;>(try split)<;>omega)
 unfold fU;rw[ai,av]
theorem Sv{ps:List P3}{i j:Nat}{p q:P3}(h:i<j)(ab:j<ps.length):eh (qY ps i j p q)=.lst ([dP p]++fU (ps.map dP) (some ((i:Int)+1)) (some ((j:Int)+1))++[dP q]):=by
 have e:=Su (xs:=ps) (i:=i+1) (j:=j+1) (by omega) (by omega);rw[show((i:Int)+1)=((i+1:Nat):Int) by omega,show((j:Int)+1)=((j+1:Nat):Int) by omega,zM,e,show j+1-(i+1)=j-i by omega];show D.lst ((qY ps i j p q).map dP)=_
 unfold qY;rw[ZD,ZD];rfl
theorem Sw{ps:List P3}{i j:Nat}{p q:P3}(h:i<j)(ab:j<ps.length):eh (qZ ps i j p q)=.lst ([dP q]++fU (ps.map dP) (some ((j:Int)+1)) none++fU (ps.map dP) none (some ((i:Int)+1))++[dP p]):=by
 have ai:=Ow (xs:=ps) (i:=(j:Int)+1) (by omega) (by omega);have av:=EN (xs:=ps) (i:=(i:Int)+1) (by omega) (by omega);rw[zM,zM,ai,av,show((j:Int)+1).toNat=j+1 by omega,show((i:Int)+1).toNat=i+1 by omega];show D.lst ((qZ ps i j p q).map dP)=_
 unfold qZ;rw[ZD,ZD,ZD];rfl
theorem Hl(φ:List (List Int)->Int):∀{rs:List (List P3)}{n:Nat}{r:List P3},rs[n]?=some r->e0 φ (rs.eraseIdx n)+dd φ r=e0 φ rs
 | [],_,_,h=>by simp at h
 | q::rs,0,r,h=>by
  have e:q=r:=by simpa using h
  subst e;rw[List.eraseIdx_cons_zero,n7];grind
 | q::rs,n+1,r,h=>by
  have:=Hl φ (rs:=rs) (n:=n) (r:=r) (by simpa using h);rw[acR,n7,n7];grind
end Cut
namespace Cut
open PySem L2 L3
open PySem.Builtin.Int (intBits)
theorem Hm{α β:Type}(f:α->β):∀(l:List α)(n:Nat),(l.map f).eraseIdx n=(l.eraseIdx n).map f
 | [],_=>rfl
 | _::_,0=>rfl
 | x::l,n+1=>by
  show f x::(l.map f).eraseIdx n=f x::(l.eraseIdx n).map f
  rw[Hm f l n]
end Cut
namespace L3
open PySem L2
section
variable{K:PySem.W.Frag}{u:a5}{w:cQ}
def Sx(K:PySem.W.Frag)(B:ao)(J:hX)(ds:List D):Prop:=∀(H:ao),cm B H->∀i,(i<ds.length->J.go i H)/\(ds.length<=i->J.stop i H)/\∀x H',i<ds.length->J.yld i H x H'->∃q vs es,H q=none/\x=.ref q/\H'=upd H q (.tup vs)/\ds[i]?=some (.tup es)/\Reps K B vs es
def Hn(K:PySem.W.Frag)(t:TI)(u:cQ):Prop:=∀(ρ:List aI)(k:List D->Prop),u ρ k->∀(R:ao)(W:Addr->Prop)(B H:ao)(σ:St)(Q:hX->ao->Prop),Ev K R W B H σ ρ ->
 (∀ds J ax H',k ds->Ev K R W ax H' σ ρ->bM R B ax->Sx K ax J ds->Q J H')->t σ H Q
theorem Sy{ft:TI}{g:gq}{tt:TT}{cD:TE}{eY:ee}{ut:dD}{dE:Nat}{js:List Nat}(h0:Hn K ft w)(aD:qk K g eY)(bt:hK K tt ut)(aa:eL K cD u)(o4:js.Nodup):qj K (qv ft g tt cD dE js) (nH w eY ut u dE js):=by
 intro ρ k h R W B H σ Q e q;refine h0 ρ _ h R W B H σ _ e fun ds J a4 H1 z1 ai g1 it=>?_;obtain⟨aj,z1⟩:=z1;intro D gJ;obtain⟨f1,f2,bQ⟩:=ai.toWd.fresh gJ;have nJ:∀i,¬cX σ ρ i D:=fun i m=>ai.notNew gJ m rfl;have eE:=ai.within dE o4
 have kD:∀j a,cX (ZI dE none++hp σ js) (ZI dE .no++js.map (jm ρ)) j a->∃j,j∈js/\σ[j]?=some (some (V.ref a))/\ρ[j]?=some aI.bag:=fun j a m=>by
  have bS:=(eE.mutOk m).2;rcases m with⟨bw,z|⟨es,z⟩⟩|⟨c,z,oN⟩
  ·obtain⟨c,aF,aH,_⟩:=eE.bagAt z;rw[bw]at aF;cases aF;rcases aH with aH|aH
   ·exact aH
   ·exact absurd aH bS
  ·obtain⟨c,aF,aH,_⟩:=eE.ownC z;rw[bw]at aF;cases aF;exact absurd aH bS
  ·exact absurd ((eE.deepAt z).2.fr a oN).1 bS
 generalize nK:(fun a=>∃j,j∈js/\σ[j]?=some (some (V.ref a))/\ρ[j]?=some aI.bag)=e' at eE;have kD:∀j a,cX (ZI dE none++hp σ js) (ZI dE .no++js.map (jm ρ)) j a->e' a:=fun j a m=>by rw[<-nK];exact kD j a m
 have g0:∀a,e' a->∃i:Nat,σ[i]?=some (some (.ref a))/\ρ[i]?=some .bag:=fun a z=>by
  rw[<-nK]at z;obtain⟨j,_,z⟩:=z;exact⟨j,z⟩
 have kE:¬e' D:=fun z=>by
  obtain⟨o5,bE,c3⟩:=g0 D z;exact nJ o5 (.inl ⟨bE,.inl c3⟩)
 refine⟨fun i m iX H'=>∃ax ys es hN,m=ds.length-i/\i<=ds.length/\Ev K H1 e' ax H' iX hN/\bM H1 a4 ax/\H' D=some (.lst ys)/\ax D=none/\(∀j a,cX iX hN j a->e' a)/\ys.length<=i/\Reps K ax ys es/\gN eY ut u (ds.drop i) hN fun r=>k (es++r),
  ⟨ds.length,a4,[],[],_,by simp,aaa _,eE.allocH gJ _,bM.refl _ _,ei,bQ,kD,YK _,.nil,by simpa using z1⟩,?_⟩
 rintro i m iX aZ ⟨bD,ys,es,hN,rfl,aB,av,g2,a6,af,sb,EJ,cu,aT⟩;obtain⟨t1,cE,t3⟩:=it aZ (g2.s.trans av.bh) i;by_cases cM:i<ds.length
 ·refine .inr ⟨t1 cM,fun x H' y=>?_⟩;obtain⟨fF,pC,Ho,lP,rfl,rfl,hd,bg⟩:=t3 x H' cM y
  have gd:ds.drop i=.tup Ho::ds.drop (i+1):=by
   rw[aaH cM];rw[ZT cM]at hd;rw[ZH hd]
  rw[gd]at aT;have Hp:D≠fF:=fun z=>by rw[z,lP]at a6;cases a6
  have Hq:=av.grow lP (.tup pC);have BM:=av.alloc lP (.tup pC);have xa:upd aZ fF (.tup pC) D=some (.lst ys):=by rw[dM Hp];exact a6
  have Hr:upd bD fF (.tup pC) D=none:=by rw[dM Hp];exact af
  have BN:=cu.mono Hq.s;have xb:=g2.trans Hq;have Hs:Rep K (upd bD fF (.tup pC)) (.ref fF) (.tup Ho):=.tup ei (bg.mono xb.s);generalize upd aZ fF (.tup pC)=H' at BM xa;generalize upd bD fF (.tup pC)=BO at BM Hr BN xb Hs;refine aD _ hN _ aT H1 e' BO H' iX _ _ BM Hs fun hO fS fk bC bA=>?_;have gO:∀j a,cX fS hO j a->e' a:=fun j a m=>sb j a (bA j a m)
  have kF:∀{fV:ao},bM H' BO fV->fV D=none:=fun{fV} dx=>by
   cases sd:fV D with
   | none=>rfl
   | some o =>
    rcases dx.n D o sd with z|z
    ·rw[Hr]at z;cases z
    ·rw[xa]at z;cases z
  refine bt hO _ fk H' e' BO H' fS _ (bC.rebase gO) fun b fV kB eW c6 dx=>?_;have se:kB D=some (.lst ys):=c6.fr D _ xa kE;cases b with
  | false =>
   rw[if_neg ZR]at eW ⊢;obtain⟨eK,iY⟩:=bC.unbase gO c6 dx;exact⟨ds.length-(i+1),by omega,fV,ys,es,hO,rfl,cM,eK,xb.trans iY,se,kF dx,gO,by omega,BN.mono dx.s,eW⟩
  | true =>
   rw[if_pos rfl]at eW ⊢;refine aa hO _ eW H' e' fV kB fS _ c6 fun eu v sf fI kC eK iY s5=>?_;have iZ:=dx.trans iY;have si:fI D=some (.lst ys):=eK.fr D _ xa kE;obtain⟨mj,sj⟩:=bC.unbase gO eK iZ;refine⟨ys,si,by omega,ds.length-(i+1),by omega,sf,ys++[v],es++[eu],hO,rfl,cM,mj.scribble gJ (kF iZ) (fun j m=>kE (gO j D m)) _,xb.trans sj,ei,kF iZ,gO,by rw[Zg,aal];omega,(BN.mono iZ.s).append (.cons s5 .nil),?_⟩;simpa[ZU]using kC
 ·have eq:i=ds.length:=by omega
  subst eq;rw[aaP]at aT;obtain⟨c6,dx⟩:=ai.after g0 av.toWd g2;refine .inl ⟨cE (YK _),q _ D ys bD aZ (by simpa[gN]using aT) c6 (g1.trans dx) f1 af a6 cu nJ⟩
def Ht(X:aM)(bG e:Expr)(u:cQ):Prop:=∃t,jG X bG e t/\Hn X.K t u
variable{X:aM}{elt iter bG:Expr}{ifs:List Expr}{scope:Scope}{cl:List (Str×Addr)}{ts fr:List Str}{js:List Nat}{eY:ee}{ut:dD}{pos:Pos}
theorem Hu(aB:Ht X bG iter w)(aD:∀C s H ex,iT (dn X (ts++fr) scope cl C s H ex) bG eY)(ix:∀C s H ex,nL (dn X (ts++fr) scope cl C s H ex) ifs ut)(iy:∀C s H ex,bq (dn X (ts++fr) scope cl C s H ex) elt u)(F:nE X scope cl fr js)(my:js.Nodup:=by decide)(hc:X.calm=true:=by rfl)(aq:∀v,foldedSetIterable iter X.env v=pure v:=by intro _;rfl):kq X (.ListComp elt [⟨bG,iter,ifs,0⟩] scope pos) (nH w eY ut u ts.length js):=by
 obtain⟨_,h0,gw⟩:=aB;obtain⟨vC,mz,rg⟩:=sm (K:=X.K) (Xs:=fun a:Addr×Shared×ao×List Addr=>dn X (ts++fr) scope cl a.1 a.2.1 a.2.2.1 a.2.2.2) (fun _=>rfl) fun a=>aD a.1 a.2.1 a.2.2.1 a.2.2.2;obtain⟨tt,mA,rt⟩:=sk (K:=X.K) (Xs:=fun a:Addr×Shared×ao×List Addr=>dn X (ts++fr) scope cl a.1 a.2.1 a.2.2.1 a.2.2.2) (fun _=>rfl) fun a=>ix a.1 a.2.1 a.2.2.1 a.2.2.2;obtain⟨cD,mB,re⟩:=vB (K:=X.K) (Xs:=fun a:Addr×Shared×ao×List Addr=>dn X (ts++fr) scope cl a.1 a.2.1 a.2.2.1 a.2.2.2) (fun _=>rfl) fun a=>iy a.1 a.2.1 a.2.2.1 a.2.2.2;exact⟨_,z2 h0 (fun C s H ex=>mz (C,s,H,ex)) (fun C s H ex=>mA (C,s,H,ex)) (fun C s H ex=>mB (C,s,H,ex)) F hc aq,Sy gw rg rt re my⟩
end
end L3
namespace Cut
open PySem L2 L3
open PySem.Builtin.Int (intBits)
theorem fx.refl(rs:List (List P3)):fx rs rs:=fun _=>rfl
end Cut
namespace L3
open PySem PySem.Spec PyProof.Rows PySem.W L2
section
variable{X:aM}
theorem ld_var{E:Value->Shared->Prop}{pins:List (Addr×Obj)}{s:Shared}{σ:L2.St}{H:ao}{i:Nat}{x:Str}{v:V}{pos:Pos}{Q:Value->Shared->Prop}(I:Inv X pins σ H s)(bI:X.N[i]?=some x)(aP:gF X.env.scope x)(e:σ[i]?=some (some v))(h:∀u,RelV v u->Q u s)(hd:(x==("__debug__":Str))=false:=by decide)(dz:(x==("__classdict__":Str))=false:=by decide):wpAny (model X.prog X.w) X.A (eval (.Name x pos) X.env) Q E s:=by
 obtain⟨m,aN,aj⟩:=I.loc;obtain⟨u,r,l⟩:=aj i x v bI e aP;have fin:=h u r;rcases l with⟨ah,hm⟩|⟨ah,c,hc,oD⟩
 ·exact wpAny_Name (wpAny_loadName_local I.ok.kind ah aN hm fin) hd
 ·rcases ah with ah|ah
  ·exact wpAny_Name (wpAny_loadName_cell I.ok.kind ah hc oD fin) hd
  ·exact wpAny_Name (wpAny_loadName_free I.ok.kind ah hc oD fin dz) hd
end
end L3
namespace L3
open PySem PySem.Spec PyProof.Rows L2
section
open PySem.W
variable{X:aM}
end
end L3
namespace L2
open PySem PySem.Spec PyProof.Rows PySem.W
variable{X:aM}
def BP(i:Nat)(f:Addr)(sp:gH)(E:fB)(t:eV):TE:=fun σ H Q=>σ[i]?=some (some (.ref f))/\uN sp [] E t σ H Q
theorem Hv{i:Nat}{x y:Str}{f:Addr}{ps:List Str}{j k:Nat}{sp:gH}{p pos:Pos}{e:Expr}{es:List Expr}{t:eV}(c:aJ X.prog X.w X.K X.mg X.base y ps j sp)(hm:X.mg y=some (.ref f))(ak:eA k X.A)(ay:hn X (e::es) t)(gL:j<=k)(bI:X.N[i]?=some x)(aP:gF X.env.scope x)(hd:(x==("__debug__":Str))=false)(dz:(x==("__classdict__":Str))=false)(he:starEach (e::es) X.env=(false,eval e X.env)::starEach es X.env:=by rfl)(e6:(backTo pos (starEach es X.env)).any (·.1)=false:=by rfl):
  b0 X (.Call (.Name x p) (e::es) [] pos) (BP i f sp oO t):=by
 obtain⟨Zi,fd,m,kp,b,F⟩:=c.ex;rw[hm]at m;cases m;intro pins s σ H Q I h;obtain⟨h0,h⟩:=h;refine wpAny_Call_Name_kw (L3.ld_var I bI aP h0 (fun u r=>?_) hd dz);cases r;refine PySem.W.callWith_K (h₀:=X.base) I.ok.mod.kin kp (ck (ay pos pins s σ H _ I h) fun us s1 ⟨vs,H1,bf,r,q⟩=>⟨bf.kIn,?_⟩) he e6;exact Du F (ak.mono gL) b .nil DQ bf r q
end L2
namespace L3
open PySem L2
section
variable{X:aM}{e:Expr}{es:List Expr}{w:cQ}{u dg dB:a5}{p pos:Pos}{n:Nat}{tH bj:FS}
theorem Hw{x:Str}{f:Addr}(hm:X.mg x=some (.ref f))(aD:eJ X x)(hd:(x==("__debug__":Str))=false:=by decide):bq X (.Name x pos) (ql (.kfn f)):=
 ⟨_,C7 (v:=.ref f) aD hm rfl hd,fun _ _ h _ _ B H _ _ e q=>q _ _ B H h e (bM.refl _ _) (.kfn f)⟩
theorem call_plain{x:Str}{ps:List Str}{R:ao}{W:Addr->Prop}{B H:ao}{σ:St}{ρ:List aI}{F:FS}{t:eV}{w:hJ}(au:D3 X.K t w){k:D->Prop}(h:ku n F w ρ k){Q:cO}(e:Ev X.K R W B H σ ρ)(q:∀d v ax H',k d->Ev X.K R W ax H' σ ρ->bM R B ax->Rep X.K ax v d->Q v H'):uN (aL X.K n F) [] oO t σ H Q:=by
 refine au ρ _ h R W B H σ _ e fun as vs a4 H1 z1 ai g1 s1=>?_;rw[ZF];refine qp ai s1 z1.1 z1.2 fun r v bD aZ ah av g2 res=>?_;cases r with
 | no=>exact ah.elim
 | bag=>exact ah.elim
 | pin v d=>exact ah.elim
 | deep c=>exact ah.elim
 | val d=>exact q d v bD aZ ah av (g1.trans g2) res
 | new d=>exact q d v bD aZ ah av (g1.trans g2) (Rep.mono iS res)
 | own c =>
  cases c with
  | d _ _ _ _=>exact ah.elim
  | l ds =>
  obtain⟨a,rfl,f1,f2,us,bQ,f4⟩:=res
  obtain⟨bC,g3⟩:=av.freeze bQ (ai.toWd.fresh f1).1 f2 fun i m=>absurd f1 (by
   have bw:cX σ ρ i a:=m
   exact(ai.mutOk bw).2)
  exact q _ _ _ _ ah bC ((g1.trans g2).trans g3) (.lst ei (f4.mono g3.s))
def SA(i:Nat)(f1 f2:Addr)(n:Nat)(tH bj:FS)(w:hJ):a5:=fun ρ k=>(ρ[i]?=some (.val (.kfn f1))/\ku n tH w ρ k)∨(ρ[i]?=some (.val (.kfn f2))/\ku n bj w ρ k)
theorem BQ(i:Nat){x bE c3:Str}{a1 a2:Addr}{xc SD:List Str}{eN eO lv:Nat}{w:hJ}(aF:aJ X.prog X.w X.K X.mg X.base bE xc eN (aL X.K n tH))(bw:X.mg bE=some (.ref a1))(aH:aJ X.prog X.w X.K X.mg X.base c3 SD eO (aL X.K n bj))(b3:X.mg c3=some (.ref a2))(ak:eA lv X.A)(ay:ly X (e::es) w)(aa:eN<=lv:=by decide)(ab:eO<=lv:=by decide)(bI:X.N[i]?=some x:=by rfl)(aP:gF X.env.scope x:=by first|exact Sz rfl|exact Zh (Sz rfl)|exact Zh (Zh rfl))(hd:(x==("__debug__":Str))=false:=by decide)(dz:(x==("__classdict__":Str))=false:=by decide)(he:starEach (e::es) X.env=(false,eval e X.env)::starEach es X.env:=by rfl)(e6:(backTo pos (starEach es X.env)).any (·.1)=false:=by rfl):
  bq X (.Call (.Name x p) (e::es) [] pos) (SA i a1 a2 n tH bj w):=by
 obtain⟨t,g1,au⟩:=ay;refine⟨fun σ H Q=>BP i a1 (aL X.K n tH) oO t σ H Q∨BP i a2 (aL X.K n bj) oO t σ H Q,fun pins s σ H Q I h=>?_,fun ρ k h R W B H σ Q e q=>?_⟩
 ·rcases h with h|h
  ·exact Hv aF bw ak g1 aa bI aP hd dz he e6 pins s σ H Q I h
  ·exact Hv aH b3 ak g1 ab bI aP hd dz he e6 pins s σ H Q I h
 ·rcases h with⟨h0,h⟩|⟨h0,h⟩
  ·obtain⟨v,pl,cb⟩:=e.val h0;cases cb;exact .inl ⟨pl,call_plain (x:=bE) (ps:=xc) au h e q⟩
  ·obtain⟨v,pl,cb⟩:=e.val h0;cases cb;exact .inr ⟨pl,call_plain (x:=bE) (ps:=xc) au h e q⟩
def SE(u:a5):cQ:=fun ρ k=>u ρ fun x=>∃ds,x=.lst ds/\k (h6 0 ds)
theorem xf:∀(n:Nat)(ds:List D),(h6 n ds).length=ds.length
 | _,[]=>rfl
 | n,d::ds=>by simp[h6,xf (n+1) ds]
theorem Hx:∀(n:Nat){ds:List D}{i:Nat}{d:D},ds[i]?=some d->(h6 n ds)[i]?=some (.tup [.int ((n+i:Nat):Int),d])
 | _,[],i,d,h=>by simp at h
 | n,x::ds,0,d,h=>by simp at h;subst h;rfl
 | n,x::ds,i+1,d,h=>by
  have:=Hx (n+1) (ds:=ds) (i:=i) (d:=d) (by simpa using h);rw[show n+1+i=n+(i+1) by omega]at this;simpa[h6]using this
theorem Hy{i3:Pos}{elts:List Expr}{aY:Nat}{a:Expr}(ay:bq X a u)(aD:eJ X "enumerate")(hm:X.mg "enumerate"=none)(aq:starEach [a] X.env=[(false,eval a X.env)]:=by rfl):Ht X (.Tuple elts aY i3) (.Call (.Name "enumerate" p) [a] [] pos) (SE u):=by
 obtain⟨_,aa,au⟩:=ay;refine⟨_,AG aD hm (er aa fK (by rw[aq];rfl)) aq,fun ρ k h R W B H σ Q e q=>?_⟩;refine au ρ _ h R W B H σ _ e fun d v a4 H1 z1 ai g1 s1=>?_;obtain⟨ds,rfl,z⟩:=z1;obtain⟨ez,vs,rfl,ed,hE⟩:=s1.lstV;refine⟨ez,rfl,⟨vs,cJ.of (ai.bh _ _ ed)⟩,q _ _ a4 H1 z ai g1 fun H' wJ i=>?_⟩;have dw:=wJ _ _ ed;have ll:=hE.length;rw[xf];refine⟨fun aB=>?_,fun aB=>⟨vs,cJ.of dw,by omega⟩,fun x aZ aB y=>?_⟩
 ·exact⟨vs,vs[i],cJ.of dw,ZT (by omega)⟩
 ·obtain⟨lS,y,ag,rfl,rfl,a6⟩:=y;obtain⟨d,hd,iv⟩:=hE.getV (a6 vs (cJ.of dw));have:=Hx 0 hd;rw[aav]at this;exact⟨lS,_,_,ag,rfl,rfl,this,.cons (.int _) (.cons iv .nil)⟩
theorem Reps.dropLast{K:PySem.W.Frag}{B:ao}:∀{vs:List V}{ds:List D},Reps K B vs ds->Reps K B vs.dropLast ds.dropLast
 | _,_,.nil=>.nil
 | _,_,.cons r .nil=>.nil
 | _,_,.cons r (.cons aG t)=>.cons r (Reps.dropLast (.cons aG t))
def SF(i j:Nat)(dg dB:a5):cW:=fun U ρ=>∃(ds:List D)(z:D),ρ[j]?=some (.own (ds++[z]))/\dg ρ fun bN=>dB ρ fun b1=>U.nx ((ρ.set j (.own ds)).set i (.val (.tup [bN,b1,z])))
theorem SG(i j:Nat){x y:Str}{ai av:Expr}{px pos' apos c8:Pos}{Hz}(aa:bq X ai dg)(ab:bq X av dB)(bI:X.N.Nodup)(aB:X.N[i]?=some y)(a6:Loc X.env.scope y)(bZ:X.N[j]?=some x:=by rfl)(aP:gF X.env.scope x:=by first|exact Sz rfl|exact Zh (Sz rfl)|exact Zh (Zh rfl))(hd:(x==("__debug__":Str))=false:=by decide)(dz:(x==("__classdict__":Str))=false:=by decide)(ie:attributeBase (.Name x px) "pop" X.env (eval (.Name x px) X.env)=eval (.Name x px) X.env:=by rfl)(ig:(apos.endLine==c8.line)=true:=by rfl)(sR:starEach [ai,av,.Call (.Attribute (.Name x px) "pop" apos) [] [] c8] X.env=(false,eval ai X.env)::starEach [av,.Call (.Attribute (.Name x px) "pop" apos) [] [] c8] X.env:=by rfl)(jI:starEach [av,.Call (.Attribute (.Name x px) "pop" apos) [] [] c8] X.env=(false,eval av X.env)::starEach [.Call (.Attribute (.Name x px) "pop" apos) [] [] c8] X.env:=by rfl)(qw:starEach [.Call (.Attribute (.Name x px) "pop" apos) [] [] c8] X.env=(false,eval (.Call (.Attribute (.Name x px) "pop" apos) [] [] c8) X.env)::starEach [] X.env:=by rfl)(aq:swapsWith (.Tuple [ai,av,.Call (.Attribute (.Name x px) "pop" apos) [] [] c8] Hz p) (some (.Name y pos')) pos.line X.env=pure false:=by rfl)(hf:X.fn y=true∨X.env.scope.names.lookup y=some .local:=by first|exact .inl rfl|exact .inr rfl|assumption):
  e7 X (.Assign [.Name y pos'] (.Tuple [ai,av,.Call (.Attribute (.Name x px) "pop" apos) [] [] c8] Hz p) pos) (SF i j dg dB):=by
 obtain⟨_,g1,au⟩:=aa;obtain⟨_,g2,aG⟩:=ab;refine⟨_,p3 bI aB a6 (y' (er g1 (er g2 (er (L5 abv adi adj Ma (ic bZ aP hd dz) ie ig) fK qw) jI) sR)) aq hf,fun U ρ h R W B H σ D e s=>?_⟩;obtain⟨ds,z,aE,h⟩:=h;refine au ρ _ h R W B H σ _ e fun bN v1 a4 H1 z1 f1 bU s1=>?_;refine aG ρ _ z1 R W a4 H1 σ _ f1 fun b1 v2 bD aZ aT f2 cn s2=>?_;obtain⟨a,vs,aW,bS,fC,p5,tI⟩:=f2.ownAt aE;have ll:=tI.length;rw[Zg,aal]at ll;obtain⟨eu,ni,cu⟩:=tI.get (i:=ds.length) (d:=z) (by simp);refine⟨_,aW,.inl ⟨rfl,vs,cJ.of p5⟩,a,vs,eu,rfl,rfl,p5,by rw[ll];exact ni,?_⟩
 have bQ:=f2.write aW aE (ds':=ds) (vs:=vs.dropLast) (by
  have:=tI.dropLast
  rwa [acF]at this)
 refine⟨show 3<=sizeLine by decide,fun lS HA=>?_⟩;have g3:=bQ.grow HA (.tup [v1,v2,eu]);exact s.nx _ _ _ _ aT ((bQ.alloc HA _).setV i (.tup ei (.cons ((s1.mono cn.s).mono g3.s) (.cons (s2.mono g3.s) (.cons (cu.mono g3.s) .nil))))) ((bU.trans cn).trans g3)
end
end L3
namespace Cut
open PySem L2 L3
open PySem.Builtin.Int (intBits)
theorem SH{l a b c:P3}(aj:l.1≠0∨l.2.1≠0)(ay:ln l a=0)(af:ln l b=0)(hc:ln l c=0)(pc:0<c.2.2):bc a b c=0:=by
 have ai:l.1*bc a b c=0:=by
  unfold ln at ay af hc;unfold bc crs;grind
 have av:l.2.1*bc a b c=0:=by
  unfold ln at ay af hc;unfold bc crs;grind
 rcases aj with h|h
 ·exact(aab.mp ai).resolve_left h
 ·exact(aab.mp av).resolve_left h
theorem SI{l:P3}{b9:List P3}(aj:l.1≠0∨l.2.1≠0)(t:T0 b9)(ag:∀p∈b9,0<p.2.2):(b9.filter fun x=>decide (ln l x=0)).length<=2:=by
 have cE:=t.sub (List.filter_sublist (p:=fun x=>decide (ln l x=0)))
 have z:∀x∈b9.filter fun x=>decide (ln l x=0),ln l x=0/\0<x.2.2:=fun x aC=>by
  have:=aaU.mp aC;exact⟨by simpa using this.2,ag x this.1⟩
 match h:b9.filter fun x=>decide (ln l x=0),cE,z with
 | [],_,_=>simp
 | [_],_,_=>simp
 | [_,_],_,_=>simp
 | a::b::c::r,cE,z =>
  exfalso
  have:=cE.1.1 c (by simp);have e:=SH aj (z a (by simp)).1 (z b (by simp)).1 (z c (by simp)).1 (z c (by simp)).2;omega
def pos(f:P3->Int)(ps:List P3):Nat:=(ps.filter fun x=>decide (0<f x)).length
theorem HB{f:P3->Int}{mt:P3->P3->P3}(hm:∀p q,f p*f q<0->f (mt p q)=0):∀(ps:List P3)(w:P3),pos f (c9 f mt ps w)<=pos f ps
 | [],_=>YK _
 | p::r,w=>by
  have c0:=HB hm r w;show pos f (kp f p++cF f mt p (r.headD w)++c9 f mt r w)<=_
  unfold pos at c0 ⊢;rw[abz,abz,Zg,Zg]
  have aa:((kp f p).filter fun x=>decide (0<f x)).length=if 0<f p then 1 else 0:=by
   unfold kp;by_cases z:0<f p
   ·rw[if_pos (by omega),if_pos z];simp[z]
   ·rw[if_neg z];by_cases y:0<=f p
    ·rw[if_pos y];simp[z]
    ·rw[if_neg y];rfl
  have ab:((cF f mt p (r.headD w)).filter fun x=>decide (0<f x)).length=0:=by
   unfold cF;by_cases z:f p*f (r.headD w)<0
   ·rw[if_pos z,ab1,if_neg (by rw[hm _ _ z];decide)];rfl
   ·rw[if_neg z];rfl
  rw[aa,ab,ab1];by_cases z:0<f p
  ·rw[if_pos z,if_pos (by simpa using z),ZC];omega
  ·rw[if_neg z,if_neg (by simpa using z)];omega
theorem SJ{l:P3}{mt:P3->P3->P3}{ps:List P3}(gK:mI l mt)(aj:l.1≠0∨l.2.1≠0)(t:T0 (dj (ln l) mt ps))(ag:∀p∈dj (ln l) mt ps,0<p.2.2):(dj (ln l) mt ps).length<=ps.length+1:=by
 have aT:=SI aj t ag;have xc:pos (ln l) (dj (ln l) mt ps)<=pos (ln l) ps:=HB (fun p q h=>(gK p q h).2) ps _
 have BR:∀b9:List P3,(∀x∈b9,0<=ln l x)->b9.length=pos (ln l) b9+(b9.filter fun x=>decide (ln l x=0)).length:=by
  intro b9;induction b9 with
  | nil=>intro _;rfl
  | cons q b9 c0 =>
   intro h;have i:=c0 fun x aC=>h x (Zf _ aC);have fF:=h q Zd;unfold pos at i ⊢;rw[ab1,ab1];by_cases z:ln l q=0
   ·rw[if_neg (by simp[z]),if_pos (by simp[z]),ZC,ZC];omega
   ·rw[if_pos (by simp;omega),if_neg (by simp[z]),ZC,ZC];omega
 have nn:∀x∈dj (ln l) mt ps,0<=ln l x:=fun x aC=>by
  rcases pk aC with⟨_,h⟩|⟨p,_,q,_,h,rfl⟩
  ·exact h
  ·have:=(gK p q h).2;omega
 have e:=BR _ nn;have le:pos (ln l) ps<=ps.length:=abX _ _;by_cases all:pos (ln l) ps=ps.length
 ·-- all at Zj left: nothing is cut
  have ap:∀x∈ps,0<ln l x:=fun x aC=>by
   have:=List.length_filter_eq_length_iff.mp all x aC;simpa using this
  have SK:(dj (ln l) mt ps).filter (fun x=>decide (ln l x=0))=[]:=by
   rw[List.filter_eq_nil_iff];intro x aC;rcases pk aC with⟨h,_⟩|⟨p,aa,q,ab,h,rfl⟩
   ·have:=ap x h;simp;omega
   ·have a:=ap p aa;have b:=ap q ab;have:=Ze a b;omega
  rw[SK]at e;simp at e;omega
 ·omega
structure i8 (b m n t:Nat) (s:Piece):Prop where
 cv:eP s.1
 rb:wy b m s.1
 ln:s.1.length<=n
 st:da t s.2.2
theorem i8.mono{b m n t b' m' n' t':Nat}{s:Piece}(h:i8 b m n t s)(aa:b<=b')(ab:m<=m')(aK:n<=n')(bo:t<=t'):i8 b' m' n' t' s :=
 ⟨h.cv,⟨fun x aC=>(h.rb.pts x aC).mono aa,fun e he=>by obtain⟨g,a,c⟩:=h.rb.lin e he;exact⟨g,a.mono ab,c⟩⟩,Gg h.ln aK,h.st.mono bo⟩
theorem wy.cut2{b c m:Nat}{l:P3}{ps:List P3}(h:wy b m ps)(bl:cj c l)(hh:c<=m)(aj:l.1≠0∨l.2.1≠0∨l.2.2≠0)(o:P3)(aE:Cut.ln l o=0)(hm:c+m+1<=b)(g5:P3)(e:g5=l∨g5=kO l):wy b m (dj (Cut.ln g5) (aX l) ps):=by
 have gK:mI g5 (aX l):=by
  rcases e with rfl|rfl
  ·exact we _
  ·exact(we _).ng
 have tG:∀u,Cut.ln g5 u=0↔Cut.ln l u=0:=fun u=>by
  rcases e with rfl|rfl
  ·exact Iff.rfl
  ·rw[lQ];omega
 have bA:∀p q,Cut.ln g5 p*Cut.ln g5 q<0->Cut.ln l p*Cut.ln l q<0:=fun p q z=>by
  rcases e with rfl|rfl
  ·exact z
  ·rw[lQ,lQ,aay]at z;exact z
 refine⟨fun x aC=>?_,Qu (f:=Cut.ln g5) (mt:=aX l) (ps:=ps) (C:=fun u v=>∃g:P3,cj m g/\(g.1≠0∨g.2.1≠0∨g.2.2≠0)/\Cut.ln g u=0/\Cut.ln g v=0) (fun u v bF aP=>⟨l,bl.mono hh,aj,(tG u).mp bF,(tG v).mp aP⟩) o ((tG o).mpr aE) (fun e he _ _=>h.lin e he) fun e he c=>?_⟩
 ·rcases QC aC with⟨aa,_⟩|⟨e,he,c,rfl⟩
  ·exact h.pts x aa
  ·have c:=bA _ _ c;obtain⟨bw,b3⟩:=jY he;have gp:=(h.pts _ bw).pt;have hT:=(h.pts _ b3).pt;have cR:=jt gp hT c;obtain⟨g,hr,a7,tJ,tK⟩:=h.lin e he
   have wn:(crs e.1 e.2).1≠0∨(crs e.1 e.2).2.1≠0∨(crs e.1 e.2).2.2≠0:=by
    apply aak;intro z;refine cR ?_;have z1:(crs e.1 e.2).1=0:=aak fun y=>z (.inl y);have aT:(crs e.1 e.2).2.1=0:=aak fun y=>z (.inr (.inl y));show l.1*(crs e.1 e.2).2.1-l.2.1*(crs e.1 e.2).1=0
    rw[z1,aT];grind
   obtain⟨a,b',ay,af,kA⟩:=par a7 tJ tK wn;obtain⟨dk,av⟩:=QD (l:=l) ay af kA cR;rw[<-jr gp hT,av];exact⟨fg dk,(cj.nP (bl.crs hr) dk).mono hm⟩
 ·obtain⟨g,hr,a7,tJ,tK⟩:=h.lin e he;obtain⟨hQ,z⟩:=gK _ _ c;exact⟨z,fun _=>⟨g,hr,a7,tJ,hQ.ln0 tJ tK⟩,fun _=>⟨g,hr,a7,hQ.ln0 tJ tK,tK⟩⟩
theorem ob{b c m n t:Nat}{l o:P3}{sh:List Piece}(h:∀s∈sh,i8 b m n t s)(bl:cj c l)(hh:c<=m)(aj:l.1≠0∨l.2.1≠0)(aE:Cut.ln l o=0)(hm:c+m+1<=b)(g5:P3)(e:g5=l∨g5=kO l):∀s∈cf (Cut.ln g5) (aX l) sh,i8 b m (n+1) t s:=fun s aq=>by
 obtain⟨q,aA,rfl,c⟩:=sZ aq;have g:=h q aA
 have gK:mI g5 (aX l):=by
  rcases e with rfl|rfl
  ·exact we _
  ·exact(we _).ng
 have SM:g5.1≠0∨g5.2.1≠0:=by
  rcases e with rfl|rfl
  ·exact aj
  ·rcases aj with z|z
   ·exact .inl (by unfold kO sc;dsimp only;omega)
   ·exact .inr (by unfold kO sc;dsimp only;omega)
 obtain⟨t0,e9⟩:=PX gK.meets ((o' q.1).mpr g.cv.tri) g.cv.1 c;have rb:=g.rb.cut2 bl hh (aj.imp id .inl) o aE hm g5 e;refine⟨o9.cvx e9 ((o' _).mp t0),rb,?_,g.st⟩;have:=SJ gK SM t0 fun p ag=>(rb.pts p ag).pt.1;have:=g.ln;show(dj (Cut.ln g5) (aX l) q.1).length<=n+1
 omega
theorem cj.slA{m g:Nat}{l v:P3}(aj:cj m l)(aP:cj g v):cj (m+g+2) (slA v l):=by
 refine⟨Gg (intBits_mul_le aj.a aP.c) (by omega),Gg (intBits_mul_le aj.b aP.c) (by omega),?_⟩;have a:=intBits_mul_le aj.c aP.c;have b:=intBits_mul_le aj.a aP.a;have c:=intBits_mul_le aj.b aP.b;have d:=intBits_sub_le a b;rw[acG]at d;have e:=intBits_sub_le d (Gg c (aa8 _));rw[acG]at e;exact e
theorem SN{v l p:P3}:∃c:Int,Cut.ln (slA v l) (Cut.sld v p)=c*Cut.ln l p:=⟨v.2.2*v.2.2,by
 unfold slA Cut.sld Cut.ln;dsimp only
 grind⟩
theorem i8.slid{b m n t g:Nat}{v:P3}{s:Piece}(h:i8 b m n t s)(aP:da g v):i8 (b+g+1) (m+g+2) n (t+g+1) (eg v s):=by
 have v0:=aP.pt.1;refine⟨?_,⟨fun x aC=>?_,fun e he=>?_⟩,?_,⟨fg (sH aP.pt h.st.pt),aP.bp.sldN h.st.bp aP.pt h.st.pt⟩⟩
 ·exact h.cv.sl aP.pt fun p ag=>(h.rb.pts p ag).pt
 ·obtain⟨p,ag,rfl⟩:=ZJ.mp aC;have:=h.rb.pts p ag;exact⟨fg (sH aP.pt this.pt),aP.bp.sldN this.bp aP.pt this.pt⟩
 ·have he:e∈dc (s.1.map fun p=>nP (Cut.sld v p)):=he;rw[Bo]at he;obtain⟨d,hd,rfl⟩:=ZJ.mp he;obtain⟨l,bl,w5,z1,aT⟩:=h.rb.lin d hd
  have on:∀p,aS p->Cut.ln l p=0->Cut.ln (slA v l) (nP (Cut.sld v p))=0:=fun p ag z=>by
   obtain⟨c,hc⟩:=SN (v:=v) (l:=l) (p:=p);rw[z,ZO]at hc;obtain⟨k,cC,ah⟩:=i0 (sH aP.pt ag);rw[ah,AF]at hc;exact(aab.mp hc).resolve_left cC
  obtain⟨bw,b3⟩:=jY hd;refine⟨slA v l,bl.slA aP.bp,?_,on _ (h.rb.pts _ bw).pt z1,on _ (h.rb.pts _ b3).pt aT⟩;unfold slA;dsimp only;by_cases z:l.1=0
  ·by_cases y:l.2.1=0
   ·have:l.2.2≠0:=by
     rcases w5 with q|q|q
     ·exact absurd z q
     ·exact absurd y q
     ·exact q
    refine .inr (.inr ?_);rw[z,y,aaw,aaw,acE,acE];exact ZN this (by omega)
   ·exact .inr (.inl (ZN y (by omega)))
  ·exact .inl (ZN z (by omega))
 ·show(s.1.map _).length<=n
  rw[YL];exact h.ln
section
variable{f:P3->Int}{mt:P3->P3->P3}{a b c d:P3}
theorem SO(ay:0<f a)(af:f b<0)(hc:f c<0)(hd:0<f d):keepR f mt [a,b,c,d]=[a,mt a b,mt c d,d]:=by
 rw[j6 a (by simp) ay,j5,fy (by omega),gS (.inl ⟨ay,af⟩),gh af,fh (.inr ⟨by omega,by omega⟩),gh hc,gS (.inr ⟨hc,hd⟩),fy (by omega),fh (.inl ⟨by omega,by omega⟩)];rfl
theorem SP(ay:f a<0)(af:0<f b)(hc:0<f c)(hd:f d<0):keepR f mt [a,b,c,d]=[mt a b,b,c,mt c d]:=by
 rw[j6 b (by simp) af,j5,gh ay,gS (.inr ⟨ay,af⟩),fy (by omega),fh (.inl ⟨by omega,by omega⟩),fy (by omega),gS (.inl ⟨hc,hd⟩),gh hd,fh (.inr ⟨by omega,by omega⟩)];rfl
theorem SQ(ay:f a<0)(af:f b<0)(hc:0<f c)(hd:0<f d):keepR f mt [a,b,c,d]=[mt b c,c,d,mt d a]:=by
 rw[j6 c (by simp) hc,j5,gh ay,fh (.inr ⟨by omega,by omega⟩),gh af,gS (.inr ⟨af,hc⟩),fy (by omega),fh (.inl ⟨by omega,by omega⟩),fy (by omega),gS (.inl ⟨hd,ay⟩)];rfl
theorem SR(ay:0<f a)(af:0<f b)(hc:f c<0)(hd:f d<0):keepR f mt [a,b,c,d]=[a,b,mt b c,mt d a]:=by
 rw[j6 a (by simp) ay,j5,fy (by omega),fh (.inl ⟨by omega,by omega⟩),fy (by omega),gS (.inl ⟨af,hc⟩),gh hc,fh (.inr ⟨by omega,by omega⟩),gh hd,gS (.inr ⟨hd,ay⟩)];rfl
end
def fA(R:List P3)(x0 bK bX bE:Rat):Prop:=∃a b c d:P3,R=[a,b,c,d]/\b7 a x0 bX/\b7 b bK bX/\b7 c bK bE/\b7 d x0 bE
def Lies(sh:List Piece)(R:List P3):Prop:=fx (sh.map fun s=>s.1) [R]
def eH(sh:List Piece):Prop:=∀s∈sh,∀p∈s.1,aS p
theorem fA.pts{R:List P3}{x0 bK bX bE:Rat}(h:fA R x0 bK bX bE):∀p∈R,aS p:=by
 obtain⟨a,b,c,d,rfl,aa,ab,aK,bo⟩:=h;exact BB aa.1 ab.1 aK.1 bo.1
theorem fA.eq{R Q:List P3}{x0 bK bX bE:Rat}(h:fA R x0 bK bX bE)(g:fA Q x0 bK bX bE):R=Q:=by
 obtain⟨a,b,c,d,rfl,aa,ab,aK,bo⟩:=h;obtain⟨ez,b',eU,d',rfl,g1,g2,g3,dx⟩:=g;exact Hd (aa.eq g1) (ab.eq g2) (aK.eq g3) (bo.eq dx)
theorem Lies.rot{sh:List Piece}{a:P3}{r:List P3}(h:Lies sh (r++[a])):Lies sh (a::r):=fun φ=>by
 rw[h φ,gR,gR,Br]
theorem HC{sh:List Piece}{R:List P3}{x0 bK bX bE:Rat}{X:Int×Int}(ag:eH sh)(h:Lies sh R)(r:fA R x0 bK bX bE)(l:aO X.1 X.2)(tL:x0<ar X)(tM:ar X<bK):
  (∃Q,fA Q x0 (ar X) bX bE/\Lies (cL X true sh) Q)/\∃Q,fA Q (ar X) bK bX bE/\Lies (cL X false sh) Q:=by
 have aA:=r.pts;obtain⟨a,b,c,d,rfl,mN,mO,kW,mP⟩:=r;obtain⟨dg,dB,fO⟩:=tr l;have bH:=tx l mN tL;have bW:=By l mO tM;have gZ:=By l kW tM;have tN:=tx l mP tL;have bw:=w7 l mN mO (ZP bH bW) (y:=bX) (by grind);have b3:=w7 l kW mP (aaJ gZ tN) (y:=bE) (by grind);obtain⟨z1,aT⟩:=w2 h dg dB fO ag aA;rw[SO (f:=ln (dW X)) bH bW gZ tN]at z1;rw[SP (f:=fun c => -ln (dW X) c) (by show -ln (dW X) a<0;omega) (by show 0 < -ln (dW X) b;omega) (by show 0 < -ln (dW X) c;omega) (by show -ln (dW X) d<0;omega)]at aT;exact⟨⟨_,⟨_,_,_,_,rfl,mN,bw,b3,mP⟩,z1⟩,⟨_,⟨_,_,_,_,rfl,bw,mO,kW,b3⟩,aT⟩⟩
theorem HD{sh:List Piece}{R:List P3}{x0 bK bX bE:Rat}{X:Int×Int}(ag:eH sh)(h:Lies sh R)(r:fA R x0 bK bX bE)(l:aO X.1 X.2)(tL:bX<ar X)(tM:ar X<bE):
  (∃Q,fA Q x0 bK bX (ar X)/\Lies (cV X false sh) Q)/\∃Q,fA Q x0 bK (ar X) bE/\Lies (cV X true sh) Q:=by
 have aA:=r.pts;obtain⟨a,b,c,d,rfl,mN,mO,kW,mP⟩:=r;obtain⟨dg,dB,fO⟩:=tu l;have bH:=tA l mN tL;have bW:=tA l mO tL;have gZ:=Bz l kW tM;have tN:=Bz l mP tM;have bw:=w8 l mO kW (aaJ bW gZ) (x:=bK) (by grind);have b3:=w8 l mP mN (ZP tN bH) (x:=x0) (by grind);obtain⟨z1,aT⟩:=w2 h dg dB fO ag aA;rw[SQ (f:=ln (dX X)) bH bW gZ tN]at z1;rw[SR (f:=fun c => -ln (dX X) c) (by show 0 < -ln (dX X) a;omega) (by show 0 < -ln (dX X) b;omega) (by show -ln (dX X) c<0;omega) (by show -ln (dX X) d<0;omega)]at aT;refine⟨⟨_,⟨_,_,_,_,rfl,mN,mO,bw,b3⟩,aT⟩,⟨_,⟨_,_,_,_,rfl,b3,bw,kW,mP⟩,?_⟩⟩;exact Lies.rot (sh:=cV X true sh) (r:=[_,_,_]) z1
theorem Lies.slid{sh:List Piece}{R:List P3}{g:P3}(aD:aS g)(ag:eH sh)(aA:∀p∈R,aS p)(h:Lies sh R):Lies (sh.map (eg g)) (R.map fun p=>nP (sld g p)):=RU aD.1 h ag aA
theorem fA.slid{R:List P3}{x0 bK bX bE u v:Rat}{g:P3}(aD:b7 g u v)(r:fA R x0 bK bX bE):fA (R.map fun p=>nP (sld g p)) (x0+u) (bK+u) (bX+v) (bE+v):=by
 obtain⟨a,b,c,d,rfl,mN,mO,kW,mP⟩:=r;exact⟨_,_,_,_,rfl,j4 aD mN,j4 aD mO,j4 aD kW,j4 aD mP⟩
theorem HE{w h:Int×Int}(lw:aO w.1 w.2)(lh:aO h.1 h.2):fA (iC w h) 0 (ar w) 0 (ar h):=⟨_,_,_,_,rfl,R2,G9 lw,fP lw.1 lh.1,G' lh⟩
theorem eH.cL{sh:List Piece}{X:Int×Int}{b:Bool}(l:aO X.1 X.2)(h:eH sh):eH (cL X b sh):=by
 intro s aq p ag;unfold Cut.cL at aq
 have key:∀f:P3->Int,(∀p q,f p*f q<0->ln (dW X) p*ln (dW X) q<0)->s∈cf f (aX (dW X)) sh->aS p:=fun f hf aq=>by
  obtain⟨t,bt,rfl,c⟩:=sZ aq;rcases pk ag with⟨aa,_⟩|⟨u,aa,v,ab,aK,rfl⟩
  ·exact h t bt p aa
  ·have gp:=h t bt u aa;have hT:=h t bt v ab;rw[<-jr gp hT];exact fg (jt gp hT (hf _ _ aK))
 cases b with
 | true=>exact key _ (fun _ _ z=>z) aq
 | false=>exact key _ (fun p q z=>by rwa [aay]at z) aq
theorem eH.cV{sh:List Piece}{X:Int×Int}{b:Bool}(l:aO X.1 X.2)(h:eH sh):eH (cV X b sh):=by
 intro s aq p ag;unfold Cut.cV at aq
 have key:∀f:P3->Int,(∀p q,f p*f q<0->ln (dX X) p*ln (dX X) q<0)->s∈cf f (aX (dX X)) sh->aS p:=fun f hf aq=>by
  obtain⟨t,bt,rfl,c⟩:=sZ aq;rcases pk ag with⟨aa,_⟩|⟨u,aa,v,ab,aK,rfl⟩
  ·exact h t bt p aa
  ·have gp:=h t bt u aa;have hT:=h t bt v ab;rw[<-jr gp hT];exact fg (jt gp hT (hf _ _ aK))
 cases b with
 | true=>exact key _ (fun _ _ z=>z) aq
 | false=>exact key _ (fun p q z=>by rwa [aay]at z) aq
def cH(w:Int×Int)(k:Int):Int×Int:=cA (w.1*k) (w.2*1)
theorem gi{w:Int×Int}(l:0<w.2)(k:Int):aO (cH w k).1 (cH w k).2/\ar (cH w k)=ar w*k:=by
 have ab:0<w.2*1:=by omega
 refine⟨(g6 (t:=w.1*k) (b:=w.2*1) (by omega)).1,?_⟩;unfold cH;rw[pB ab];have a:=dy l;unfold ar;push_cast;grind
noncomputable def lowC(c:Bool)(x:Int×Int)(sh:List Piece):List Piece:=if c=true then cV x false sh else cL x true sh
noncomputable def highC(c:Bool)(x:Int×Int)(sh:List Piece):List Piece:=if c=true then cV x true sh else cL x false sh
noncomputable def fm(c:Bool)(w:Int×Int):Nat->List Piece->Nat->Nat->List (List Piece)
 | 0,sh,_,_=>[sh]
 | n+1,sh,a,b=>if b-a=1 then[sh]else fm c w n (lowC c (cH w ((a+b)/2:Nat)) sh) a ((a+b)/2)++fm c w n (highC c (cH w ((a+b)/2:Nat)) sh) ((a+b)/2) b
theorem jz(c:Bool)(w:Int×Int):∀(n:Nat)(sh:List Piece)(a b:Nat),a<b->b-a<=2^n->(fm c w n sh a b).length=b-a
 | 0,sh,a,b,h,g=>by
  have:b-a=1:=by simp at g;omega
  rw[this];rfl
 | n+1,sh,a,b,h,g=>by
  rw[fm];by_cases z:b-a=1
  ·rw[if_pos z,z];rfl
  ·rw[if_neg z,Zg,jz c w n _ _ _ (by omega) (by rw[acH]at g;omega),jz c w n _ _ _ (by omega) (by rw[acH]at g;omega)];omega
def mQ(c:Bool)(R:List P3)(j8 dg v0 v1:Rat):Prop:=if c=true then fA R v0 v1 j8 dg else fA R j8 dg v0 v1
theorem eH.lowC{sh:List Piece}{X:Int×Int}{c:Bool}(l:aO X.1 X.2)(h:eH sh):eH (lowC c X sh)/\eH (highC c X sh):=by
 unfold Cut.lowC Cut.highC;cases c with
 | true =>
  rw[if_pos rfl,if_pos rfl];exact⟨h.cV (b:=false) l,h.cV (b:=true) l⟩
 | false =>
  rw[if_neg (by simp),if_neg (by simp)];exact⟨h.cL (b:=true) l,h.cL (b:=false) l⟩
theorem SS{c:Bool}{sh:List Piece}{R:List P3}{j8 dg v0 v1:Rat}{X:Int×Int}(ag:eH sh)(h:Lies sh R)(r:mQ c R j8 dg v0 v1)(l:aO X.1 X.2)(h0:j8<ar X)(aa:ar X<dg):
  (∃Q,mQ c Q j8 (ar X) v0 v1/\Lies (lowC c X sh) Q)/\∃Q,mQ c Q (ar X) dg v0 v1/\Lies (highC c X sh) Q:=by
 unfold mQ at r ⊢;unfold lowC highC;cases c with
 | true =>
  simp only[if_true]at r ⊢;exact HD ag h r l h0 aa
 | false =>
  simp only[aan,if_false]at r ⊢;exact HC ag h r l h0 aa
theorem BS{c:Bool}{w:Int×Int}(w0:0<w.1)(c7:0<w.2){v0 v1 U:Rat}:∀(n:Nat){sh:List Piece}{a b:Nat}{R:List P3},a<b->b-a<=2^n->eH sh->Lies sh R->mQ c R (ar w*a) U v0 v1->ar w*((b-1:Nat):Rat)<U ->
  ∀(k:Nat) S,(fm c w n sh a b)[k]?=some S->eH S/\∃Q,Lies S Q/\mQ c Q (ar w*((a+k:Nat):Rat)) (if a+k+1=b then U else ar w*((a+k+1:Nat):Rat)) v0 v1
 | 0,sh,a,b,R,h,g,ag,aj,r,nR,k,S,e=>by
  have:b=a+1:=by simp at g;omega
  subst this;cases k with
  | zero =>
   have e:some sh=some S:=e;cases e;refine⟨ag,R,aj,?_⟩;rw[Nat.add_zero,if_pos rfl];exact r
  | succ k=>simp[fm]at e
 | n+1,sh,a,b,R,h,g,ag,aj,r,nR,k,S,e=>by
  rw[fm]at e;by_cases z:b-a=1
  ·rw[if_pos z]at e;have:b=a+1:=by omega
   subst this;cases k with
   | zero =>
    have e:some sh=some S:=e;cases e;refine⟨ag,R,aj,?_⟩;rw[Nat.add_zero,if_pos rfl];exact r
   | succ k=>simp at e
  ·rw[if_neg z]at e;generalize hm:(a+b)/2=m at e;have am:a<m:=by omega
   have gn:m<b:=by omega
   rw[acH]at g;obtain⟨eb,jy⟩:=gi (w:=w) c7 (m:Int);have fF:=d2 w0 c7
   have lt:∀i j:Nat,i<j->ar w*(i:Rat)<ar w*(j:Rat):=fun i j m7=>by
    have:((i:Nat):Rat)<(j:Rat):=by exact_mod_cast m7
    exact Rat.mul_lt_mul_of_pos_left this fF
   have jy:ar (cH w (m:Int))=ar w*(m:Rat):=jy
   have SU:ar w*(m:Rat)<U:=by
    rcases abZ m (b-1)with y|y
    ·have z1:=lt _ _ y;grind
    ·have:m=b-1:=by omega
     rw[this];exact nR
   obtain⟨⟨HF,au,bx⟩,⟨HG,aG,bB⟩⟩:=SS ag aj r eb (by rw[jy];exact lt _ _ am) (by rw[jy];exact SU);obtain⟨cN,c2⟩:=ag.lowC (c:=c) eb;rw[jy]at au aG;have ln:=jz c w n (lowC c (cH w (m:Int)) sh) a m am (by omega);by_cases y:k<m-a
   ·rw[aai (by rw[ln];exact y)]at e;obtain⟨gQ,Q,jq,mG⟩:=BS w0 c7 (U:=ar w*(m:Rat)) n am (by omega) cN bx au (lt _ _ (by omega)) k S e;refine⟨gQ,Q,jq,?_⟩;rw[if_neg (show ¬a+k+1=b by omega)];by_cases x:a+k+1=m
    ·rw[if_pos x]at mG;rw[x];exact mG
    ·rw[if_neg x]at mG;exact mG
   ·rw[aaf (by rw[ln];omega),ln]at e;obtain⟨gQ,Q,jq,mG⟩:=BS w0 c7 (U:=U) n gn (by omega) c2 bB aG nR (k-(m-a)) S e;rw[show m+(k-(m-a))=a+k by omega]at mG;exact⟨gQ,Q,jq,mG⟩
structure GM (s:Piece):Prop where
 ps:∀p∈s.1,da 2770 p
 ln:s.1.length<=75
 st:da 2770 s.2.2
theorem i8.gm{b m n t:Nat}{s:Piece}(h:i8 b m n t s)(aa:b<=2770)(ab:n<=75)(aK:t<=2770):GM s:=⟨fun p ag=>(h.rb.pts p ag).mono aa,Gg h.ln ab,h.st.mono aK⟩
def dSh(sh:List Piece):D:=.lst (sh.map dS)
def e1{α β:Type}(h:Nat->α->β):Nat->List α->List β
 | _,[]=>[]
 | i,r::rs=>h i r::e1 h (i+1) rs
theorem BU{α β γ:Type}(h:Nat->α->β)(f:β->γ):∀(i:Nat)(rs:List α),(e1 h i rs).map f=e1 (fun i r=>f (h i r)) i rs
 | _,[]=>rfl
 | i,r::rs=>by rw[e1,ZE,BU h f (i+1) rs,e1]
theorem HH{α β:Type}(h:Nat->α->β):∀(i:Nat)(rs:List α),(e1 h i rs).length=rs.length
 | _,[]=>rfl
 | i,r::rs=>by simp[e1,HH h (i+1) rs]
theorem BV{α β:Type}(h:Nat->α->β):∀(i:Nat)(rs:List α)(k:Nat),(e1 h i rs)[k]?=(rs[k]?).map (h (i+k))
 | _,[],k=>by simp[e1]
 | i,r::rs,0=>by simp[e1]
 | i,r::rs,k+1=>by
  have:=BV h (i+1) rs k;rw[show i+1+k=i+(k+1) by omega]at this;simpa[e1]using this
theorem BW{α:Type}{f:α->D}{h:Nat->α->D}{u:a5}{fs:List aI}:∀{i:Nat}{rs:List α}{v0 v1:aI}{k:List D->Prop},(∀j r,(j,r)∈(e1 Prod.mk i rs)->∀k:D->Prop,k (h j r)->u (.val (.int (j:Nat))::.val (f r)::fs) k)->k (e1 h i rs)->gN (mu 2 (g4 (gy 0) (g4 (gy 1) mr))) lF u (h6 i (rs.map f)) (v0::v1::fs) k
 | i,[],_,_,_,_,ah=>ah
 | i,r::rs,v0,v1,k,aa,ah=>by
  refine⟨_,rfl,rfl,_,_,rfl,_,_,rfl,rfl,?_⟩;show(if true=true then u (.val (.int (i:Nat))::.val (f r)::fs) fun y=>gN (mu 2 (g4 (gy 0) (g4 (gy 1) mr))) lF u (h6 (i+1) (rs.map f)) (.val (.int (i:Nat))::.val (f r)::fs) fun ys=>k (y::ys)else gN (mu 2 (g4 (gy 0) (g4 (gy 1) mr))) lF u (h6 (i+1) (rs.map f)) (.val (.int (i:Nat))::.val (f r)::fs) k)
  rw[if_pos rfl];refine aa i r (by simp[e1]) _ ?_;exact BW (fun j d0 hm=>aa j d0 (by rw[e1];exact Zf _ hm)) ah
def jA(c:Bool)(w:Int×Int)(k:Nat):P3:=if c=true then b8 (0,1) (cH w (-(k:Int)))else b8 (cH w (-(k:Int))) (0,1)
noncomputable def d3(c:Bool)(w:Int×Int)(sh:List Piece)(m:Nat):List (List Piece):=e1 (fun k S=>S.map (eg (jA c w k))) 0 (fm c w 3 sh 0 m)
def c4(b m n t N:Nat)(sh:List Piece):Prop:=(∀s∈sh,i8 b m n t s)/\sh.length<=N
theorem HI{X:Int×Int}{q:Nat}(l:aO X.1 X.2)(a9:intBits X.1<=q)(ba:intBits X.2<=q):cj (2*q+5) (dW X):=by
 have g1:=j3 (x:=X.1) (y:=X.2) (u:=0) (v:=1) (n:=2) a9 ba (by decide) (by decide) l ⟨by decide,by decide⟩;have g2:=j3 (x:=X.1) (y:=X.2) (u:=1) (v:=1) (n:=2) a9 ba (by decide) (by decide) l ⟨by decide,by decide⟩;exact(g1.crs g2).mono (by omega)
theorem HJ{X:Int×Int}{q:Nat}(l:aO X.1 X.2)(a9:intBits X.1<=q)(ba:intBits X.2<=q):cj (2*q+5) (dX X):=by
 have g1:=j3 (x:=0) (y:=1) (u:=X.1) (v:=X.2) (m:=2) (by decide) (by decide) a9 ba ⟨by decide,by decide⟩ l;have g2:=j3 (x:=1) (y:=1) (u:=X.1) (v:=X.2) (m:=2) (by decide) (by decide) a9 ba ⟨by decide,by decide⟩ l;exact(g1.crs g2).mono (by omega)
theorem oe{f:P3->Int}{mt:P3->P3->P3}(sh:List Piece):(cf f mt sh).length<=sh.length:=kP sh
theorem c4.cL{b m n t N q:Nat}{X:Int×Int}{sh:List Piece}(h:c4 b m n t N sh)(c:Bool)(l:aO X.1 X.2)(a9:intBits X.1<=q)(ba:intBits X.2<=q)(hh:2*q+5<=m)(hm:2*q+5+m+1<=b):c4 b m (n+1) t N (cL X c sh):=by
 obtain⟨dg,dB,fO⟩:=tr l;unfold Cut.cL;cases c with
 | true =>
  rw[if_pos rfl];exact⟨ob h.1 (HI l a9 ba) hh dg fO hm _ (.inl rfl),Gg (kP sh) h.2⟩
 | false =>
  rw[if_neg (by simp)];have e:(fun c => -ln (dW X) c)=ln (kO (dW X)):=funext fun c=>(lQ _ _).symm;rw[e];exact⟨ob h.1 (HI l a9 ba) hh dg fO hm _ (.inr rfl),Gg (kP sh) h.2⟩
theorem c4.cV{b m n t N q:Nat}{X:Int×Int}{sh:List Piece}(h:c4 b m n t N sh)(c:Bool)(l:aO X.1 X.2)(a9:intBits X.1<=q)(ba:intBits X.2<=q)(hh:2*q+5<=m)(hm:2*q+5+m+1<=b):c4 b m (n+1) t N (cV X c sh):=by
 obtain⟨dg,dB,fO⟩:=tu l;unfold Cut.cV;cases c with
 | true =>
  rw[if_pos rfl];exact⟨ob h.1 (HJ l a9 ba) hh dg fO hm _ (.inl rfl),Gg (kP sh) h.2⟩
 | false =>
  rw[if_neg (by simp)];have e:(fun c => -ln (dX X) c)=ln (kO (dX X)):=funext fun c=>(lQ _ _).symm;rw[e];exact⟨ob h.1 (HJ l a9 ba) hh dg fO hm _ (.inr rfl),Gg (kP sh) h.2⟩
theorem c4.mono{b m n t N b' m' n' t' N':Nat}{sh:List Piece}(h:c4 b m n t N sh)(aa:b<=b')(ab:m<=m')(aK:n<=n')(bo:t<=t')(df:N<=N'):c4 b' m' n' t' N' sh:=⟨fun s aq=>(h.1 s aq).mono aa ab aK bo,Gg h.2 df⟩
theorem c4.cut{b m n t N q:Nat}{X:Int×Int}{sh:List Piece}{c:Bool}(h:c4 b m n t N sh)(l:aO X.1 X.2)(a9:intBits X.1<=q)(ba:intBits X.2<=q)(hh:2*q+5<=m)(hm:2*q+5+m+1<=b):c4 b m (n+1) t N (lowC c X sh)/\c4 b m (n+1) t N (highC c X sh):=by
 unfold lowC highC;cases c with
 | true =>
  rw[if_pos rfl,if_pos rfl];exact⟨h.cV _ l a9 ba hh hm,h.cV _ l a9 ba hh hm⟩
 | false =>
  rw[if_neg (by simp),if_neg (by simp)];exact⟨h.cL _ l a9 ba hh hm,h.cL _ l a9 ba hh hm⟩
theorem c4.slid{b m n t N g:Nat}{v:P3}{sh:List Piece}(h:c4 b m n t N sh)(aP:da g v):c4 (b+g+1) (m+g+2) n (t+g+1) N (sh.map (eg v)):=⟨fun s aq=>by
 obtain⟨r,ak,rfl⟩:=ZJ.mp aq
 exact(h.1 r ak).slid aP,by rw[YL];exact h.2⟩
theorem c4.app{b m n t N M:Nat}{sh HK:List Piece}(h:c4 b m n t N sh)(g:c4 b m n t M HK):c4 b m n t (N+M) (sh++HK):=⟨fun s aq=>(ZK.mp aq).elim (h.1 s) (g.1 s),by rw[Zg];have:=h.2;have:=g.2;omega⟩
theorem i9{w:Int×Int}{q:Nat}(c7:0<w.2)(a9:intBits w.1<=q)(ba:intBits w.2<=q){k:Int}(ah : -8<=k/\k<=8):intBits (cH w k).1<=q+4/\intBits (cH w k).2<=q+4:=by
 obtain⟨_,_,aa,ab⟩:=g6 (t:=w.1*k) (b:=w.2*1) (by omega);have bk:intBits k<=4:=d6 (t:=8) (by omega) (by decide);exact⟨d6 aa (intBits_mul_le a9 bk),d6 ab (Gg (intBits_mul_le ba (show intBits 1<=1 by decide)) (by omega))⟩
theorem tO{c:Bool}{w:Int×Int}{b m t N q:Nat}(c7:0<w.2)(a9:intBits w.1<=q)(ba:intBits w.2<=q)(hh:2*q+13<=m)(hm:2*q+13+m+1<=b):∀(k:Nat){n:Nat}{sh:List Piece}{x y:Nat},x<y->y<=8->c4 b m n t N sh->∀S∈fm c w k sh x y,c4 b m (n+k) t N S
 | 0,n,sh,x,y,_,_,h,S,cp=>by rw[ZG.mp cp];exact h
 | k+1,n,sh,x,y,xg,a6,h,S,cp=>by
  rw[fm]at cp;by_cases z:y-x=1
  ·rw[if_pos z]at cp;rw[ZG.mp cp];exact h.mono (YK _) (YK _) (by omega) (YK _) (YK _)
  ·rw[if_neg z]at cp;obtain⟨l,_⟩:=gi (w:=w) c7 (((x+y)/2:Nat):Int);obtain⟨aF,aH⟩:=i9 (w:=w) (q:=q) c7 a9 ba (k:=(((x+y)/2:Nat):Int)) (by omega);obtain⟨aa,ab⟩:=h.cut (c:=c) l aF aH (by omega) (by omega);rcases ZK.mp cp with e|e
   ·have:=tO c7 a9 ba hh hm k (by omega) (by omega) aa S e
    rwa [show n+1+k=n+(k+1) by omega]at this
   ·have:=tO c7 a9 ba hh hm k (by omega) a6 ab S e
    rwa [show n+1+k=n+(k+1) by omega]at this
theorem BX{α:Type}{j:Nat}{r:α}:∀{i:Nat}{rs:List α},(j,r)∈e1 Prod.mk i rs->i<=j/\j<i+rs.length/\r∈rs
 | i,[],h=>by simp[e1]at h
 | i,x::rs,h=>by
  rw[e1]at h;rcases ZA.mp h with h|h
  ·cases h;exact⟨YK _,by simp,Zd⟩
  ·obtain⟨a,b,c⟩:=BX h;exact⟨by omega,by simp;omega,Zf _ c⟩
theorem BY{c:Bool}{w:Int×Int}{q:Nat}(c7:0<w.2)(a9:intBits w.1<=q)(ba:intBits w.2<=q){j:Nat}(bZ:j<=8):da (q+6) (jA c w j):=by
 obtain⟨l,_⟩:=gi (w:=w) c7 (-(j:Int));obtain⟨aF,aH⟩:=i9 (w:=w) (q:=q) c7 a9 ba (k :=-(j:Int)) (by omega);unfold jA b8;cases c with
 | true =>
  rw[if_pos rfl];exact⟨(iz (n:=1*(cH w (-(j:Int))).2) (YM (Ze (by decide) l.1))).1,(j3 (x:=0) (y:=1) (m:=2) (by decide) (by decide) aF aH ⟨by decide,by decide⟩ l).mono (by omega)⟩
 | false =>
  rw[if_neg (by simp)];exact⟨(iz (n:=(cH w (-(j:Int))).2*1) (YM (Ze l.1 (by decide)))).1,(j3 (u:=0) (v:=1) (n:=2) aF aH (by decide) (by decide) l ⟨by decide,by decide⟩).mono (by omega)⟩
abbrev BoxD:=bj×bj×List Piece
def dBx(b:BoxD):D:=.tup [dR b.1,dR b.2.1,dSh b.2.2]
def h8(H h:bj):bj:=cA (H.1*h.2+h.1*H.2) (H.2*h.2)
noncomputable def ey:List BoxD->bj->List Piece
 | [],_=>[]
 | b::r,H=>b.2.2.map (eg (b8 (0,1) H))++ey r (h8 H b.2.1)
def du:List BoxD->bj->bj
 | [],H=>H
 | b::r,H=>du r (h8 H b.2.1)
theorem BZ:∀(a b:List BoxD)(H:bj),du (a++b) H=du b (du a H)
 | [],_,_=>rfl
 | x::a,b,H=>BZ a b _
theorem HL:∀(a b:List BoxD)(H:bj),ey (a++b) H=ey a H++ey b (du a H)
 | [],_,_=>rfl
 | x::a,b,H=>by
  rw[aah,ey,ey,HL a b,ZU];rfl
theorem xh:∀(bs:List BoxD)(H:bj),(ey bs H).length=(bs.map fun b=>b.2.2.length).sum
 | [],_=>rfl
 | b::r,H=>by rw[ey,Zg,YL,xh r,ZE,Z3]
theorem SV(x:D)(r:List D):dO (x::r) 0=some x:=by
 unfold dO ixN;rw[if_pos (by omega),if_pos (by simp)];rfl
theorem q2{H h:bj}(bx:0<H.2)(bB:0<h.2):aO (h8 H h).1 (h8 H h).2:=(g6 (YM (Ze bx bB))).1
theorem B0:∀{bs:List BoxD}{H:bj},aO H.1 H.2->(∀b∈bs,0<b.2.1.2)->aO (du bs H).1 (du bs H).2
 | [],_,l,_=>l
 | b::r,H,l,h=>by
  rw[du];exact B0 (bs:=r) (q2 l.1 (h b Zd)) fun x aC=>h x (Zf _ aC)
theorem xi{H h:bj}(bx:0<H.2)(bB:0<h.2):ar (h8 H h)=ar H+ar h:=by
 unfold h8;rw[pB (Ze bx bB)];have a:=dy bx;have b:=dy bB;unfold ar;push_cast;grind
def dY(a b:bj):bj:=cA (a.1*b.2) (a.2*b.1)
def fc(a b:bj):bj:=cA (a.1*b.2-b.1*a.2) (a.2*b.2)
def hi(w g:bj)(N:Nat):bj:=fc w (cH g ((N:Int)-1))
def fi(h:bj)(N:Nat):bj:=dY h ((N:Int),1)
noncomputable def fe(w:bj)(i:Nat)(Ss:List (List Piece)):List Piece:=(e1 (fun k S=>S.map (eg (b8 (cH w (k:Int)) (0,1)))) i Ss).flatten
def dH(w h g:bj):bj:=dY (cA (w.1*h.1) (w.2*h.2)) g
def bO(w H:bj):P3:=crs (b8 w (0,1)) (b8 (0,1) H)
noncomputable def kX(w h g:bj)(sh:List Piece):List Piece :=
 cL g true (cf (ln (bO w (dH w h g))) (aX (bO w (dH w h g))) sh)++(cL g false (cf (ln (bO w (dH w h g))) (aX (bO w (dH w h g))) sh)).map (eg (b8 (-g.1,g.2) h))++(cf (fun c => -ln (bO w (dH w h g)) c) (aX (bO w (dH w h g))) sh).map (eg (b8 (fc g w) (fc (dH w h g) h)))
theorem mR{a b:bj}(aa:0<a.2)(ab:0<b.1)(aK:0<b.2):aO (dY a b).1 (dY a b).2/\ar (dY a b)=ar a/ar b:=by
 have p:=Ze aa ab;refine⟨(g6 (t:=a.1*b.2) (b:=a.2*b.1) (YM p)).1,?_⟩;unfold dY;rw[pB p];have x:=dy aa;have y:=dy ab;have z:=dy aK;unfold ar;push_cast;grind
theorem q3{a b:bj}{p q:Nat}(aa:0<a.2)(ab:0<b.1)(a9:intBits a.1<=p)(ba:intBits a.2<=p)(dG:intBits b.1<=q)(fw:intBits b.2<=q):intBits (dY a b).1<=p+q/\intBits (dY a b).2<=p+q:=by
 obtain⟨_,_,ai,av⟩:=g6 (t:=a.1*b.2) (b:=a.2*b.1) (YM (Ze aa ab));exact⟨d6 ai (intBits_mul_le a9 fw),d6 av (intBits_mul_le ba dG)⟩
theorem mS{a b:bj}(aa:0<a.2)(ab:0<b.2):aO (fc a b).1 (fc a b).2/\ar (fc a b)=ar a-ar b:=by
 have p:=Ze aa ab;refine⟨(g6 (t:=a.1*b.2-b.1*a.2) (b:=a.2*b.2) (YM p)).1,?_⟩;unfold fc;rw[pB p];have x:=dy aa;have y:=dy ab;unfold ar;push_cast;grind
theorem tP{a b:bj}{p q:Nat}(aa:0<a.2)(ab:0<b.2)(a9:intBits a.1<=p)(ba:intBits a.2<=p)(dG:intBits b.1<=q)(fw:intBits b.2<=q):intBits (fc a b).1<=p+q+1/\intBits (fc a b).2<=p+q+1:=by
 obtain⟨_,_,ai,av⟩:=g6 (t:=a.1*b.2-b.1*a.2) (b:=a.2*b.2) (YM (Ze aa ab));have x:=intBits_mul_le a9 fw;have y:=intBits_mul_le dG ba;rw[Nat.add_comm q p]at y;have z:=intBits_sub_le x y;rw[acG]at z;exact⟨d6 ai z,d6 av (Gg (intBits_mul_le ba fw) (by omega))⟩
theorem j9{a b:bj}{p q:Nat}(bx:aO a.1 a.2)(bB:aO b.1 b.2)(a9:intBits a.1<=p)(ba:intBits a.2<=p)(dG:intBits b.1<=q)(fw:intBits b.2<=q):da (p+q) (b8 a b):=⟨(iz (n:=a.2*b.2) (YM (Ze bx.1 bB.1))).1,j3 a9 ba dG fw bx bB⟩
theorem B1{w:bj}:∀(Ss:List (List Piece))(S:List Piece)(i:Nat),fe w i (Ss++[S])=fe w i Ss++S.map (eg (b8 (cH w ((i+Ss.length:Nat):Int)) (0,1)))
 | [],S,i=>by simp[fe,e1]
 | T::Ss,S,i=>by
  have:=B1 Ss S (i+1) (w:=w);unfold fe at this ⊢;rw[aah,e1,abj,this,e1,abj,ZU,ZC,show i+1+Ss.length=i+(Ss.length+1) by omega]
theorem lV{c:Bool}{w:bj}{sh:List Piece}{m:Nat}(h:1<=m)(kQ:m<=8):(d3 c w sh m).length=m:=by
 unfold d3;rw[HH,jz c w 3 sh 0 m (by omega) (by omega)];omega
theorem HM{c:Bool}{w:bj}{sh:List Piece}{m:Nat}{S:List Piece}(cp:S∈d3 c w sh m):∃(k:Nat)(T:List Piece),T∈fm c w 3 sh 0 m/\k<(fm c w 3 sh 0 m).length/\S=T.map (eg (jA c w k)):=by
 obtain⟨k,ah⟩:=aaO cp;unfold d3 at ah;rw[BV,aav]at ah;cases q:(fm c w 3 sh 0 m)[k]? with
 | none=>rw[q]at ah;cases ah
 | some T =>
  rw[q]at ah;cases ah;exact⟨k,T,aag q,(aa7.mp q).1,rfl⟩
theorem xj{c:Bool}{w:bj}{b m t N q:Nat}(c7:0<w.2)(a9:intBits w.1<=q)(ba:intBits w.2<=q)(hh:2*q+13<=m)(hm:2*q+13+m+1<=b){n:Nat}{sh:List Piece}{y:Nat}(bE:1<=y)(og:y<=8)(h:c4 b m n t N sh):∀S∈d3 c w sh y,c4 (b+q+7) (m+q+8) (n+3) (t+q+7) N S:=fun S cp=>by
 obtain⟨k,T,dC,ah,rfl⟩:=HM cp;rw[jz c w 3 sh 0 y (by omega) (by omega)]at ah;have:=tO (c:=c) c7 a9 ba hh hm 3 (by omega) og h T dC;exact(this.slid (BY (c:=c) c7 a9 ba (j:=k) (by omega))).mono (by omega) (by omega) (by omega) (by omega) (by omega)
theorem tQ{w h g H:bj}(lw:aO w.1 w.2)(w0:0<w.1)(lh:aO h.1 h.2)(h0:0<h.1)(aQ:aO g.1 g.2)(a7:0<g.1)(e:H=dH w h g):0<H.1:=by
 have lt:=g6 (t:=w.1*h.1) (b:=w.2*h.2) (YM (Ze lw.1 lh.1));obtain⟨b2,gT⟩:=mR (a:=cA (w.1*h.1) (w.2*h.2)) (b:=g) lt.1.1 a7 aQ.1;have av:=pB (t:=w.1*h.1) (b:=w.2*h.2) (Ze lw.1 lh.1);have a:=d2 w0 lw.1;have b:=d2 h0 lh.1;have c:=d2 a7 aQ.1
 have bC:((w.1*h.1:Int):Rat)/((w.2*h.2:Int):Rat)=ar w*ar h:=by
  have x:=dy lw.1;have y:=dy lh.1;unfold ar;push_cast;grind
 have pos:0<ar H:=by
  rw[e];show 0<ar (dY (cA (w.1*h.1) (w.2*h.2)) g)
  rw[gT,av,bC,aa5];exact ZY (ZY a b) (abA.mpr c)
 have bB:0<H.2:=by rw[e];exact b2.1
 apply aak;intro z;have z1:((H.1:Int):Rat)<=0:=by exact_mod_cast (show H.1<=0 by omega)
 have aT:(0:Rat)<((H.2:Int):Rat):=by exact_mod_cast bB
 unfold ar at pos;rw[aa5]at pos;have fk:=abA.mpr aT
 have:((H.1:Int):Rat)*(((H.2:Int):Rat))⁻¹<=0:=by
  have:=aaz z1 (aad fk)
  rwa [Rat.zero_mul]at this
 grind
theorem tR{w H:bj}(lw:aO w.1 w.2)(w0:0<w.1)(b2:aO H.1 H.2)(fo:0<H.1):(bO w H).1≠0∨(bO w H).2.1≠0:=by
 have gQ:b7 (b8 w (0,1)) (ar w) 0:=(fP lw.1 (by decide)).to rfl (hg _);have jq:b7 (b8 (0,1) H) 0 (ar H):=(fP (by decide) b2.1).to (hg _) rfl;refine j1 gQ.1 jq.1 fun e=>?_;rw[e]at gQ;have:=gQ.2.1.symm.trans jq.2.1;have:=d2 w0 lw.1;grind
end Cut
namespace L3
open PySem L2
theorem HN{a b c:Nat}{s:cW}{U:il}(I:List Cut.BoxD->List aI->Prop):∀{bs done:List Cut.BoxD}{ρ:List aI},I done ρ ->
  (∀pre x rest ρ,done++bs=pre++x::rest->I pre ρ->∀N:List aI->Prop,(∀r,I (pre++[x]) r->N r)->s { U with nx:=N,ct:=N,bk:=U.nx } (((ρ.set a (.val (Cut.dR x.1))).set b (.val (Cut.dR x.2.1))).set c (.new (Cut.dSh x.2.2)))) ->
  (∀ρ,I (done++bs) ρ->U.nx ρ)->forR (mu 3 (g4 (sV a) (g4 (sV b) (g4 (AM c) mr)))) s U (bs.map Cut.dBx) ρ
 | [],done,ρ,h0,_,ab=>ab ρ (by rw[ZF];exact h0)
 | x::bs,done,ρ,h0,aa,ab=>by
  refine⟨_,rfl,rfl,_,_,rfl,rfl,_,_,rfl,rfl,_,_,rfl,rfl,?_⟩;refine aa done x bs ρ rfl h0 _ fun r ak=>?_;refine HN I ak (fun pre y rest ρ e=>aa pre y rest ρ (by rw[<-e];simp)) fun ρ h=>ab ρ ?_;have e:done++[x]++bs=done++x::bs:=by simp
  rw[<-e];exact h
end L3
namespace Cut
open PySem L2 L3
open PySem.Builtin.Int (intBits)
theorem q4{a b:bj}(bx:aO a.1 a.2)(bB:aO b.1 b.2)(e:ar a=ar b):a=b:=by
 have c:=Bw bx.1 bB.1 e;have aa:=vI (t:=a.1) (b:=a.2) bx (YM bx.1) rfl;have ab:=vI (t:=a.1) (b:=a.2) bB (YM bx.1) c.symm;exact aa.symm.trans ab
def cT(w g:bj):Nat:=(-((-(dY g w).1).fdiv (dY g w).2)).toNat
def dh(w g:bj):Nat:=((dY w g).1.fdiv (dY w g).2).toNat
theorem SW{x y:Int}(h:0<y):x.fdiv y*y<=x/\x<(x.fdiv y+1)*y:=by
 rw[abB _ (by omega)];have a:=Int.mul_ediv_add_emod x y;have b:=aaA x (show y≠0 by omega);have c:=aaL x h;rw[Int.add_mul,ZQ];omega
theorem HO{x y:Int}(h:0<y):((x.fdiv y:Int):Rat)<=(x:Rat)/y/\(x:Rat)/y<((x.fdiv y+1:Int):Rat):=by
 obtain⟨a,b⟩:=SW (x:=x) h;have a6:(0:Rat)<(y:Rat):=by exact_mod_cast h
 have ez:((x.fdiv y:Int):Rat)*y<=(x:Rat):=by exact_mod_cast a
 have b':(x:Rat)<((x.fdiv y+1:Int):Rat)*y:=by exact_mod_cast b
 refine⟨?_,(acI a6).mpr b'⟩;apply aak;intro z;have z:=Rat.not_le.mp z;have:=(acI a6).mp z;grind
section
variable{w g:bj}(lw:aO w.1 w.2)(w0:0<w.1)(aQ:aO g.1 g.2)(a7:0<g.1)
include lw w0 aQ a7
theorem q5(h:g.1*w.2<=w.1*g.2)(kQ:w.1*g.2<=8*(g.1*w.2)):(dY w g).1.fdiv (dY w g).2=(dh w g:Int)/\1<=dh w g/\dh w g<=8/\(dh w g:Rat)*ar g<=ar w/\ar w<((dh w g+1:Nat):Rat)*ar g:=by
 obtain⟨l,e⟩:=mR (a:=w) (b:=g) lw.1 a7 aQ.1;obtain⟨f1,f2⟩:=HO (x:=(dY w g).1) l.1;have aU:(((dY w g).1:Int):Rat)/((dY w g).2:Int)=ar w/ar g:=e;rw[aU]at f1 f2;have pD:=d2 a7 aQ.1;have nz:=d2 w0 lw.1
 have bK:ar g<=ar w:=by
  have cN:=dy lw.1;have c2:=dy aQ.1;have a1:(0:Rat)<w.2:=by exact_mod_cast lw.1
  have a2:(0:Rat)<g.2:=by exact_mod_cast aQ.1
  have c:(g.1:Rat)*w.2<=(w.1:Rat)*g.2:=by exact_mod_cast h
  refine abC (c:=(w.2:Rat)*g.2) ?_ (ZY a1 a2);unfold ar;have u:(g.1:Rat)/g.2*(w.2*g.2)=g.1*w.2:=by grind
  have v:(w.1:Rat)/w.2*(w.2*g.2)=w.1*g.2:=by grind
  rw[u,v];exact c
 have SX:ar w<=8*ar g:=by
  have cN:=dy lw.1;have c2:=dy aQ.1;have a1:(0:Rat)<w.2:=by exact_mod_cast lw.1
  have a2:(0:Rat)<g.2:=by exact_mod_cast aQ.1
  have c:(w.1:Rat)*g.2<=8*((g.1:Rat)*w.2):=by exact_mod_cast kQ
  refine abC (c:=(w.2:Rat)*g.2) ?_ (ZY a1 a2);unfold ar;have u:8*((g.1:Rat)/g.2)*(w.2*g.2)=8*(g.1*w.2):=by grind
  have v:(w.1:Rat)/w.2*(w.2*g.2)=w.1*g.2:=by grind
  rw[u,v];exact c
 generalize aA:(dY w g).1.fdiv (dY w g).2=q at f1 f2;have jL:ar g≠0:=by grind
 have bw:(q:Rat)*ar g<=ar w:=by
  have:=aaz f1 (aad pD)
  rwa [ab2 jL]at this
 have b3:ar w<((q+1:Int):Rat)*ar g:=by
  have:=ab3 f2 pD
  rwa [ab2 jL]at this
 have aW:1<=q:=by
  apply aak;intro z;have:((q+1:Int):Rat)<=1:=by exact_mod_cast (show q+1<=1 by omega)
  have:=aaz this (aad pD);grind
 have r9:q<=8:=by
  apply aak;intro z;have:(9:Rat)<=(q:Rat):=by exact_mod_cast (show 9<=q by omega)
  have:=aaz this (aad pD);grind
 have eq:(dh w g:Int)=q:=by unfold dh;rw[aA];omega
 refine⟨eq.symm,by omega,by omega,?_,?_⟩
 ·have:((dh w g:Nat):Rat)=(q:Rat):=by rw[<-eq];rfl
  rw[this];exact bw
 ·have:((dh w g+1:Nat):Rat)=((q+1:Int):Rat):=by rw[<-eq];rfl
  rw[this];exact b3
theorem tS(h:w.1*g.2<g.1*w.2)(kQ:g.1*w.2<=8*(w.1*g.2)): -((-(dY g w).1).fdiv (dY g w).2)=(cT w g:Int)/\1<=cT w g/\cT w g<=8/\((cT w g:Rat)-1)*ar w<ar g/\ar g<=(cT w g:Rat)*ar w:=by
 obtain⟨l,e⟩:=mR (a:=g) (b:=w) aQ.1 w0 lw.1;obtain⟨f1,f2⟩:=HO (x :=-(dY g w).1) l.1
 have aU:((-(dY g w).1:Int):Rat)/((dY g w).2:Int) = -(ar g/ar w):=by
  have:(((dY g w).1:Int):Rat)/((dY g w).2:Int)=ar g/ar w:=e;rw[<-this,ab4,aa5,aa5,acJ]
 rw[aU]at f1 f2;have pD:=d2 a7 aQ.1;have nz:=d2 w0 lw.1
 have bK:ar w<ar g:=by
  have cN:=dy lw.1;have c2:=dy aQ.1;have a1:(0:Rat)<w.2:=by exact_mod_cast lw.1
  have a2:(0:Rat)<g.2:=by exact_mod_cast aQ.1
  have c:(w.1:Rat)*g.2<(g.1:Rat)*w.2:=by exact_mod_cast h
  refine Rat.lt_of_mul_lt_mul_right (c:=(w.2:Rat)*g.2) ?_ (aad (ZY a1 a2));unfold ar;have u:(g.1:Rat)/g.2*(w.2*g.2)=g.1*w.2:=by grind
  have v:(w.1:Rat)/w.2*(w.2*g.2)=w.1*g.2:=by grind
  rw[u,v];exact c
 have SX:ar g<=8*ar w:=by
  have cN:=dy lw.1;have c2:=dy aQ.1;have a1:(0:Rat)<w.2:=by exact_mod_cast lw.1
  have a2:(0:Rat)<g.2:=by exact_mod_cast aQ.1
  have c:(g.1:Rat)*w.2<=8*((w.1:Rat)*g.2):=by exact_mod_cast kQ
  refine abC (c:=(w.2:Rat)*g.2) ?_ (ZY a1 a2);unfold ar;have u:(g.1:Rat)/g.2*(w.2*g.2)=g.1*w.2:=by grind
  have v:8*((w.1:Rat)/w.2)*(w.2*g.2)=8*(w.1*g.2):=by grind
  rw[u,v];exact c
 generalize aA:(-(dY g w).1).fdiv (dY g w).2=q at f1 f2;have wn:ar w≠0:=by grind
 have bw:(q:Rat)*ar w <= -ar g:=by
  have:=aaz f1 (aad nz)
  rwa [acJ,ab2 wn]at this
 have b3 : -ar g<((q+1:Int):Rat)*ar w:=by
  have:=ab3 f2 nz
  rwa [acJ,ab2 wn]at this
 have gB:((q+1:Int):Rat)=(q:Rat)+1:=by push_cast;rfl
 have aW:q <= -1:=by
  apply aak;intro z;have:(0:Rat)<=(q:Rat):=by exact_mod_cast (show 0<=q by omega)
  have:=aaz this (aad nz);grind
 have r9 : -8<=q:=by
  apply aak;intro z;have:((q+1:Int):Rat)<=((-8:Int):Rat):=Rat.intCast_le_intCast.mpr (show q+1 <= -8 by omega);have q6:((-8:Int):Rat) = -8:=by rfl
  rw[q6]at this;have:=aaz this (aad nz);grind
 have eq:(cT w g:Int) = -q:=by unfold cT;rw[aA];omega
 have q7:((cT w g:Nat):Rat) = -(q:Rat):=by
  have:((cT w g:Nat):Rat)=((-q:Int):Rat):=by rw[<-eq];rfl
  rw[this,ab4]
 refine⟨eq.symm,by omega,by omega,?_,?_⟩
 ·rw[q7];rw[gB]at b3;grind
 ·rw[q7];grind
end
noncomputable def lastB(g:bj)(b:BoxD):BoxD:=if b.1=g then b else(g,dH b.1 b.2.1 g,kX b.1 b.2.1 g b.2.2)
theorem HP(g:bj)(b:BoxD):(lastB g b).1=g:=by
 unfold lastB;by_cases h:b.1=g
 ·rw[if_pos h];exact h
 ·rw[if_neg h]
noncomputable def layB(w h g:bj)(sh:List Piece):BoxD:=(cH w (cT w g:Int),fi h (cT w g),fe w 0 (d3 true (fi h (cT w g)) sh (cT w g)))
noncomputable def eQ(w h g:bj)(sh:List Piece):List BoxD :=
 if w.1*g.2<g.1*w.2 then[lastB g (layB w h g sh)]
 else(d3 false g sh (dh w g)).dropLast.map (fun S=>((g,h,S):BoxD))++[lastB g (hi w g (dh w g),h,(d3 false g sh (dh w g)).getLastD [])]
theorem tT{w h g:bj}{sh:List Piece}(c:w.1*g.2<g.1*w.2):eQ w h g sh=[lastB g (layB w h g sh)]:=by
 unfold eQ;rw[if_pos c]
theorem q8{w h g:bj}{sh:List Piece}(c:¬w.1*g.2<g.1*w.2){Ss:List (List Piece)}{Z:List Piece}(e:d3 false g sh (dh w g)=Ss++[Z]):eQ w h g sh=Ss.map (fun S=>((g,h,S):BoxD))++[lastB g (hi w g (dh w g),h,Z)]:=by
 unfold eQ;rw[if_neg c,e,acF,List.getLastD_concat]
theorem SY{w h g:bj}{sh:List Piece}:∀b∈eQ w h g sh,b.1=g:=by
 intro b af;unfold eQ at af;by_cases c:w.1*g.2<g.1*w.2
 ·rw[if_pos c]at af;rw[ZG.mp af,HP]
 ·rw[if_neg c]at af;rcases ZK.mp af with af|af
  ·obtain⟨S,_,rfl⟩:=ZJ.mp af;rfl
  ·rw[ZG.mp af,HP]
theorem HQ{h:bj}(l:0<h.2):∀{bs:List BoxD}{H:bj},aO H.1 H.2->(∀b∈bs,b.2.1=h)->ar (du bs H)=ar H+(bs.length:Rat)*ar h
 | [],H,_,_=>by
  show ar H=ar H+((0:Nat):Rat)*ar h
  have:((0:Nat):Rat)=0:=rfl;rw[this];grind
 | b::r,H,b2,af=>by
  have e:=af b Zd;rw[du,e,HQ l (bs:=r) (q2 b2.1 l) (fun x aC=>af x (Zf _ aC)),xi b2.1 l,ZC];have:((r.length+1:Nat):Rat)=(r.length:Rat)+1:=by push_cast;rfl
  rw[this];grind
theorem HR{h:bj}(l:aO h.1 h.2){bs:List BoxD}(af:∀b∈bs,b.2.1=h):du bs (0,1)=cH h (bs.length:Int):=by
 obtain⟨lm,em⟩:=gi (w:=h) l.1 (bs.length:Int);refine q4 (B0 ⟨by decide,by decide⟩ fun b BC=>by rw[af b BC];exact l.1) lm ?_;rw[em,HQ l.1 ⟨by decide,by decide⟩ af];have:ar (0,1)=0:=hg _;rw[this];have:(((bs.length:Nat):Int):Rat)=(bs.length:Rat):=rfl;rw[this];grind
theorem HS{b m n t N q:Nat}:∀{bs:List BoxD}{H:bj},(∀pre x rest,bs=pre++x::rest->da q (b8 (0,1) (du pre H)))->(∀x∈bs,c4 b m n t N x.2.2)->c4 (b+q+1) (m+q+2) n (t+q+1) (N*bs.length) (ey bs H)
 | [],H,_,_=>⟨fun s aq=>absurd aq aa2,aaa _⟩
 | x::r,H,ag,aq=>by
  have a:=(aq x Zd).slid (ag [] x r rfl);have c:=HS (bs:=r) (H:=h8 H x.2.1) (fun pre y rest e=>ag (x::pre) y rest (by rw[e];rfl)) fun y a6=>aq y (Zf _ a6);rw[ey];refine(a.app c).mono (YK _) (YK _) (YK _) (YK _) ?_;rw[ZC,abk];omega
theorem HU{w:bj}(lw:aO w.1 w.2)(aF:intBits w.1<=30)(aH:intBits w.2<=30){b m n t N:Nat}:∀{Ss:List (List Piece)}{i:Nat},i+Ss.length<=8->(∀S∈Ss,c4 b m n t N S)->c4 (b+37) (m+38) n (t+37) (N*Ss.length) (fe w i Ss)
 | [],i,_,_=>⟨fun s aq=>absurd aq aa2,aaa _⟩
 | S::r,i,aB,aq=>by
  rw[ZC]at aB;obtain⟨eb,_⟩:=gi (w:=w) lw.1 (i:Int);obtain⟨bK,ew⟩:=i9 (w:=w) (q:=30) lw.1 aF aH (k:=(i:Int)) (by omega);have gp:=j9 (a:=cH w (i:Int)) (b:=(0,1)) (p:=34) (q:=2) eb ⟨by decide,by decide⟩ bK ew (by decide) (by decide);have a:=(aq S Zd).slid gp;have c:=HU lw aF aH (Ss:=r) (i:=i+1) (by omega) fun y a6=>aq y (Zf _ a6)
  have e:fe w i (S::r)=S.map (eg (b8 (cH w (i:Int)) (0,1)))++fe w (i+1) r:=by
   unfold fe;rw[e1,abj]
  rw[e];refine(a.app c).mono (YK _) (YK _) (YK _) (YK _) ?_;rw[ZC,abk];omega
section
variable{w h g:bj}(lw:aO w.1 w.2)(w0:0<w.1)(lh:aO h.1 h.2)(h0:0<h.1)(aQ:aO g.1 g.2)(a7:0<g.1)
include lw w0 lh h0 aQ a7
theorem oh{p q r:Nat}(aF:intBits w.1<=p)(aH:intBits w.2<=p)(bV:intBits h.1<=q)(bP:intBits h.2<=q)(b5:intBits g.1<=r)(b6:intBits g.2<=r):aO (dH w h g).1 (dH w h g).2/\intBits (dH w h g).1<=p+q+r/\intBits (dH w h g).2<=p+q+r/\ar (dH w h g)=ar w*ar h/ar g:=by
 have lt:=g6 (t:=w.1*h.1) (b:=w.2*h.2) (YM (Ze lw.1 lh.1));have hQ:intBits (cA (w.1*h.1) (w.2*h.2)).1<=p+q/\intBits (cA (w.1*h.1) (w.2*h.2)).2<=p+q:=⟨d6 lt.2.2.1 (intBits_mul_le aF bV),d6 lt.2.2.2 (intBits_mul_le aH bP)⟩;obtain⟨b2,gT⟩:=mR (a:=cA (w.1*h.1) (w.2*h.2)) (b:=g) lt.1.1 a7 aQ.1;obtain⟨bN,b1⟩:=q3 (a:=cA (w.1*h.1) (w.2*h.2)) (b:=g) (p:=p+q) (q:=r) lt.1.1 a7 hQ.1 hQ.2 b5 b6;refine⟨b2,bN,b1,?_⟩;refine gT.trans ?_;rw[pB (Ze lw.1 lh.1)]
 have bC:((w.1*h.1:Int):Rat)/((w.2*h.2:Int):Rat)=ar w*ar h:=by
  have x:=dy lw.1;have y:=dy lh.1;unfold ar;push_cast;grind
 rw[bC]
theorem S0(aF:intBits w.1<=70)(aH:intBits w.2<=70)(bV:intBits h.1<=70)(bP:intBits h.2<=70)(b5:intBits g.1<=30)(b6:intBits g.2<=30){b m n t N:Nat}{sh:List Piece}(aq:c4 b m n t N sh)(hm:260<=m)(af:261+m<=b):c4 (b+343) (m+344) (n+2) (t+343) (3*N) (kX w h g sh):=by
 obtain⟨b2,bN,b1,gT⟩:=oh lw w0 lh h0 aQ a7 aF aH bV bP b5 b6;have eG:aO 0 1:=⟨by decide,by decide⟩;have fo:=tQ lw w0 lh h0 aQ a7 rfl;unfold kX;generalize dH w h g=H at b2 bN b1 gT fo ⊢;have cN:=j9 (a:=w) (b:=(0,1)) (p:=70) (q:=2) lw eG aF aH (by decide) (by decide);have c2:=j9 (a:=(0,1)) (b:=H) (p:=2) (q:=170) eG b2 (by decide) (by decide) bN b1;have bl:cj 260 (bO w H):=(cN.bp.crs c2.bp).mono (by decide);have mT:(bO w H).1≠0∨(bO w H).2.1≠0:=tR lw w0 b2 fo;have e:(fun c => -ln (bO w H) c)=ln (kO (bO w H)):=funext fun c=>(lQ _ _).symm;have z1:c4 b m (n+1) t N (cf (ln (bO w H)) (aX (bO w H)) sh):=⟨ob aq.1 bl (by omega) mT (n0 _ _) (by omega) _ (.inl rfl),Gg (kP sh) aq.2⟩
 have aT:c4 b m (n+1) t N (cf (fun c => -ln (bO w H) c) (aX (bO w H)) sh):=by
  rw[e];exact⟨ob aq.1 bl (by omega) mT (n0 _ _) (by omega) _ (.inr rfl),Gg (kP sh) aq.2⟩
 have bU:=z1.cL (X:=g) (q:=30) true aQ b5 b6 (by omega) (by omega);have cn:=z1.cL (X:=g) (q:=30) false aQ b5 b6 (by omega) (by omega);have aW:=j9 (a:=(-g.1,g.2)) (b:=h) (p:=30) (q:=70) ⟨aQ.1,by rw[abD];exact aQ.2⟩ lh (intBits_neg_le b5) b6 bV bP;obtain⟨q9,_⟩:=mS (a:=g) (b:=w) aQ.1 lw.1;obtain⟨q',_⟩:=mS (a:=H) (b:=h) b2.1 lh.1;obtain⟨bK,ew⟩:=tP (a:=g) (b:=w) (p:=30) (q:=70) aQ.1 lw.1 b5 b6 aF aH;obtain⟨mL,j0⟩:=tP (a:=H) (b:=h) (p:=170) (q:=70) b2.1 lh.1 bN b1 bV bP;have bS:=j9 (a:=fc g w) (b:=fc H h) (p:=101) (q:=241) q9 q' bK ew mL j0;have s2:=(cn.slid aW).mono (b':=b+343) (m':=m+344) (n':=n+2) (t':=t+343) (N':=N) (by omega) (by omega) (by omega) (by omega) (by omega);have s3:=(aT.slid bS).mono (b':=b+343) (m':=m+344) (n':=n+2) (t':=t+343) (N':=N) (by omega) (by omega) (by omega) (by omega) (by omega);have s1:=bU.mono (b':=b+343) (m':=m+344) (n':=n+2) (t':=t+343) (N':=N) (by omega) (by omega) (by omega) (by omega) (by omega);exact((s1.app s2).app s3).mono (YK _) (YK _) (YK _) (YK _) (by omega)
theorem HV(aF:intBits w.1<=70)(aH:intBits w.2<=70)(bV:intBits h.1<=70)(bP:intBits h.2<=70)(b5:intBits g.1<=30)(b6:intBits g.2<=30){b m n t N:Nat}{sh:List Piece}(aq:c4 b m n t N sh)(hm:260<=m)(af:261+m<=b):c4 (b+343) (m+344) (n+2) (t+343) (3*N) (lastB g (w,h,sh)).2.2/\aO (lastB g (w,h,sh)).2.1.1 (lastB g (w,h,sh)).2.1.2/\intBits (lastB g (w,h,sh)).2.1.1<=170/\intBits (lastB g (w,h,sh)).2.1.2<=170/\ar (lastB g (w,h,sh)).2.1=ar w*ar h/ar g:=by
 obtain⟨b2,bN,b1,gT⟩:=oh lw w0 lh h0 aQ a7 aF aH bV bP b5 b6;unfold lastB;by_cases e:w=g
 ·rw[if_pos e];refine⟨aq.mono (by omega) (by omega) (by omega) (by omega) (by omega),lh,Gg bV (by decide),Gg bP (by decide),?_⟩;show ar h=_
  have:=d2 w0 lw.1;rw[<-e];grind
 ·rw[if_neg e];exact⟨S0 lw w0 lh h0 aQ a7 aF aH bV bP b5 b6 aq hm af,b2,bN,b1,gT⟩
end
theorem B2{a:bj}(h:0<ar a)(ab:0<a.2):0<a.1:=by
 apply aak;intro z;have z1:((a.1:Int):Rat)<=0:=by exact_mod_cast (show a.1<=0 by omega)
 have aT:(0:Rat)<((a.2:Int):Rat):=by exact_mod_cast ab
 unfold ar at h;rw[aa5]at h;have fk:=abA.mpr aT
 have:((a.1:Int):Rat)*(((a.2:Int):Rat))⁻¹<=0:=by
  have:=aaz z1 (aad fk)
  rwa [Rat.zero_mul]at this
 grind
section
variable{w h g:bj}(lw:aO w.1 w.2)(w0:0<w.1)(lh:aO h.1 h.2)(h0:0<h.1)(aQ:aO g.1 g.2)(a7:0<g.1)(aF:intBits w.1<=30)(aH:intBits w.2<=30)(bV:intBits h.1<=60)(bP:intBits h.2<=60)(b5:intBits g.1<=30)(b6:intBits g.2<=30)
include lw w0 aQ a7 aF aH b5 b6
theorem xk(aa:g.1*w.2<=w.1*g.2)(kQ:w.1*g.2<=8*(g.1*w.2)):aO (hi w g (dh w g)).1 (hi w g (dh w g)).2/\0<(hi w g (dh w g)).1/\intBits (hi w g (dh w g)).1<=65/\intBits (hi w g (dh w g)).2<=65/\ar (hi w g (dh w g))=ar w-ar g*((dh w g:Rat)-1):=by
 obtain⟨_,cc,dI,ai,_⟩:=q5 lw w0 aQ a7 aa kQ;generalize dh w g=N at cc dI ai ⊢;obtain⟨iI,j'⟩:=gi (w:=g) aQ.1 ((N:Int)-1);obtain⟨bw,b3⟩:=i9 (w:=g) (q:=30) aQ.1 b5 b6 (k:=(N:Int)-1) (by omega);obtain⟨eR,gU⟩:=mS (a:=w) (b:=cH g ((N:Int)-1)) lw.1 iI.1;obtain⟨bK,ew⟩:=tP (a:=w) (b:=cH g ((N:Int)-1)) (p:=30) (q:=34) lw.1 iI.1 aF aH bw b3;have pD:=d2 a7 aQ.1;have gB:(((N:Int)-1:Int):Rat)=(N:Rat)-1:=by push_cast;rfl
 have e:ar (hi w g N)=ar w-ar g*((N:Rat)-1):=by
  unfold hi;rw[gU,j',gB]
 refine⟨eR,B2 ?_ eR.1,bK,ew,e⟩;rw[e];grind
omit aQ a7 b5 b6
include lh h0 bV bP
theorem tU{N:Nat}(gC:1<=N)(pE:N<=8):aO (fi h N).1 (fi h N).2/\0<(fi h N).1/\intBits (fi h N).1<=64/\intBits (fi h N).2<=64/\ar (fi h N)=ar h/(N:Rat)/\aO (cH w (N:Int)).1 (cH w (N:Int)).2/\0<(cH w (N:Int)).1/\intBits (cH w (N:Int)).1<=34/\intBits (cH w (N:Int)).2<=34/\ar (cH w (N:Int))=ar w*(N:Rat):=by
 have pF:intBits (N:Int)<=4:=d6 (t:=8) (by omega) (by decide);obtain⟨eR,gU⟩:=mR (a:=h) (b:=((N:Int),1)) lh.1 (by show(0:Int)<N;omega) (show(0:Int)<1 by decide);obtain⟨bx,bB⟩:=q3 (a:=h) (b:=((N:Int),1)) (p:=60) (q:=4) lh.1 (by show(0:Int)<N;omega) bV bP pF (show intBits 1<=4 by decide);obtain⟨iI,j'⟩:=gi (w:=w) lw.1 (N:Int);obtain⟨bw,b3⟩:=i9 (w:=w) (q:=30) lw.1 aF aH (k:=(N:Int)) (by omega);have xl:(0:Rat)<(N:Rat):=by exact_mod_cast (show 0<N by omega)
 have W:=d2 w0 lw.1;have H:=d2 h0 lh.1
 have r8:ar ((N:Int),1)=(N:Rat):=by
  unfold ar;show((N:Int):Rat)/((1:Int):Rat)=_
  have:((1:Int):Rat)=1:=rfl;rw[this];have:(((N:Nat):Int):Rat)=(N:Rat):=rfl;rw[this];grind
 rw[r8]at gU
 have cN:0<ar (dY h ((N:Int),1)):=by
  rw[gU,aa5];exact ZY H (abA.mpr xl)
 have c2:0<ar (cH w (N:Int)):=by
  rw[j'];exact ZY W xl
 exact⟨eR,B2 cN eR.1,bx,bB,gU,iI,B2 c2 iI.1,bw,b3,j'⟩
include aQ a7 b5 b6
theorem HW{B bA n t N:Nat}{sh:List Piece}(aq:c4 B bA n t N sh)(ed:270+bA<=B)(hm:240<=bA)(cc:1<=cT w g)(dI:cT w g<=8):
  c4 (B+108) (bA+110) (n+3) (t+108) (N*8) (layB w h g sh).2.2:=by
 obtain⟨eR,hz,bx,bB,_⟩:=tU lw w0 lh h0 aF aH bV bP cc dI;have i':=xj (c:=true) (w:=fi h (cT w g)) (b:=B) (m:=bA) (t:=t) (N:=N) (q:=64) eR.1 bx bB (by omega) (by omega) cc dI aq;have cl:=lV (c:=true) (w:=fi h (cT w g)) (sh:=sh) cc dI;have:=HU lw aF aH (i:=0) (Ss:=d3 true (fi h (cT w g)) sh (cT w g)) (by omega) i';refine this.mono (by omega) (by omega) (by omega) (by omega) ?_;rw[cl];exact ab5 _ dI
theorem B3{B bA n t N:Nat}{sh:List Piece}(aq:c4 B bA n t N sh)(ed:270+bA<=B)(hm:240<=bA)(au:w.1*g.2<=8*(g.1*w.2))(aG:g.1*w.2<=8*(w.1*g.2)):
  (∀x∈eQ w h g sh,aO x.2.1.1 x.2.1.2/\intBits x.2.1.1<=170/\intBits x.2.1.2<=170/\c4 (B+451) (bA+454) (n+5) (t+451) (24*N) x.2.2) /\
  (∀pre x rest,eQ w h g sh=pre++x::rest->aO (du pre (0,1)).1 (du pre (0,1)).2/\intBits (du pre (0,1)).1<=64/\intBits (du pre (0,1)).2<=64) /\
  ((eQ w h g sh).map fun b=>b.2.2.length).sum<=24*N/\du (eQ w h g sh) (0,1)=dH w h g:=by
 have eG:aO 0 1:=⟨by decide,by decide⟩;obtain⟨b2,bN,b1,gT⟩:=oh lw w0 lh h0 aQ a7 aF aH bV bP b5 b6;have nz:=d2 w0 lw.1;have pD:=d2 a7 aQ.1;have fo:=d2 h0 lh.1;have z0:ar (0,1)=0:=hg _;by_cases c:w.1*g.2<g.1*w.2
 ·obtain⟨_,cc,dI,_,_⟩:=tS lw w0 aQ a7 c aG;obtain⟨eR,hz,bx,bB,gU,iI,mC,bw,b3,j'⟩:=tU lw w0 lh h0 aF aH bV bP cc dI;have qT:=HW lw w0 lh h0 aQ a7 aF aH bV bP b5 b6 aq ed hm cc dI;obtain⟨a1,a2,iG,xm,xn⟩:=HV iI mC eR hz aQ a7 (Gg bw (by decide)) (Gg b3 (by decide)) (Gg bx (by decide)) (Gg bB (by decide)) b5 b6 qT (by omega) (by omega);have xl:(0:Rat)<(cT w g:Rat):=by exact_mod_cast (show 0<cT w g by omega)
  have HX:ar (lastB g (layB w h g sh)).2.1=ar w*ar h/ar g:=by
   refine xn.trans ?_;rw[gU,j'];grind
  have B4:c4 (B+108+343) (bA+110+344) (n+3+2) (t+108+343) (3*(N*8)) (lastB g (layB w h g sh)).2.2:=a1;have xo:aO (lastB g (layB w h g sh)).2.1.1 (lastB g (layB w h g sh)).2.1.2:=a2;have HY:intBits (lastB g (layB w h g sh)).2.1.1<=170:=iG;have HZ:intBits (lastB g (layB w h g sh)).2.1.2<=170:=xm;rw[tT c];generalize lastB g (layB w h g sh)=X at B4 xo HY HZ HX ⊢;refine⟨fun x aC=>?_,fun pre x rest e=>?_,?_,?_⟩
  ·rw[ZG.mp aC];exact⟨xo,HY,HZ,B4.mono (by omega) (by omega) (by omega) (by omega) (by omega)⟩
  ·cases pre with
   | nil=>exact⟨eG,by decide,by decide⟩
   | cons y r=>exact absurd (congrArg ZS e) (by simp)
  ·have:=B4.2;simp only[ZE,aaq,Z3,aa6];omega
  ·refine q4 (q2 eG.1 xo.1) b2 ?_;show ar (h8 (0,1) X.2.1)=_
   rw[xi eG.1 xo.1,gT,HX,z0];grind
 ·have aa:g.1*w.2<=w.1*g.2:=by omega
  obtain⟨_,cc,dI,_,_⟩:=q5 lw w0 aQ a7 aa au;obtain⟨eR,hz,bx,bB,gU⟩:=xk lw w0 aQ a7 aF aH b5 b6 aa au;have i':=xj (c:=false) (w:=g) (b:=B) (m:=bA) (t:=t) (N:=N) (q:=30) aQ.1 b5 b6 (by omega) (by omega) cc dI aq;have cl:=lV (c:=false) (w:=g) (sh:=sh) cc dI
  obtain⟨Ss,Z,fY⟩:∃Ss Z,d3 false g sh (dh w g)=Ss++[Z]:=by
   rcases abl (d3 false g sh (dh w g))with z|⟨Ss,Z,z⟩
   ·rw[z]at cl;simp at cl;omega
   ·exact⟨Ss,Z,by rw[z,abm]⟩
  rw[q8 c fY];rw[fY]at i' cl;rw[Zg,aal]at cl;obtain⟨a1,a2,iG,xm,xn⟩:=HV eR hz lh h0 aQ a7 (Gg bx (by decide)) (Gg bB (by decide)) (Gg bV (by decide)) (Gg bP (by decide)) b5 b6 (i' Z (by simp)) (by omega) (by omega);generalize lastB g (hi w g (dh w g),h,Z)=X at a1 a2 iG xm xn ⊢
  have et:∀b∈Ss.map (fun S=>((g,h,S):BoxD)),b.2.1=h:=fun b af=>by
   obtain⟨S,_,rfl⟩:=ZJ.mp af;rfl
  refine⟨fun x aC=>?_,fun pre x rest e=>?_,?_,?_⟩
  ·rcases ZK.mp aC with aC|aC
   ·obtain⟨S,cp,rfl⟩:=ZJ.mp aC;exact⟨lh,Gg bV (by decide),Gg bP (by decide),(i' S (aaD _ cp)).mono (by omega) (by omega) (by omega) (by omega) (by omega)⟩
   ·rw[ZG.mp aC];exact⟨a2,iG,xm,a1.mono (by omega) (by omega) (by omega) (by omega) (by omega)⟩
  ·have sub:∀b∈pre,b∈Ss.map (fun S=>((g,h,S):BoxD)):=by
    have:=congrArg List.dropLast e;rw[acF,List.dropLast_append_of_ne_nil (by simp)]at this;intro b af;rw[this];exact aaD _ af
   have c1:pre.length<=Ss.length:=by
    have:=congrArg ZS e;simp only[Zg,YL,ZC,aaQ]at this;omega
   rw[HR lh fun b af=>et b (sub b af)];obtain⟨bw,b3⟩:=i9 (w:=h) (q:=60) lh.1 bV bP (k:=(pre.length:Int)) (by omega);exact⟨(gi lh.1 _).1,bw,b3⟩
  ·rw[ZD,abn,ZV]
   have s1:(abo ((fun b:BoxD=>b.2.2.length)∘fun S=>((g,h,S):BoxD)) Ss).sum<=N*Ss.length:=by
    have:∀kY:List (List Piece),(∀S∈kY,S.length<=N)->(abo ((fun b:BoxD=>b.2.2.length)∘fun S=>((g,h,S):BoxD)) kY).sum<=N*kY.length:=fun kY=>by
     induction kY with
     | nil=>intro _;exact aaa _
     | cons S r c0 =>
      intro dC;have x:=dC S Zd;have y:=c0 fun S cp=>dC S (Zf _ cp);rw[ZE,Z3,ZC,abk];show S.length+_<=_
      omega
    exact this Ss fun S cp=>(i' S (aaD _ cp)).2
   have s2:=a1.2;have s3:N*Ss.length<=N*7:=ab5 _ (by omega);simp only[ZE,aaq,Z3,aa6];omega
  ·rw[BZ,HR lh et,YL];obtain⟨lm,em⟩:=gi (w:=h) lh.1 (Ss.length:Int);refine q4 (q2 lm.1 a2.1) b2 ?_;show ar (h8 (cH h (Ss.length:Int)) X.2.1)=_
   rw[xi lm.1 a2.1,em,xn,gU,gT];have r8:(dh w g:Rat)=(Ss.length:Rat)+1:=by rw[<-cl];push_cast;rfl
   have S1:(((Ss.length:Nat):Int):Rat)=(Ss.length:Rat):=rfl;rw[r8,S1];grind
theorem S2{B bA n t N:Nat}{sh:List Piece}(aq:c4 B bA n t N sh)(ed:270+bA<=B)(hm:240<=bA)(au:w.1*g.2<=8*(g.1*w.2))(aG:g.1*w.2<=8*(w.1*g.2)):
  c4 (B+518) (bA+522) (n+5) (t+518) (24*N) (ey (eQ w h g sh) (0,1)):=by
 obtain⟨bU,cn,fN,_⟩:=B3 lw w0 lh h0 aQ a7 aF aH bV bP b5 b6 aq ed hm au aG
 have:=HS (q:=66) (bs:=eQ w h g sh) (H:=(0,1)) (fun pre x rest e=>by
  obtain⟨l,a9,ba⟩:=cn pre x rest e
  exact j9 (a:=(0,1)) (p:=2) (q:=64) ⟨by decide,by decide⟩ l (by decide) (by decide) a9 ba) fun x aC=>(bU x aC).2.2.2
 exact⟨(this.mono (by omega) (by omega) (by omega) (by omega) (YK _)).1,by rw[xh];exact fN⟩
end
end Cut
namespace L3
open PySem L2
theorem S3{α:Type}(xs:List α)(x:α):fU (xs++[x]) none (some (-1))=xs:=by
 unfold fU;have ai:HT.sIx (xs++[x]).length 0 none=0:=rfl
 have av:HT.sIx (xs++[x]).length (xs++[x]).length (some (-1))=xs.length:=by
  unfold HT.sIx;simp
  try omega
 rw[ai,av,acq,Nat.sub_zero,List.take_left]
end L3
namespace Cut
open PySem L2 L3
open PySem.Builtin.Int (intBits)
theorem eH.slid{sh:List Piece}{g:P3}{u v:Rat}(aD:b7 g u v)(h:eH sh):eH (sh.map (eg g)):=by
 intro s aq p ag;obtain⟨r,ak,rfl⟩:=ZJ.mp aq;obtain⟨q,aA,rfl⟩:=ZJ.mp (show p∈r.1.map fun p=>nP (sld g p)from ag);exact(j4 aD ⟨h r ak q aA,rfl,rfl⟩).1
theorem eH.app{a b:List Piece}(h:eH a)(g:eH b):eH (a++b):=fun s aq=>(ZK.mp aq).elim (h s) (g s)
theorem ra(m:Rat):∃X:bj,aO X.1 X.2/\ar X=m:=by
 refine⟨(m.num,(m.den:Int)),⟨by show(0:Int)<(m.den:Int);exact_mod_cast m.den_pos,?_⟩,?_⟩
 ·have:=m.reduced;show YJ m.num (m.den:Int)=1
  exact this
 ·unfold ar;exact(Rat.divInt_eq_div _ _).symm.trans (Rat.num_divInt_den m)
def oneS(R:List P3):List Piece:=[(R,false,(0,0,1))]
theorem H0(R:List P3):Lies (oneS R) R:=fx.refl _
theorem H2{R:List P3}(h:∀p∈R,aS p):eH (oneS R):=fun s aq=>by rw[ZG.mp aq];exact h
theorem H3{l o:P3}{R:List P3}(aj:l.1≠0∨l.2.1≠0)(aE:aS o)(lo:ln l o=0)(aP:∀p∈R,aS p)(φ:List (List Int)->Int):e0 φ ((cf (ln l) (aX l) (oneS R)).map fun s=>s.1)+e0 φ ((cf (fun c => -ln l c) (aX l) (oneS R)).map fun s=>s.1)=dd φ R:=by
 rw[tp,tp];show e0 φ [keepR (ln l) (aX l) R]+e0 φ [keepR (fun c => -ln l c) (aX l) R]=dd φ R
 rw[gR,gR];exact wR φ aj aE lo aP
theorem S4{R lW e5:List P3}{x0 bK bX bE m:Rat}(au:fA lW x0 m bX bE)(aG:fA e5 m bK bX bE)(r:fA R x0 bK bX bE)(h0:x0<m)(aa:m<bK)(φ:List (List Int)->Int):dd φ lW+dd φ e5=dd φ R:=by
 obtain⟨X,eb,rfl⟩:=ra m;obtain⟨⟨HF,aW,z1⟩,HG,bS,aT⟩:=HC (H2 r.pts) (H0 R) r eb h0 aa;obtain⟨dg,dB,fO⟩:=tr eb;have s:=H3 dg dB fO r.pts φ;have a:=z1 φ;have b:=aT φ;rw[aW.eq au,gR]at a;rw[bS.eq aG,gR]at b;rw[<-a,<-b,<-s];rfl
theorem S5{R lW e5:List P3}{x0 bK bX bE m:Rat}(au:fA lW x0 bK bX m)(aG:fA e5 x0 bK m bE)(r:fA R x0 bK bX bE)(h0:bX<m)(aa:m<bE)(φ:List (List Int)->Int):dd φ lW+dd φ e5=dd φ R:=by
 obtain⟨X,eb,rfl⟩:=ra m;obtain⟨⟨HF,aW,z1⟩,HG,bS,aT⟩:=HD (H2 r.pts) (H0 R) r eb h0 aa;obtain⟨dg,dB,fO⟩:=tu eb;have s:=H3 dg dB fO r.pts φ;have a:=z1 φ;have b:=aT φ;rw[aW.eq au,gR]at a;rw[bS.eq aG,gR]at b;rw[<-a,<-b,<-s,Rat.add_comm];rfl
theorem Lies.join{A B:List Piece}{lW e5 R:List P3}(aa:Lies A lW)(ab:Lies B e5)(e:∀φ,dd φ lW+dd φ e5=dd φ R):Lies (A++B) R:=fun φ=>by
 rw[ZD,pz,aa φ,ab φ,gR,gR,gR,e]
theorem B5(x0 bK bX bE:Rat):∃R,fA R x0 bK bX bE:=by
 obtain⟨a,la,rfl⟩:=ra x0;obtain⟨b,lb,rfl⟩:=ra bK;obtain⟨c,lc,rfl⟩:=ra bX;obtain⟨d,ld,rfl⟩:=ra bE;exact⟨_,_,_,_,_,rfl,fP la.1 lc.1,fP lb.1 lc.1,fP lb.1 ld.1,fP la.1 ld.1⟩
def dJ(S:List Piece)(x0 bK bX bE:Rat):Prop:=eH S/\∃R,Lies S R/\fA R x0 bK bX bE
theorem dJ.to{S:List Piece}{x0 bK bX bE z0 z1 w0 w1:Rat}(h:dJ S x0 bK bX bE)(ai:x0=z0)(av:bK=z1)(bC:bX=w0)(c6:bE=w1):dJ S z0 z1 w0 w1:=by subst ai av bC c6;exact h
theorem dJ.slid{S:List Piece}{x0 bK bX bE u v:Rat}{g:P3}(aD:b7 g u v)(h:dJ S x0 bK bX bE):dJ (S.map (eg g)) (x0+u) (bK+u) (bX+v) (bE+v):=by
 obtain⟨ag,R,aj,r⟩:=h;exact⟨ag.slid aD,_,aj.slid aD.1 ag r.pts,r.slid aD⟩
theorem dJ.joinU{A B:List Piece}{x0 bK bX bE m:Rat}(h:dJ A x0 m bX bE)(g:dJ B m bK bX bE)(h0:x0<m)(aa:m<bK):dJ (A++B) x0 bK bX bE:=by
 obtain⟨ag,lW,bx,au⟩:=h;obtain⟨aA,e5,bB,aG⟩:=g;obtain⟨R,r⟩:=B5 x0 bK bX bE;exact⟨ag.app aA,R,bx.join bB (S4 au aG r h0 aa),r⟩
theorem dJ.joinV{A B:List Piece}{x0 bK bX bE m:Rat}(h:dJ A x0 bK bX m)(g:dJ B x0 bK m bE)(h0:bX<m)(aa:m<bE):dJ (A++B) x0 bK bX bE:=by
 obtain⟨ag,lW,bx,au⟩:=h;obtain⟨aA,e5,bB,aG⟩:=g;obtain⟨R,r⟩:=B5 x0 bK bX bE;exact⟨ag.app aA,R,bx.join bB (S5 au aG r h0 aa),r⟩
theorem oi(n:Nat):((n+1:Nat):Rat)=(n:Rat)+1:=by push_cast;rfl
theorem H4{w:bj}(lw:aO w.1 w.2)(w0:0<w.1){L:Rat}:∀{Ss:List (List Piece)}{S:List Piece}{i:Nat},(∀T∈S::Ss,dJ T 0 (ar w) 0 L)->dJ (fe w i (S::Ss)) (ar w*(i:Rat)) (ar w*((i+Ss.length+1:Nat):Rat)) 0 L
 | Ss,S,i,aq=>by
  have W:=d2 w0 lw.1;obtain⟨eb,jy⟩:=gi (w:=w) lw.1 (i:Int);have eE:(((i:Nat):Int):Rat)=(i:Rat):=rfl;have gp:b7 (b8 (cH w (i:Int)) (0,1)) (ar w*(i:Rat)) 0:=(fP (w:=cH w (i:Int)) (h:=(0,1)) eb.1 (by decide)).to (jy.trans (by rw[eE])) (hg _);have a:=(aq S Zd).slid gp
  have e:fe w i (S::Ss)=S.map (eg (b8 (cH w (i:Int)) (0,1)))++fe w (i+1) Ss:=by
   unfold fe;rw[e1,abj]
  rw[e];have ez:=a.to (z0:=ar w*(i:Rat)) (z1:=ar w*((i+1:Nat):Rat)) (w0:=0) (w1:=L) (by grind) (by rw[oi];grind) (by grind) (by grind)
  match Ss,aq with
  | [],aq =>
   have:fe w (i+1) ([]:List (List Piece))=[]:=rfl;rw[this,ZF];exact ez
  | T::r,aq =>
   have b:=H4 lw w0 (L:=L) (Ss:=r) (S:=T) (i:=i+1) fun X nQ=>aq X (Zf _ nQ);have c:=b.to (z1:=ar w*((i+(T::r).length+1:Nat):Rat)) rfl (by rw[ZC,show i+1+r.length+1=i+(r.length+1)+1 by omega]) rfl rfl;refine ez.joinU c ?_ ?_
   ·rw[oi];grind
   ·have lt:((i+1:Nat):Rat)<((i+(T::r).length+1:Nat):Rat):=by
     exact_mod_cast (show i+1<i+(T::r).length+1 by rw[ZC];omega)
    have:=ab3 lt W;grind
theorem H5{G:Rat}:∀{bs:List BoxD}{b:BoxD}{H:bj},aO H.1 H.2->(∀x∈b::bs,dJ x.2.2 0 G 0 (ar x.2.1)/\0<x.2.1.2/\0<ar x.2.1)->dJ (ey (b::bs) H) 0 G (ar H) (ar (du (b::bs) H))/\ar H<ar (du (b::bs) H)
 | bs,b,H,b2,aq=>by
  obtain⟨o,c2,pp⟩:=aq b Zd;have gp:b7 (b8 (0,1) H) 0 (ar H):=(fP (by decide) b2.1).to (hg _) rfl;have a:=o.slid gp;have S6:=q2 b2.1 c2;have xp:=xi b2.1 c2;have ez:=a.to (z0:=0) (z1:=G) (w0:=ar H) (w1:=ar (h8 H b.2.1)) (by grind) (by grind) (by grind) (by rw[xp];grind);rw[ey,du]
  match bs,aq with
  | [],aq =>
   have:ey ([]:List BoxD) (h8 H b.2.1)=[]:=rfl;rw[this,ZF];exact⟨ez,by show ar H<ar (h8 H b.2.1);rw[xp];grind⟩
  | c::r,aq =>
   obtain⟨q,lt⟩:=H5 (G:=G) (bs:=r) (b:=c) (H:=h8 H b.2.1) S6 fun x aC=>aq x (Zf _ aC);exact⟨ez.joinV q (by rw[xp];grind) lt,by rw[xp]at lt;grind⟩
section
variable{f:P3->Int}{mt:P3->P3->P3}{a b c d:P3}
theorem S7(ay:0<f a)(af:f b=0)(hc:f c<0)(hd:0<f d):keepR f mt [a,b,c,d]=[a,b,mt c d,d]:=by
 rw[j6 a (by simp) ay,j5,fy (by omega),fh (.inl ⟨by omega,by omega⟩),fy (by omega),fh (.inr ⟨by omega,by omega⟩),gh hc,gS (.inr ⟨hc,hd⟩),fy (by omega),fh (.inl ⟨by omega,by omega⟩)];rfl
theorem S8(ay:f a<0)(af:f b=0)(hc:0<f c)(hd:f d<0):keepR f mt [a,b,c,d]=[b,c,mt c d]:=by
 rw[j6 c (by simp) hc,j5,gh ay,fh (.inr ⟨by omega,by omega⟩),fy (by omega),fh (.inl ⟨by omega,by omega⟩),fy (by omega),gS (.inl ⟨hc,hd⟩),gh hd,fh (.inr ⟨by omega,by omega⟩)];rfl
theorem S9(ay:0<f a)(af:f b<0)(hc:0<f c)(hd:0<f d):keepR f mt [a,b,c,d]=[a,mt a b,mt b c,c,d]:=by
 rw[j6 a (by simp) ay,j5,fy (by omega),gS (.inl ⟨ay,af⟩),gh af,gS (.inr ⟨af,hc⟩),fy (by omega),fh (.inl ⟨by omega,by omega⟩),fy (by omega),fh (.inl ⟨by omega,by omega⟩)];rfl
theorem S'(ay:f a<0)(af:0<f b)(hc:f c<0)(hd:f d<0):keepR f mt [a,b,c,d]=[mt a b,b,mt b c]:=by
 rw[j6 b (by simp) af,j5,gh ay,gS (.inr ⟨ay,af⟩),fy (by omega),gS (.inl ⟨af,hc⟩),gh hc,fh (.inr ⟨by omega,by omega⟩),gh hd,fh (.inr ⟨by omega,by omega⟩)];rfl
theorem Ta(ay:f a<0)(af:f b<0)(hc:f c<0)(hd:0<f d):keepR f mt [a,b,c,d]=[mt c d,d,mt d a]:=by
 rw[j6 d (by simp) hd,j5,gh ay,fh (.inr ⟨by omega,by omega⟩),gh af,fh (.inr ⟨by omega,by omega⟩),gh hc,gS (.inr ⟨hc,hd⟩),fy (by omega),gS (.inl ⟨hd,ay⟩)];rfl
theorem Tb(ay:0<f a)(af:0<f b)(hc:0<f c)(hd:f d<0):keepR f mt [a,b,c,d]=[a,b,c,mt c d,mt d a]:=by
 rw[j6 a (by simp) ay,j5,fy (by omega),fh (.inl ⟨by omega,by omega⟩),fy (by omega),fh (.inl ⟨by omega,by omega⟩),fy (by omega),gS (.inl ⟨hc,hd⟩),gh hd,gS (.inr ⟨hd,ay⟩)];rfl
end
theorem eH.cut{sh:List Piece}{l:P3}(h:eH sh):eH (cf (ln l) (aX l) sh)/\eH (cf (fun c => -ln l c) (aX l) sh):=by
 have key:∀f:P3->Int,(∀p q,f p*f q<0->ln l p*ln l q<0)->eH (cf f (aX l) sh):=fun f hf s aq p ag=>by
  obtain⟨t,bt,rfl,c⟩:=sZ aq;rcases pk ag with⟨aa,_⟩|⟨u,aa,v,ab,aK,rfl⟩
  ·exact h t bt p aa
  ·have gp:=h t bt u aa;have hT:=h t bt v ab;rw[<-jr gp hT];exact fg (jt gp hT (hf _ _ aK))
 exact⟨key _ (fun _ _ z=>z),key _ (fun p q z=>by rwa [aay]at z)⟩
section
variable{w H:bj}(lw:aO w.1 w.2)(b2:aO H.1 H.2)
include lw b2
theorem mU{c:P3}{x y:Rat}(hc:b7 c x y):∃k:Rat,0<k/\((ln (bO w H) c:Int):Rat)=k*(ar w*ar H-ar H*x-ar w*y):=by
 have gQ:b7 (b8 w (0,1)) (ar w) 0:=(fP lw.1 (by decide)).to rfl (hg _);have jq:b7 (b8 (0,1) H) 0 (ar H):=(fP (by decide) b2.1).to (hg _) rfl;obtain⟨k,cC,e⟩:=Bx gQ jq hc;exact⟨k,cC,by show((bc _ _ c:Int):Rat)=_;rw[e];grind⟩
theorem H6{p q:P3}{bK bE ew c3 x y:Rat}(w0:0<ar w)(fo:0<ar H)(ag:b7 p bK bE)(aA:b7 q ew c3)(h:ln (bO w H) p*ln (bO w H) q<0)(aj:ar H*x+ar w*y=ar w*ar H)(bb:(bK=ew/\x=bK)∨(bE=c3/\y=bE)):b7 (aX (bO w H) p q) x y:=by
 have pm:aS (aX (bO w H) p q):=by rw[<-jr ag.1 aA.1];exact fg (jt ag.1 aA.1 h)
 obtain⟨a,b,Ha,ex,fM⟩:=AW (pj h) ag.1.1 aA.1.1 pm.1;have im:b7 (aX (bO w H) p q) (hv (aX (bO w H) p q)) (hx (aX (bO w H) p q)):=⟨pm,rfl,rfl⟩;obtain⟨k,cC,e⟩:=mU lw b2 im;rw[qO h]at e;have bU:k≠0:=by intro z;rw[z]at cC;exact absurd cC (by decide)
 have z:ar w*ar H-ar H*hv (aX (bO w H) p q)-ar w*hx (aX (bO w H) p q)=0:=by
  have:k*(ar w*ar H-ar H*hv (aX (bO w H) p q)-ar w*hx (aX (bO w H) p q))=0:=by rw[<-e];rfl
  grind
 have wn:ar w≠0:=by grind
 have Zk:ar H≠0:=by grind
 rw[ag.2.1,aA.2.1]at ex;rw[ag.2.2,aA.2.2]at fM;generalize hv (aX (bO w H) p q)=cF at *;generalize hx (aX (bO w H) p q)=kZ at *;rcases bb with⟨aa,ab⟩|⟨aa,ab⟩
 ·subst aa ab;have ai:cF=x:=by rw[ex];grind
  subst ai;refine im.to rfl ?_;have:ar w*(kZ-y)=0:=by grind
  grind
 ·subst aa ab;have ai:kZ=y:=by rw[fM];grind
  subst ai;refine im.to ?_ rfl;have:ar H*(cF-x)=0:=by grind
  grind
end
theorem oj{a:Int}(h:0<a): -a<0:=by omega
theorem rd{a:Int}(h:a<0):0 < -a:=by omega
section
variable{w h g H:bj}(lw:aO w.1 w.2)(w0:0<w.1)(lh:aO h.1 h.2)(h0:0<h.1)(aQ:aO g.1 g.2)(a7:0<g.1)(b2:aO H.1 H.2)(fo:0<H.1)(e:ar g*ar H=ar w*ar h)(tV:ar g<ar w)(om:ar w<2*ar g)
include lw w0 lh h0 aQ a7 b2 fo e tV om
theorem Tc{sh:List Piece}(on:dJ sh 0 (ar w) 0 (ar h)):∃A E B P C M D:P3,b7 A 0 0/\b7 E (ar g) 0/\b7 B (ar w) 0/\b7 P (ar g) (ar H-ar h)/\b7 C (ar w) (ar h)/\b7 M (ar w-ar g) (ar h)/\b7 D 0 (ar h) /\
  Lies (cL g true (cf (ln (bO w H)) (aX (bO w H)) sh)) [A,E,P,M,D]/\Lies (cL g false (cf (ln (bO w H)) (aX (bO w H)) sh)) [E,B,P]/\Lies (cf (fun c => -ln (bO w H) c) (aX (bO w H)) sh) [B,C,M]:=by
 obtain⟨ag,R,aj,r⟩:=on;have aA:=r.pts;have W:=d2 w0 lw.1;have L:=d2 h0 lh.1;have G:=d2 a7 aQ.1;have oo:=d2 fo b2.1;obtain⟨A,B,C,D,rfl,jB,k0,rf,lX⟩:=r;have mT:(bO w H).1≠0∨(bO w H).2.1≠0:=tR lw w0 b2 fo;have gQ:b7 (b8 w (0,1)) (ar w) 0:=(fP lw.1 (by decide)).to rfl (hg _);obtain⟨z1,aT⟩:=w2 aj mT gQ.1 (n0 _ _) ag aA;have g0:ar w*ar H-ar w*ar h=ar H*(ar w-ar g):=by grind
 have pf:0<ln (bO w H) A:=by
  obtain⟨k,cC,aU⟩:=mU lw b2 jB;refine kU cC aU ?_;have:=ZY W oo;grind
 have Td:ln (bO w H) B=0:=by
  obtain⟨k,cC,aU⟩:=mU lw b2 k0;exact w6 aU (by grind)
 have pG:ln (bO w H) C<0:=by
  obtain⟨k,cC,aU⟩:=mU lw b2 rf;refine n9 cC aU ?_;have:=ZY W L;grind
 have tW:0<ln (bO w H) D:=by
  obtain⟨k,cC,aU⟩:=mU lw b2 lX;refine kU cC aU ?_;have:=ZY oo (show 0<ar w-ar g by grind);grind
 have ka:b7 (aX (bO w H) C D) (ar w-ar g) (ar h):=H6 lw b2 W oo rf lX (aaJ pG tW) (by grind) (.inr ⟨rfl,rfl⟩);rw[S7 (f:=ln (bO w H)) pf Td pG tW]at z1;rw[S8 (f:=fun c => -ln (bO w H) c) (oj pf) (by show -ln (bO w H) B=0;omega) (rd pG) (oj tW)]at aT;generalize aX (bO w H) C D=M at ka z1 aT;obtain⟨dg,dB,fO⟩:=tr aQ;obtain⟨bE,c3⟩:=w2 z1 dg dB fO (ag.cut (l:=bO w H)).1 (BB jB.1 k0.1 ka.1 lX.1);have pH:=tx aQ jB (by grind);have xq:=By aQ k0 (by grind);have B6:=tx aQ ka (by grind);have pI:=tx aQ lX (by grind);have k1:=w7 aQ jB k0 (ZP pH xq) (y:=0) (by grind);have k2:=w7 aQ k0 ka (aaJ xq B6) (y:=ar H-ar h) (by grind);rw[S9 (f:=ln (dW g)) pH xq B6 pI]at bE;rw[S' (f:=fun c => -ln (dW g) c) (oj pH) (rd xq) (oj B6) (oj pI)]at c3;exact⟨A,_,B,_,C,M,D,jB,k1,k0,k2,rf,ka,lX,bE,c3,aT⟩
theorem Te{R:List P3}{A E P M D pJ kb:P3}(r:fA R 0 (ar g) 0 (ar H))(jB:b7 A 0 0)(k1:b7 E (ar g) 0)(k2:b7 P (ar g) (ar H-ar h))(ka:b7 M (ar w-ar g) (ar h))(lX:b7 D 0 (ar h))(rh:b7 pJ (ar g) (ar H))(lY:b7 kb 0 (ar H))(φ:List (List Int)->Int):
  dd φ [A,E,P,M,D]+dd φ [D,M,kb]+dd φ [P,pJ,kb]=dd φ R:=by
 have W:=d2 w0 lw.1;have L:=d2 h0 lh.1;have G:=d2 a7 aQ.1;have oo:=d2 fo b2.1;have aA:=r.pts
 have d8:R=[A,E,pJ,kb]:=by
  obtain⟨a,b,c,d,rfl,H7,H8,Tf,Tg⟩:=r;exact Hd (H7.eq jB) (H8.eq k1) (Tf.eq rh) (Tg.eq lY)
 subst d8
 have gl:0<ar g*(ar H-ar h):=by
  have:=ZY (show 0<ar w-ar g by grind) L;grind
 have Th:ar h<ar H:=by
  apply aak;intro z;have z:=Rat.not_lt.mp z;have:=ab6 z (aad G);grind
 have aZ:ar H<2*ar h:=by
  apply aak;intro z;have z:=Rat.not_lt.mp z;have a:=ab6 z (aad G);have b:=ab3 om L;grind
 have mT:(bO w H).1≠0∨(bO w H).2.1≠0:=tR lw w0 b2 fo;have gQ:b7 (b8 w (0,1)) (ar w) 0:=(fP lw.1 (by decide)).to rfl (hg _);have s1:=wR φ mT gQ.1 (n0 _ _) aA
 have pf:0<ln (bO w H) A:=by
  obtain⟨k,cC,aU⟩:=mU lw b2 jB;refine kU cC aU ?_;have:=ZY W oo;grind
 have B7:0<ln (bO w H) E:=by
  obtain⟨k,cC,aU⟩:=mU lw b2 k1;refine kU cC aU ?_;have:=ZY oo (show 0<ar w-ar g by grind);grind
 have pG:ln (bO w H) pJ<0:=by
  obtain⟨k,cC,aU⟩:=mU lw b2 rh;refine n9 cC aU ?_;have:=ZY oo G;grind
 have tW:ln (bO w H) kb=0:=by
  obtain⟨k,cC,aU⟩:=mU lw b2 lY;exact w6 aU (by grind)
 have Ti:b7 (aX (bO w H) E pJ) (ar g) (ar H-ar h):=H6 lw b2 W oo k1 rh (ZP B7 pG) (by grind) (.inl ⟨rfl,rfl⟩);rw[R5 (f:=ln (bO w H)) pf B7 pG tW,R4 (f:=fun c => -ln (bO w H) c) (oj pf) (oj B7) (rd pG) (by show -ln (bO w H) kb=0;omega),Ti.eq k2]at s1;obtain⟨dg,dB,fO⟩:=tu lh;have s2:=wR φ dg dB fO (BB jB.1 k1.1 k2.1 lY.1);have pH:=tA lh jB L;have H9:=tA lh k1 L;have B8:=tA lh k2 (by grind);have pI:=Bz lh lY Th;have Tj:=w8 lh k2 lY (aaJ B8 pI) (x:=ar w-ar g) (by grind);have Tn:=w8 lh lY jB (ZP pI pH) (x:=0) (by grind);rw[Ta (f:=ln (dX h)) pH H9 B8 pI,Tb (f:=fun c => -ln (dX h) c) (rd pH) (rd H9) (rd B8) (oj pI),Tj.eq ka,Tn.eq lX]at s2;have t:=Br φ D [M,kb];have t':dd φ [M,kb,D]=dd φ [D,M,kb]:=t;rw[t']at s2;rw[<-s1,<-s2];grind
end
section
variable{w h g:bj}(lw:aO w.1 w.2)(w0:0<w.1)(lh:aO h.1 h.2)(h0:0<h.1)(aQ:aO g.1 g.2)(a7:0<g.1)
include lw w0 lh h0 aQ a7
theorem xr:aO (dH w h g).1 (dH w h g).2/\0<(dH w h g).1/\ar g*ar (dH w h g)=ar w*ar h:=by
 obtain⟨a,_,_,d⟩:=oh lw w0 lh h0 aQ a7 (acK _ (intBits w.2)) (acL (intBits w.1) _) (acK _ (intBits h.2)) (acL (intBits h.1) _) (acK _ (intBits g.2)) (acL (intBits g.1) _);refine⟨a,tQ lw w0 lh h0 aQ a7 rfl,?_⟩;have:=d2 a7 aQ.1;rw[d];grind
theorem To(tV:ar g<ar w)(om:ar w<2*ar g){sh:List Piece}(on:dJ sh 0 (ar w) 0 (ar h)):dJ (kX w h g sh) 0 (ar g) 0 (ar (dH w h g)):=by
 obtain⟨b2,fo,e⟩:=xr lw w0 lh h0 aQ a7;unfold kX;generalize dH w h g=H at b2 fo e ⊢;obtain⟨A,E,B,P,C,M,D,jB,k1,k0,k2,rf,ka,lX,bE,c3,aT⟩:=Tc lw w0 lh h0 aQ a7 b2 fo e tV om on;obtain⟨R,r⟩:=B5 0 (ar g) 0 (ar H);obtain⟨ez,b',pJ,kb,Ia,H7,H8,rh,lY⟩:=id r;obtain⟨cN,c2⟩:=on.1.cut (l:=bO w H);have bU:=cN.cL (b:=true) aQ;have cn:=cN.cL (b:=false) aQ
 have dk:ar (-g.1,g.2) = -ar g:=by
  unfold ar;show((-g.1:Int):Rat)/_=_
  rw[ab4];grind
 have s1:b7 (b8 (-g.1,g.2) h) (-ar g) (ar h):=(fP (w:=(-g.1,g.2)) aQ.1 lh.1).to dk rfl;obtain⟨q9,q1⟩:=mS (a:=g) (b:=w) aQ.1 lw.1;obtain⟨q',oa⟩:=mS (a:=H) (b:=h) b2.1 lh.1;have s2:b7 (b8 (fc g w) (fc H h)) (ar g-ar w) (ar H-ar h):=(fP q9.1 q'.1).to q1 oa;have bB:=c3.slid s1.1 cn (He k1.1 k0.1 k2.1);have e9:=aT.slid s2.1 c2 (He k0.1 rf.1 ka.1);have av:abo (fun p=>nP (sld (b8 (-g.1,g.2) h) p)) [E,B,P]=[D,M,kb]:=Hc (((j4 s1 k1).to (by grind) (by grind)).eq lX) (((j4 s1 k0).to (by grind) (by grind)).eq ka) (((j4 s1 k2).to (by grind) (by grind)).eq lY);have bC:abo (fun p=>nP (sld (b8 (fc g w) (fc H h)) p)) [B,C,M]=[P,pJ,kb]:=Hc (((j4 s2 k0).to (by grind) (by grind)).eq k2) (((j4 s2 rf).to (by grind) (by grind)).eq rh) (((j4 s2 ka).to (by grind) (by grind)).eq lY);rw[av]at bB;rw[bC]at e9;refine⟨(bU.app (cn.slid s1)).app (c2.slid s2),R,fun φ=>?_,r⟩;have t:=Te lw w0 lh h0 aQ a7 b2 fo e tV om r jB k1 k2 ka lX rh lY φ;rw[ZD,ZD,pz,pz,bE φ,bB φ,e9 φ,gR,gR,gR,gR,t]
theorem Ib(tV:ar g<=ar w)(om:ar w<2*ar g){sh:List Piece}(on:dJ sh 0 (ar w) 0 (ar h)):dJ (lastB g (w,h,sh)).2.2 0 (ar g) 0 (ar (lastB g (w,h,sh)).2.1)/\0<(lastB g (w,h,sh)).2.1.2/\0<ar (lastB g (w,h,sh)).2.1:=by
 obtain⟨b2,fo,e⟩:=xr lw w0 lh h0 aQ a7;unfold lastB;by_cases c:w=g
 ·rw[if_pos c];subst c;exact⟨on,lh.1,d2 h0 lh.1⟩
 ·rw[if_neg c];have:ar w≠ar g:=fun z=>c (q4 lw aQ z);exact⟨To lw w0 lh h0 aQ a7 (by grind) om on,b2.1,d2 fo b2.1⟩
end
def xt(c:Bool)(S:List Piece)(j8 dg v0 v1:Rat):Prop:=if c=true then dJ S v0 v1 j8 dg else dJ S j8 dg v0 v1
theorem Ic{c:Bool}{w:bj}(lw:aO w.1 w.2)(w0:0<w.1){v0 v1 U:Rat}{sh:List Piece}{m:Nat}(bw:1<=m)(ri:m<=8)(on:xt c sh 0 U v0 v1)(nR:ar w*((m-1:Nat):Rat)<U){k:Nat}{S:List Piece}(cp:(d3 c w sh m)[k]?=some S):xt c S 0 (if k+1=m then U-ar w*((m-1:Nat):Rat)else ar w) v0 v1:=by
 unfold d3 at cp;rw[BV,aav]at cp
 obtain⟨T,dC,rfl⟩:∃T,(fm c w 3 sh 0 m)[k]?=some T/\T.map (eg (jA c w k))=S:=by
  cases q:(fm c w 3 sh 0 m)[k]? with
  | none=>rw[q]at cp;cases cp
  | some T=>rw[q]at cp;cases cp;exact⟨T,rfl,rfl⟩
 have ag:eH sh/\∃R,Lies sh R/\mQ c R 0 U v0 v1:=by
  unfold xt at on;unfold mQ;cases c with
  | true=>simp only[if_true]at on ⊢;exact on
  | false=>simp only[aan,if_false]at on ⊢;exact on
 obtain⟨ag,R,aj,r⟩:=ag
 have z0:ar w*((0:Nat):Rat)=0:=by
  have:((0:Nat):Rat)=0:=rfl;rw[this];grind
 obtain⟨lB,Q,Ie,rj⟩:=BS (c:=c) w0 lw.1 (v0:=v0) (v1:=v1) (U:=U) 3 (a:=0) (b:=m) (by omega) (by omega) ag aj (by rw[z0];exact r) nR k T dC;rw[aav]at rj;have eb:=gi (w:=w) lw.1 (-(k:Int));have nU:((-(k:Int):Int):Rat) = -(k:Rat):=by rw[ab4];rfl
 have ep:∀x:Rat,x=(if k+1=m then U else ar w*((k+1:Nat):Rat))->x + -(ar w*(k:Rat))=if k+1=m then U-ar w*((m-1:Nat):Rat)else ar w:=by
  intro x aC;rw[aC];by_cases z:k+1=m
  ·rw[if_pos z,if_pos z,<-z,show k+1-1=k by omega];grind
  ·rw[if_neg z,if_neg z,oi];grind
 unfold xt;unfold mQ at rj;unfold jA;cases c with
 | true =>
  simp only[if_true]at rj ⊢;have s:b7 (b8 (0,1) (cH w (-(k:Int)))) 0 (-(ar w*(k:Rat))):=(fP (w:=(0,1)) (by decide) eb.1.1).to (hg _) (by rw[eb.2,nU];grind);have o:dJ T v0 v1 (ar w*(k:Rat)) (if k+1=m then U else ar w*((k+1:Nat):Rat)):=⟨lB,Q,Ie,rj⟩;exact(o.slid s).to (by grind) (by grind) (by grind) (ep _ rfl)
 | false =>
  simp only[aan,if_false]at rj ⊢;have s:b7 (b8 (cH w (-(k:Int))) (0,1)) (-(ar w*(k:Rat))) 0:=(fP (h:=(0,1)) eb.1.1 (by decide)).to (by rw[eb.2,nU];grind) (hg _);have o:dJ T (ar w*(k:Rat)) (if k+1=m then U else ar w*((k+1:Nat):Rat)) v0 v1:=⟨lB,Q,Ie,rj⟩;exact(o.slid s).to (by grind) (ep _ rfl) (by grind) (by grind)
section
variable{w h g:bj}(lw:aO w.1 w.2)(w0:0<w.1)(lh:aO h.1 h.2)(h0:0<h.1)(aQ:aO g.1 g.2)(a7:0<g.1)(aF:intBits w.1<=30)(aH:intBits w.2<=30)(bV:intBits h.1<=60)(bP:intBits h.2<=60)(b5:intBits g.1<=30)(b6:intBits g.2<=30)
include lw w0 lh h0 aQ a7 aF aH bV bP b5 b6
theorem Tp{sh:List Piece}(au:w.1*g.2<=8*(g.1*w.2))(aG:g.1*w.2<=8*(w.1*g.2))(on:dJ sh 0 (ar w) 0 (ar h)):dJ (ey (eQ w h g sh) (0,1)) 0 (ar g) 0 (ar (du (eQ w h g sh) (0,1))):=by
 have eG:aO 0 1:=⟨by decide,by decide⟩;have z0:ar (0,1)=0:=hg _;have W:=d2 w0 lw.1;have L:=d2 h0 lh.1;have G:=d2 a7 aQ.1
 have key:∀b bs,eQ w h g sh=b::bs->(∀x∈b::bs,dJ x.2.2 0 (ar g) 0 (ar x.2.1)/\0<x.2.1.2/\0<ar x.2.1)->dJ (ey (eQ w h g sh) (0,1)) 0 (ar g) 0 (ar (du (eQ w h g sh) (0,1))):=fun b bs e aC=>by
  rw[e];exact(H5 eG aC).1.to rfl rfl z0 rfl
 by_cases c:w.1*g.2<g.1*w.2
 ·obtain⟨_,cc,dI,f1,f2⟩:=tS lw w0 aQ a7 c aG;obtain⟨eR,hz,bx,bB,gU,iI,mC,bw,b3,j'⟩:=tU lw w0 lh h0 aF aH bV bP cc dI;have xl:(0:Rat)<(cT w g:Rat):=by exact_mod_cast (show 0<cT w g by omega)
  have Ig:(1:Rat)<=(cT w g:Rat):=by exact_mod_cast cc
  have tX:((cT w g-1:Nat):Rat)=(cT w g:Rat)-1:=by
   have:=oi (cT w g-1);rw[show cT w g-1+1=cT w g by omega]at this;grind
  have eT:ar (fi h (cT w g))*(cT w g:Rat)=ar h:=by rw[gU];grind
  have Zl:=d2 hz eR.1
  have cd:∀T∈d3 true (fi h (cT w g)) sh (cT w g),dJ T 0 (ar w) 0 (ar (fi h (cT w g))):=fun T dC=>by
   obtain⟨k,ah⟩:=aaO dC;have q:=Ic (c:=true) eR hz (v0:=0) (v1:=ar w) (U:=ar h) cc dI (by show dJ sh 0 (ar w) 0 (ar h);exact on) (by rw[tX];grind) ah;have gk:dJ T 0 (ar w) 0 (if k+1=cT w g then ar h-ar (fi h (cT w g))*((cT w g-1:Nat):Rat)else ar (fi h (cT w g))):=q;refine gk.to rfl rfl rfl ?_;by_cases z:k+1=cT w g
   ·rw[if_pos z,tX];grind
   ·rw[if_neg z]
  have cl:=lV (c:=true) (w:=fi h (cT w g)) (sh:=sh) cc dI
  have lay:dJ (layB w h g sh).2.2 0 (ar (cH w (cT w g:Int))) 0 (ar (fi h (cT w g))):=by
   show dJ (fe w 0 (d3 true (fi h (cT w g)) sh (cT w g))) _ _ _ _
   generalize d3 true (fi h (cT w g)) sh (cT w g)=B9 at cd cl
   match B9,cd,cl with
   | [],_,cl=>simp at cl;omega
   | T::r,cd,cl =>
    have q:=H4 lw w0 (i:=0) cd;refine q.to ?_ ?_ rfl rfl
    ·have:((0:Nat):Rat)=0:=rfl;rw[this];grind
    ·rw[j',<-cl,ZC,aav]
  have m0:ar (cH w (cT w g:Int))<2*ar g:=by
   have om:ar w<ar g:=by
    have a1:(0:Rat)<w.2:=by exact_mod_cast lw.1
    have a2:(0:Rat)<g.2:=by exact_mod_cast aQ.1
    have cN:=dy lw.1;have c2:=dy aQ.1;have eU:(w.1:Rat)*g.2<(g.1:Rat)*w.2:=by exact_mod_cast c
    unfold ar;refine(acI a1).mpr ?_;have u:(g.1:Rat)/g.2*w.2=g.1*w.2/g.2:=by grind
    rw[u];refine(Rat.lt_div_iff a2).mpr ?_;exact eU
   rw[j'];grind
  have q:=Ib iI mC eR hz aQ a7 (by rw[j'];grind) m0 lay;refine key _ _ (tT c) fun x aC=>?_;rw[ZG.mp aC];exact q
 ·have aa:g.1*w.2<=w.1*g.2:=by omega
  obtain⟨_,cc,dI,f1,f2⟩:=q5 lw w0 aQ a7 aa au;obtain⟨eR,hz,bx,bB,gU⟩:=xk lw w0 aQ a7 aF aH b5 b6 aa au
  have tX:((dh w g-1:Nat):Rat)=(dh w g:Rat)-1:=by
   have:=oi (dh w g-1);rw[show dh w g-1+1=dh w g by omega]at this;grind
  have cl:=lV (c:=false) (w:=g) (sh:=sh) cc dI
  obtain⟨Ss,Z,fY⟩:∃Ss Z,d3 false g sh (dh w g)=Ss++[Z]:=by
   rcases abl (d3 false g sh (dh w g))with z|⟨Ss,Z,z⟩
   ·rw[z]at cl;simp at cl;omega
   ·exact⟨Ss,Z,by rw[z,abm]⟩
  rw[fY,Zg,aal]at cl
  have cd:∀(k:Nat)(T:List Piece),(Ss++[Z])[k]?=some T->dJ T 0 (if k+1=dh w g then ar w-ar g*((dh w g-1:Nat):Rat)else ar g) 0 (ar h):=fun k T ah=>by
   rw[<-fY]at ah;exact Ic (c:=false) aQ a7 (v0:=0) (v1:=ar h) (U:=ar w) cc dI (by show dJ sh 0 (ar w) 0 (ar h);exact on) (by rw[tX];grind) ah
  have Tq:dJ Z 0 (ar (hi w g (dh w g))) 0 (ar h):=by
   have:=cd Ss.length Z (by simp);rw[if_pos cl,tX]at this;exact this.to rfl gU.symm rfl rfl
  have q:=Ib eR hz lh h0 aQ a7 (by rw[gU];grind) (by rw[gU];rw[oi]at f2;grind) Tq
  have all:∀x∈eQ w h g sh,dJ x.2.2 0 (ar g) 0 (ar x.2.1)/\0<x.2.1.2/\0<ar x.2.1:=by
   rw[q8 c fY];intro x aC;rcases ZK.mp aC with aC|aC
   ·obtain⟨S,cp,rfl⟩:=ZJ.mp aC;obtain⟨k,ah⟩:=aaO cp;have Tr:=(aa7.mp ah).1;have:=cd k S (by rw[aai Tr];exact ah);rw[if_neg (by omega)]at this;exact⟨this,lh.1,L⟩
   ·rw[ZG.mp aC];exact q
  match hw:eQ w h g sh with
  | [] =>
   rw[q8 c fY]at hw;exact absurd hw (by simp)
  | b::bs =>
   rw[<-hw];exact key b bs hw (by rw[<-hw];exact all)
end
end Cut
namespace Cut
open PySem L2 L3
def dZ(L:List Piece):Prop:=∀s∈L,aS s.2.2/\∀p∈s.1,aS p
theorem dZ.pts{L:List Piece}(h:dZ L):eH L:=fun s aq=>(h s aq).2
theorem dZ.app{L M:List Piece}(h:dZ L)(g:dZ M):dZ (L++M):=fun s aq=>(ZK.mp aq).elim (h s) (g s)
theorem dZ.cut{sh:List Piece}{l:P3}(h:dZ sh):dZ (cf (ln l) (aX l) sh)/\dZ (cf (fun c => -ln l c) (aX l) sh):=by
 obtain⟨a,b⟩:=h.pts.cut (l:=l)
 have st:∀(f:P3->Int)(s:Piece),s∈cf f (aX l) sh->aS s.2.2:=fun f s aq=>by
  obtain⟨t,bt,rfl,c⟩:=sZ aq;exact(h t bt).1
 exact⟨fun s aq=>⟨st _ s aq,a s aq⟩,fun s aq=>⟨st _ s aq,b s aq⟩⟩
theorem dZ.slid{sh:List Piece}{g:P3}{u v:Rat}(aD:b7 g u v)(h:dZ sh):dZ (sh.map (eg g)):=by
 intro s aq;refine⟨?_,h.pts.slid aD s aq⟩;obtain⟨r,ak,rfl⟩:=ZJ.mp aq;exact(j4 aD ⟨(h r ak).1,rfl,rfl⟩).1
theorem dZ.cL{sh:List Piece}{X:bj}(c:Bool)(h:dZ sh):dZ (cL X c sh):=by
 unfold Cut.cL;cases c with
 | true=>exact(h.cut (l:=dW X)).1
 | false=>exact(h.cut (l:=dW X)).2
theorem dZ.cV{sh:List Piece}{X:bj}(c:Bool)(h:dZ sh):dZ (cV X c sh):=by
 unfold Cut.cV;cases c with
 | true=>exact(h.cut (l:=dX X)).1
 | false=>exact(h.cut (l:=dX X)).2
theorem dZ.low{sh:List Piece}{X:bj}{c:Bool}(h:dZ sh):dZ (lowC c X sh)/\dZ (highC c X sh):=by
 unfold lowC highC;cases c with
 | true=>rw[if_pos rfl,if_pos rfl];exact⟨h.cV _,h.cV _⟩
 | false=>rw[if_neg (by decide),if_neg (by decide)];exact⟨h.cL _,h.cL _⟩
theorem Ts(φ:List (List Int)->Int)(b:Bool){sh:List Piece}{X:bj}{c:Bool}(l:aO X.1 X.2)(h:dZ sh):dq φ b (lowC c X sh)+dq φ b (highC c X sh)=dq φ b sh:=by
 unfold lowC highC;cases c with
 | true=>rw[if_pos rfl,if_pos rfl];exact R1 φ b false l h
 | false=>rw[if_neg (by decide),if_neg (by decide)];exact G7 φ b true l h
def hU(φ:List (List Int)->Int)(b:Bool)(Ss:List (List Piece)):Rat:=(Ss.map (dq φ b)).sum
theorem pK(φ:List (List Int)->Int)(b:Bool)(S:List Piece)(Ss:List (List Piece)):hU φ b (S::Ss)=dq φ b S+hU φ b Ss:=by unfold hU;rw[ZE,Z3]
theorem xu(φ:List (List Int)->Int)(b:Bool):∀(A B:List (List Piece)),hU φ b (A++B)=hU φ b A+hU φ b B
 | [],B=>by show _=(0:Rat)+_;rw[Z5];grind
 | S::A,B=>by rw[aah,pK,pK,xu φ b A B];grind
theorem tY(φ:List (List Int)->Int)(b:Bool)(S:List Piece):hU φ b [S]=dq φ b S:=by rw[pK];show _+(0:Rat)=_;grind
theorem B'(φ:List (List Int)->Int)(b:Bool){c:Bool}{w:bj}(c7:0<w.2):∀(n:Nat){sh:List Piece}{x y:Nat},dZ sh->hU φ b (fm c w n sh x y)=dq φ b sh/\∀S∈fm c w n sh x y,dZ S
 | 0,sh,x,y,h=>⟨tY φ b sh,fun S cp=>by rw[ZG.mp cp];exact h⟩
 | n+1,sh,x,y,h=>by
  rw[fm];by_cases z:y-x=1
  ·rw[if_pos z];exact⟨tY φ b sh,fun S cp=>by rw[ZG.mp cp];exact h⟩
  ·rw[if_neg z];obtain⟨l,_⟩:=gi (w:=w) c7 (((x+y)/2:Nat):Int);obtain⟨p,q⟩:=h.low (X:=cH w (((x+y)/2:Nat):Int)) (c:=c);obtain⟨a1,a2⟩:=B' φ b (c:=c) c7 n (x:=x) (y:=(x+y)/2) p;obtain⟨a9,ba⟩:=B' φ b (c:=c) c7 n (x:=(x+y)/2) (y:=y) q;refine⟨?_,fun S cp=>(ZK.mp cp).elim (a2 S) (ba S)⟩;rw[xu,a1,a9];exact Ts φ b l h
theorem Ca(φ:List (List Int)->Int)(b:Bool){f:Nat->P3}(hf:∀k,∃u v,b7 (f k) u v):∀{Ss:List (List Piece)}{i:Nat},(∀S∈Ss,dZ S)->hU φ b (e1 (fun k S=>S.map (eg (f k))) i Ss)=hU φ b Ss/\∀S∈e1 (fun k S=>S.map (eg (f k))) i Ss,dZ S
 | [],i,_=>⟨rfl,fun S cp=>absurd cp aa2⟩
 | S::Ss,i,h=>by
  obtain⟨u,v,aD⟩:=hf i;have bU:=h S Zd;obtain⟨a,c⟩:=Ca φ b hf (Ss:=Ss) (i:=i+1) fun T dC=>h T (Zf _ dC);rw[e1,pK,pK,a,tq φ b aD.1 bU];exact⟨rfl,fun T dC=>(ZA.mp dC).elim (fun e=>by rw[e];exact bU.slid aD) (c T)⟩
theorem Tt{c:Bool}{w:bj}(c7:0<w.2)(k:Nat):∃u v,b7 (jA c w k) u v:=by
 obtain⟨l,_⟩:=gi (w:=w) c7 (-(k:Int));unfold jA;cases c with
 | true=>rw[if_pos rfl];exact⟨_,_,fP (w:=(0,1)) (by decide) l.1⟩
 | false=>rw[if_neg (by decide)];exact⟨_,_,fP (h:=(0,1)) l.1 (by decide)⟩
theorem Ih(φ:List (List Int)->Int)(b:Bool){c:Bool}{w:bj}(c7:0<w.2){sh:List Piece}{m:Nat}(h:dZ sh):hU φ b (d3 c w sh m)=dq φ b sh/\∀S∈d3 c w sh m,dZ S:=by
 obtain⟨a1,a2⟩:=B' φ b (c:=c) c7 3 (x:=0) (y:=m) h;obtain⟨a9,ba⟩:=Ca φ b (f:=fun k=>jA c w k) (fun k=>Tt c7 k) (i:=0) a2;exact⟨a9.trans a1,ba⟩
theorem Ii(φ:List (List Int)->Int)(b:Bool):∀{Ss:List (List Piece)},(∀S∈Ss,dZ S)->dq φ b Ss.flatten=hU φ b Ss/\dZ Ss.flatten
 | [],_=>⟨rfl,fun s aq=>absurd aq aa2⟩
 | S::Ss,h=>by
  obtain⟨a,c⟩:=Ii φ b (Ss:=Ss) fun T dC=>h T (Zf _ dC);rw[abj,pA,pK,a];exact⟨rfl,(h S Zd).app c⟩
theorem Tu(φ:List (List Int)->Int)(b:Bool){w:bj}(c7:0<w.2){Ss:List (List Piece)}(h:∀S∈Ss,dZ S):dq φ b (fe w 0 Ss)=hU φ b Ss/\dZ (fe w 0 Ss):=by
 obtain⟨a9,ba⟩:=Ca φ b (f:=fun k=>b8 (cH w (k:Int)) (0,1)) (fun k=>⟨_,_,fP (h:=(0,1)) (gi (w:=w) c7 (k:Int)).1.1 (by decide)⟩) (i:=0) h;obtain⟨aF,aH⟩:=Ii φ b ba;exact⟨aF.trans a9,aH⟩
theorem Cb(φ:List (List Int)->Int)(b:Bool):∀{bs:List BoxD}{H:bj},0<H.2->(∀x∈bs,dZ x.2.2/\0<x.2.1.2)->dq φ b (ey bs H)=hU φ b (bs.map fun x=>x.2.2)/\dZ (ey bs H)
 | [],H,_,_=>⟨rfl,fun s aq=>absurd aq aa2⟩
 | x::bs,H,l,h=>by
  obtain⟨aa,ab⟩:=h x Zd;have aD:=fP (w:=(0,1)) (h:=H) (by decide) l;obtain⟨a,c⟩:=Cb φ b (bs:=bs) (H:=h8 H x.2.1) (q2 l ab).1 fun y a6=>h y (Zf _ a6);rw[ey,pA,tq φ b aD.1 aa,a,ZE,pK];exact⟨rfl,(aa.slid aD).app c⟩
section
variable{w h g:bj}(lw:aO w.1 w.2)(w0:0<w.1)(lh:aO h.1 h.2)(h0:0<h.1)(aQ:aO g.1 g.2)(a7:0<g.1)
include lw w0 lh h0 aQ a7
theorem Ij(φ:List (List Int)->Int)(b:Bool){sh:List Piece}(aq:dZ sh):dq φ b (lastB g (w,h,sh)).2.2=dq φ b sh/\dZ (lastB g (w,h,sh)).2.2/\0<(lastB g (w,h,sh)).2.1.2:=by
 obtain⟨b2,fo,e⟩:=xr lw w0 lh h0 aQ a7;unfold lastB;by_cases c:w=g
 ·rw[if_pos c];exact⟨rfl,aq,lh.1⟩
 ·rw[if_neg c];refine⟨?_,?_,b2.1⟩
  all_goals
   show _
   dsimp only;unfold kX
  all_goals
   generalize dH w h g=H at b2 fo e ⊢;obtain⟨cN,c2⟩:=aq.cut (l:=bO w H);have bU:=cN.cL (X:=g) true;have cn:=cN.cL (X:=g) false;have s1:=fP (w:=(-g.1,g.2)) (h:=h) aQ.1 lh.1;have s2:=fP (w:=fc g w) (h:=fc H h) (mS (a:=g) (b:=w) aQ.1 lw.1).1.1 (mS (a:=H) (b:=h) b2.1 lh.1).1.1
  ·have gB:dq φ b (cL g true (cf (ln (bO w H)) (aX (bO w H)) sh))+dq φ b (cL g false (cf (ln (bO w H)) (aX (bO w H)) sh))=dq φ b (cf (ln (bO w H)) (aX (bO w H)) sh):=G7 φ b true aQ cN;rw[pA,pA,tq φ b s1.1 cn,tq φ b s2.1 c2,gB];exact w4 φ b (tR lw w0 b2 fo) (fP (w:=w) (h:=(0,1)) lw.1 (by decide)).1 (n0 _ _) aq
  ·exact(bU.app (cn.slid s1)).app (c2.slid s2)
end
section
open PySem.Builtin.Int (intBits)
variable{w h g:bj}(lw:aO w.1 w.2)(w0:0<w.1)(lh:aO h.1 h.2)(h0:0<h.1)(aQ:aO g.1 g.2)(a7:0<g.1)(aF:intBits w.1<=30)(aH:intBits w.2<=30)(bV:intBits h.1<=60)(bP:intBits h.2<=60)(b5:intBits g.1<=30)(b6:intBits g.2<=30)
include lw w0 lh h0 aQ a7 aF aH bV bP b5 b6
theorem Tv{sh:List Piece}(au:w.1*g.2<=8*(g.1*w.2))(aG:g.1*w.2<=8*(w.1*g.2))(aq:dZ sh)(φ:List (List Int)->Int)(b:Bool):dq φ b (ey (eQ w h g sh) (0,1))=dq φ b sh:=by
 by_cases c:w.1*g.2<g.1*w.2
 ·obtain⟨_,cc,dI,f1,f2⟩:=tS lw w0 aQ a7 c aG;obtain⟨eR,hz,bx,bB,gU,iI,mC,bw,b3,j'⟩:=tU lw w0 lh h0 aF aH bV bP cc dI;obtain⟨a1,a2⟩:=Ih φ b (c:=true) (w:=fi h (cT w g)) (m:=cT w g) eR.1 aq;obtain⟨a9,ba⟩:=Tu φ b (w:=w) lw.1 a2;obtain⟨bN,b1,gX⟩:=Ij iI mC eR hz aQ a7 φ b ba;rw[tT c]
  obtain⟨ai,av⟩:=Cb φ b (bs:=[lastB g (layB w h g sh)]) (H:=(0,1)) (by decide) fun x aC=>by
   rw[ZG.mp aC];exact⟨b1,gX⟩
  rw[ai];show hU φ b [(lastB g (layB w h g sh)).2.2]=_
  rw[tY];exact bN.trans (a9.trans a1)
 ·have aa:g.1*w.2<=w.1*g.2:=by omega
  obtain⟨_,cc,dI,f1,f2⟩:=q5 lw w0 aQ a7 aa au;obtain⟨eR,hz,bx,bB,gU⟩:=xk lw w0 aQ a7 aF aH b5 b6 aa au;have cl:=lV (c:=false) (w:=g) (sh:=sh) cc dI
  obtain⟨Ss,Z,fY⟩:∃Ss Z,d3 false g sh (dh w g)=Ss++[Z]:=by
   rcases abl (d3 false g sh (dh w g))with z|⟨Ss,Z,z⟩
   ·rw[z]at cl;simp at cl;omega
   ·exact⟨Ss,Z,by rw[z,abm]⟩
  obtain⟨a1,a2⟩:=Ih φ b (c:=false) (w:=g) (m:=dh w g) aQ.1 aq;rw[fY]at a1 a2;obtain⟨bN,b1,gX⟩:=Ij eR hz lh h0 aQ a7 φ b (a2 Z (by simp));rw[q8 c fY]
  obtain⟨ai,av⟩:=Cb φ b (bs:=Ss.map (fun S=>((g,h,S):BoxD))++[lastB g (hi w g (dh w g),h,Z)]) (H:=(0,1)) (by decide) fun x aC=>by
   rcases ZK.mp aC with aC|aC
   ·obtain⟨S,cp,rfl⟩:=ZJ.mp aC;exact⟨a2 S (aaD _ cp),lh.1⟩
   ·rw[ZG.mp aC];exact⟨b1,gX⟩
  rw[ai,ZD,ZV,xu]
  have em:Ss.map ((fun x:BoxD=>x.2.2)∘fun S=>((g,h,S):BoxD))=Ss:=by
   have:((fun x:BoxD=>x.2.2)∘fun S=>((g,h,S):BoxD))=id:=rfl;rw[this,List.map_id]
  rw[em];show hU φ b Ss+hU φ b [(lastB g (hi w g (dh w g),h,Z)).2.2]=_
  rw[tY,bN,<-a1,xu,tY]
end
end Cut
namespace Cut
open PySem L2 L3
open PySem.Builtin.Int (intBits)
def iJ(m:Nat):Nat->Nat
 | 0=>m
 | s+1=>2*iJ m s+3
structure pL (m n:Nat) (ps:List P3) (s:Nat) (rs:List (List P3)):Prop where
 ln:rs.length=s+1
 cv:∀r∈rs,eP r
 le:∀r∈rs,r.length<=n+s
 gp:∀r∈rs,∀p∈r,da (iJ m s) p
 bal:∀φ,e0 φ rs=dd φ ps
theorem Tw{m n:Nat}{ps:List P3}(cv:eP ps)(ag:∀p∈ps,da m p)(aj:ps.length<=n):pL m n ps 0 [ps]:=
 ⟨rfl,fun r ak=>by rw[ZG.mp ak];exact cv,fun r ak=>by rw[ZG.mp ak];exact aj,fun r ak=>by rw[ZG.mp ak];exact ag,fun φ=>gR φ ps⟩
theorem Ik(m s:Nat):iJ m s<=iJ m (s+1):=by show iJ m s<=2*iJ m s+3;omega
theorem pL.step{ps b9 us:List P3}{m cR s n:Nat}{rs:List (List P3)}{r:List P3}(h:pL m cR ps s rs)(aN:rs[n]?=some r)(ok:BF (2*iJ m s+3) (r.length+1) r b9 us):pL m cR ps (s+1) (rs.eraseIdx n++[b9,us]):=by
 have hm:r∈rs:=aag aN
 have cM:n<rs.length:=by
  rcases abZ n rs.length with q|q
  ·exact q
  ·rw[Z' q]at aN;cases aN
 have Cc:=h.le r hm
 have mem:∀{P:List P3->Prop},(∀x∈rs,P x)->P b9->P us->∀x∈rs.eraseIdx n++[b9,us],P x:=fun a b c x aC=>by
  rcases ZK.mp aC with aC|aC
  ·exact a x (List.mem_of_mem_eraseIdx aC)
  ·simp at aC;rcases aC with rfl|rfl
   ·exact b
   ·exact c
 refine⟨?_,mem h.cv ok.a ok.b,mem (fun x aC=>Nat.le_succ_of_le (h.le x aC)) (Gg ok.la (by omega)) (Gg ok.lb (by omega)),mem (fun x aC p ag=>(h.gp x aC p ag).mono (Ik m s)) ok.pa ok.pb,fun φ=>?_⟩
 ·rw[Zg,List.length_eraseIdx_of_lt cM,h.ln];show _+2=_;have:=h.ln;omega
 ·have e:=Hl φ aN;have b:=ok.bal φ;have t:=h.bal φ;rw[pz,n7,gR];grind
structure xv (m n:Nat) (s:Piece):Prop where
 ps:∀p∈s.1,da m p
 cv:eP s.1
 ln:s.1.length<=n
 st:da 20 s.2.2
theorem Tx(p q:P3):ln (crs p q) q=0:=by show bc p q q=0;exact G4 _ _
theorem xv.px{m n b:Nat}{s:Piece}(h:xv m n s)(af:m<=b):i8 b (m+m+1) n 20 s :=
 ⟨h.cv,⟨fun p ag=>(h.ps p ag).mono af,fun e he=>by
  obtain⟨aa,ab⟩:=jY he;refine⟨crs e.1 e.2,(h.ps _ aa).bp.crs (h.ps _ ab).bp,?_,n0 _ _,Tx _ _⟩;rcases j1 (h.ps _ aa).pt (h.ps _ ab).pt (h.cv.side he)with z|z
  ·exact .inl z
  ·exact .inr (.inl z)⟩,h.ln,h.st⟩
theorem pL.sheet{m n:Nat}{ps:List P3}{s c:Nat}{sh:List Piece}(h:pL m n ps s (sh.map fun t=>t.1))(aq:s<=c)(hm:iJ m s<=iJ m c)(st:∀t∈sh,da 20 t.2.2):(∀t∈sh,xv (iJ m c) (n+c) t)/\sh.length<=c+1/\fx (sh.map fun t=>t.1) [ps]:=by
 refine⟨fun t bt=>?_,?_,fun φ=>by rw[h.bal φ,gR]⟩
 ·have Cd:t.1∈sh.map fun t=>t.1:=ZJ.mpr ⟨t,bt,rfl⟩;exact⟨fun p ag=>(h.gp _ Cd p ag).mono hm,h.cv _ Cd,Gg (h.le _ Cd) (by omega),st t bt⟩
 ·have:=h.ln;rw[YL]at this;omega
theorem Ce{m:Nat}:∀{s c:Nat},s<=c->iJ m s<=iJ m c
 | s,0,h=>by rw[show s=0 by omega];exact YK _
 | s,c+1,h=>by
  by_cases e:s=c+1
  ·rw[e];exact YK _
  ·exact Gg (Ce (s:=s) (c:=c) (by omega)) (Ik m c)
theorem Tz{x y n:Int}(x0 : -40<=x)(bK:x<=40)(bX : -40<=y)(bE:y<=40)(cR:0<n)(cc:n<=3):da 20 (cx x y n):=by
 have b:∀z:Int,-40<=z->z<=40->intBits z<=20:=fun z z0 z1=>Gg (intBits_le_iff.mpr (show z.natAbs<2^6 by show z.natAbs<64;omega)) (by decide);exact⟨fg (p:=(x,y,n)) (YM cR),cj.nP (p:=(x,y,n)) ⟨b x x0 bK,b y bX bE,b n (by omega) (by omega)⟩ (YM cR)⟩
structure hV (s:Piece):Prop where
 ln:s.1.length<=24
 cv:eP s.1
 ps:∀p∈s.1,da 2600 p
 st:da 1200 s.2.2
theorem hV.side{s:Piece}(h:hV s):∀e∈dc s.1,(crs e.1 e.2).1≠0∨(crs e.1 e.2).2.1≠0:=fun e he=>by
 obtain⟨aa,ab⟩:=jY he;exact j1 (h.ps _ aa).pt (h.ps _ ab).pt (h.cv.side he)
theorem hV.rg{s:Piece}(h:hV s):mM s.1:=⟨Gg h.ln (by decide),h.side,fun p ag=>(h.ps p ag).bp.mono (by decide)⟩
theorem hV.first{s:Piece}(h:hV s):mM (fa s)/\∀p∈fa s,aS p:=by
 have st:=h.st;have sl:∀p∈s.1,da 3801 (nP (sld (trn s.2.2) p)):=fun p ag=>(st.trn.sl (h.ps p ag)).mono (by decide);have aP:∀p∈s.1,aS p:=fun p ag=>(h.ps p ag).pt;have au:=(Bq (v:=trn s.2.2) st.pt.1).rg aP h.side;unfold fa;split
 ·have sF:∀p∈s.1.map (fun p=>nP (sld (trn s.2.2) p)),aS p:=fun p ag=>by
   obtain⟨q,aA,rfl⟩:=ZJ.mp ag;exact(sl q aA).pt
  refine⟨⟨by rw[YL,YL];exact Gg h.ln (by decide),pw.rg sF au,fun p ag=>?_⟩,fun p ag=>?_⟩
  ·obtain⟨q,aA,rfl⟩:=ZJ.mp ag;obtain⟨r,ak,rfl⟩:=ZJ.mp aA;exact(sl r ak).trn.bp.mono (by decide)
  ·obtain⟨q,aA,rfl⟩:=ZJ.mp ag;obtain⟨r,ak,rfl⟩:=ZJ.mp aA;exact(sl r ak).trn.pt
 ·refine⟨⟨by rw[YL];exact Gg h.ln (by decide),au,fun p ag=>?_⟩,fun p ag=>?_⟩
  ·obtain⟨r,ak,rfl⟩:=ZJ.mp ag;exact(sl r ak).bp.mono (by decide)
  ·obtain⟨r,ak,rfl⟩:=ZJ.mp ag;exact(sl r ak).pt
theorem i8.pcu{b m n t:Nat}{s:Piece}(h:i8 b m n t s)(af:b<=2600)(aN:n<=24)(bt:t<=1200):hV s:=⟨Gg h.ln aN,h.cv,fun p ag=>(h.rb.pts p ag).mono af,h.st.mono bt⟩
theorem TA{w h g:bj}{sh:List Piece}:(kX w h g sh).length<=3*sh.length:=by
 unfold kX;rw[Zg,Zg,YL,YL]
 have a:∀c,(cL g c (cf (ln (bO w (dH w h g))) (aX (bO w (dH w h g))) sh)).length<=sh.length:=fun c=>by
  have q:=oe (f:=ln (bO w (dH w h g))) (mt:=aX (bO w (dH w h g))) sh;unfold cL;cases c with
  | true=>exact Gg (oe _) q
  | false=>exact Gg (oe _) q
 have a1:=a true;have a2:=a false;have iG:=oe (f:=fun c => -ln (bO w (dH w h g)) c) (mt:=aX (bO w (dH w h g))) sh;omega
theorem Il{g:bj}{b:BoxD}:(lastB g b).2.2.length<=3*b.2.2.length:=by
 unfold lastB;by_cases c:b.1=g
 ·rw[if_pos c];omega
 ·rw[if_neg c];exact TA
theorem Im{c:Bool}{X:bj}{sh:List Piece}:(lowC c X sh).length<=sh.length/\(highC c X sh).length<=sh.length:=by
 unfold lowC highC cL cV;cases c with
 | true=>exact⟨oe _,oe _⟩
 | false=>exact⟨oe _,oe _⟩
theorem Cf{c:Bool}{w:bj}:∀(n:Nat){sh:List Piece}{x y:Nat},∀S∈fm c w n sh x y,S.length<=sh.length
 | 0,sh,x,y,S,cp=>by rw[ZG.mp cp];exact YK _
 | n+1,sh,x,y,S,cp=>by
  rw[fm]at cp;by_cases z:y-x=1
  ·rw[if_pos z]at cp;rw[ZG.mp cp];exact YK _
  ·rw[if_neg z]at cp;rcases ZK.mp cp with h|h
   ·exact Gg (Cf n S h) Im.1
   ·exact Gg (Cf n S h) Im.2
theorem Io{c:Bool}{w:bj}{sh:List Piece}{m:Nat}{S:List Piece}(cp:S∈d3 c w sh m):S.length<=sh.length:=by
 obtain⟨k,T,dC,_,rfl⟩:=HM cp;rw[YL];exact Cf 3 T dC
theorem Ip{w:bj}{N:Nat}:∀{Ss:List (List Piece)}{i:Nat},(∀S∈Ss,S.length<=N)->(fe w i Ss).length<=N*Ss.length
 | [],i,_=>aaa _
 | S::r,i,h=>by
  have e:fe w i (S::r)=S.map (eg (b8 (cH w (i:Int)) (0,1)))++fe w (i+1) r:=by
   unfold fe;rw[e1,abj]
  have a:=h S Zd;have b:=Ip (w:=w) (Ss:=r) (i:=i+1) fun T dC=>h T (Zf _ dC);rw[e,Zg,YL,ZC,abk];omega
section
variable{w h g:bj}(lw:aO w.1 w.2)(w0:0<w.1)(aQ:aO g.1 g.2)(a7:0<g.1)
include lw w0 aQ a7
theorem Iq{a b:Nat}{x:Rat}(x0:0<x)(h:(a:Rat)*x<(b:Rat)*x):a<b:=by
 apply aak;intro z;have:((b:Nat):Rat)<=(a:Rat):=by exact_mod_cast (show b<=a by omega)
 have:=aaz this (aad x0);grind
theorem Ir{sh:List Piece}{M N:Nat}(Zm:1<=M)(Zn:M<=8)(au:ar w<=(M:Rat)*ar g)(aG:ar g<=(M:Rat)*ar w)(aW:w.1*g.2<=8*(g.1*w.2))(bS:g.1*w.2<=8*(w.1*g.2))(bI:sh.length<=N):(ey (eQ w h g sh) (0,1)).length<=3*(N*M):=by
 have W:=d2 w0 lw.1;have G:=d2 a7 aQ.1;rw[xh];by_cases c:w.1*g.2<g.1*w.2
 ·obtain⟨_,cc,dI,f1,f2⟩:=tS lw w0 aQ a7 c bS
  have nm:cT w g<=M:=by
   have Ig:((cT w g-1:Nat):Rat)=(cT w g:Rat)-1:=by
    have:=oi (cT w g-1);rw[show cT w g-1+1=cT w g by omega]at this;grind
   have:=Iq lw w0 aQ a7 (a:=cT w g-1) (b:=M) W (by rw[Ig];grind);omega
  rw[tT c];have a:=Il (g:=g) (b:=layB w h g sh)
  have b:(layB w h g sh).2.2.length<=N*cT w g:=by
   have:=Ip (w:=w) (N:=N) (Ss:=d3 true (fi h (cT w g)) sh (cT w g)) (i:=0) fun S cp=>Gg (Io cp) bI;rw[lV cc dI]at this;exact this
  have d:N*cT w g<=N*M:=ab5 _ nm;simp only[ZE,aaq,Z3,aa6];omega
 ·have aa:g.1*w.2<=w.1*g.2:=by omega
  obtain⟨_,cc,dI,f1,f2⟩:=q5 lw w0 aQ a7 aa aW
  have nm:dh w g<=M:=by
   have:=Iq lw w0 aQ a7 (a:=dh w g) (b:=M+1) G (by rw[oi];grind);omega
  have cl:=lV (c:=false) (w:=g) (sh:=sh) cc dI
  obtain⟨Ss,Z,fY⟩:∃Ss Z,d3 false g sh (dh w g)=Ss++[Z]:=by
   rcases abl (d3 false g sh (dh w g))with z|⟨Ss,Z,z⟩
   ·rw[z]at cl;simp at cl;omega
   ·exact⟨Ss,Z,by rw[z,abm]⟩
  have i':∀S∈Ss++[Z],S.length<=N:=fun S cp=>Gg (Io (by rw[fY];exact cp)) bI;rw[fY,Zg,aal]at cl;rw[q8 c fY,ZD,abn,ZV]
  have s1:(abo ((fun b:BoxD=>b.2.2.length)∘fun S=>((g,h,S):BoxD)) Ss).sum<=N*Ss.length:=by
   have:∀kY:List (List Piece),(∀S∈kY,S.length<=N)->(abo ((fun b:BoxD=>b.2.2.length)∘fun S=>((g,h,S):BoxD)) kY).sum<=N*kY.length:=fun kY=>by
    induction kY with
    | nil=>intro _;exact aaa _
    | cons S r c0 =>
     intro dC;have x:=dC S Zd;have y:=c0 fun S cp=>dC S (Zf _ cp);rw[ZE,Z3,ZC,abk];show S.length+_<=_
     omega
   exact this Ss fun S cp=>i' S (aaD _ cp)
  have a:=Il (g:=g) (b:=(hi w g (dh w g),h,Z));have z:=i' Z (by simp);have ez:(lastB g (hi w g (dh w g),h,Z)).2.2.length<=3*Z.length:=a;have d:N*(Ss.length+1)<=N*M:=ab5 _ (by omega);rw[abk]at d;simp only[ZE,aaq,Z3,aa6];omega
end
section
variable{w h g:bj}(lw:aO w.1 w.2)(w0:0<w.1)(lh:aO h.1 h.2)(h0:0<h.1)(aQ:aO g.1 g.2)(a7:0<g.1)(aF:intBits w.1<=30)(aH:intBits w.2<=30)(bV:intBits h.1<=60)(bP:intBits h.2<=60)(b5:intBits g.1<=30)(b6:intBits g.2<=30)
include lw w0 lh h0 aQ a7 aF aH bV bP b5 b6
theorem It{sh:List Piece}{B bA n t N:Nat}(au:w.1*g.2<=8*(g.1*w.2))(aG:g.1*w.2<=8*(w.1*g.2))(aq:c4 B bA n t N sh)(ed:270+bA<=B)(hm:240<=bA)(bal:fx (sh.map fun s=>s.1) [iC w h]):
  du (eQ w h g sh) (0,1)=dH w h g/\c4 (B+518) (bA+522) (n+5) (t+518) (24*N) (ey (eQ w h g sh) (0,1))/\fx ((ey (eQ w h g sh) (0,1)).map fun s=>s.1) [iC g (dH w h g)]/\∀φ b,dq φ b (ey (eQ w h g sh) (0,1))=dq φ b sh:=by
 obtain⟨_,_,_,gT⟩:=B3 lw w0 lh h0 aQ a7 aF aH bV bP b5 b6 aq ed hm au aG;have sz:=S2 lw w0 lh h0 aQ a7 aF aH bV bP b5 b6 aq ed hm au aG;have kp:dZ sh:=fun s h=>⟨(aq.1 s h).st.pt,fun p ag=>((aq.1 s h).rb.pts p ag).pt⟩;have on:dJ sh 0 (ar w) 0 (ar h):=⟨kp.pts,iC w h,bal,HE lw lh⟩;obtain⟨_,R,Iu,Iv⟩:=Tp lw w0 lh h0 aQ a7 aF aH bV bP b5 b6 au aG on;obtain⟨b2,_⟩:=xr lw w0 lh h0 aQ a7;rw[gT]at Iv;have Ia:=Iv.eq (HE aQ b2);rw[Ia]at Iu;exact⟨gT,sz,Iu,fun φ b=>Tv lw w0 lh h0 aQ a7 aF aH bV bP b5 b6 au aG kp φ b⟩
end
theorem xw{a b:bj}{M:Nat}(ay:0<a.2)(af:0<b.2)(h:ar a<=(M:Rat)*ar b):a.1*b.2<=(M:Int)*(b.1*a.2):=by
 have a1:(0:Rat)<a.2:=by exact_mod_cast ay
 have a9:(0:Rat)<b.2:=by exact_mod_cast af
 have cN:=dy ay;have c2:=dy af;unfold ar at h;have:=aaz h (aad (ZY a1 a9));have u:(a.1:Rat)/a.2*(a.2*b.2)=a.1*b.2:=by grind
 have v:(M:Rat)*((b.1:Rat)/b.2)*(a.2*b.2)=M*(b.1*a.2):=by grind
 rw[u,v]at this;exact_mod_cast this
theorem TB{w h:bj}(lw:aO w.1 w.2)(lh:aO h.1 h.2)(aF:intBits w.1<=10)(aH:intBits w.2<=10)(bV:intBits h.1<=10)(bP:intBits h.2<=10):∀p∈iC w h,da 22 p:=fun p ag=>by
 have z:intBits 0<=22:=by decide
 have m:∀{z:Int},intBits z<=10->intBits z<=22:=fun h=>Gg h (by decide);unfold iC at ag;simp only[ZA,aa2,or_false]at ag;rcases ag with rfl|rfl|rfl|rfl
 ·exact⟨⟨by decide,by decide⟩,⟨by decide,by decide,by decide⟩⟩
 ·exact⟨(G9 lw).1,⟨m aF,z,m aH⟩⟩
 ·exact(j9 lw lh aF aH bV bP).mono (by decide)
 ·exact⟨(G' lh).1,⟨z,m bV,m bP⟩⟩
theorem Iw{w:bj}(lw:aO w.1 w.2)(w0:0<w.1)(aF:intBits w.1<=10)(aH:intBits w.2<=10){p q:Int}(lS:0<p)(fF:0<q)(cN:p<=7)(aW:q<=7)(aa:q<=2*p)(ab:p<=2*q):aO (cA (w.1*p) (w.2*q)).1 (cA (w.1*p) (w.2*q)).2/\0<(cA (w.1*p) (w.2*q)).1/\intBits (cA (w.1*p) (w.2*q)).1<=13/\intBits (cA (w.1*p) (w.2*q)).2<=13/\ar w<=2*ar (cA (w.1*p) (w.2*q))/\ar (cA (w.1*p) (w.2*q))<=2*ar w:=by
 have gP:0<w.2*q:=Ze lw.1 fF;obtain⟨l,e,a9,ba⟩:=g6 (t:=w.1*p) (b:=w.2*q) (YM gP);have tZ:=pB (t:=w.1*p) gP;have bp:intBits p<=3:=intBits_le_iff.mpr (show p.natAbs<2^3 by show p.natAbs<8;omega);have gj:intBits q<=3:=intBits_le_iff.mpr (show q.natAbs<2^3 by show q.natAbs<8;omega);have z1:=d6 a9 (intBits_mul_le aF bp);have aT:=d6 ba (intBits_mul_le aH gj);have W:=d2 w0 lw.1;have P:(0:Rat)<(p:Rat):=by exact_mod_cast lS
 have Q:(0:Rat)<(q:Rat):=by exact_mod_cast fF
 have aU:ar (cA (w.1*p) (w.2*q))*(q:Rat)=ar w*p:=by
  rw[tZ];have x:=dy lw.1;have y:=dy fF;unfold ar;push_cast;grind
 have o2:(q:Rat)<=2*p:=by exact_mod_cast aa
 have o3:(p:Rat)<=2*q:=by exact_mod_cast ab
 generalize cA (w.1*p) (w.2*q)=g at l e z1 aT aU ⊢
 have a7:0<g.1:=by
  have:0<g.1*(w.2*q):=by rw[e];exact Ze (Ze w0 lS) l.1
  exact aby this gP
 refine⟨l,a7,z1,aT,?_,?_⟩
 ·refine abC (c:=(q:Rat)) ?_ Q;have:=ab6 o2 (aad W);grind
 ·refine abC (c:=(q:Rat)) ?_ Q;have:=ab6 o3 (aad W);grind
structure cU (mg:Str->Option Value):Prop where
 len_:mg "len"=none
 abs_:mg "abs"=none
 int_:mg "int"=none
 bool_:mg "bool"=none
 tuple_:mg "tuple"=none
 isinstance_:mg "isinstance"=none
 range_:mg "range"=none
 all_:mg "all"=none
 sum_:mg "sum"=none
 list_:mg "list"=none
 ValueError_:mg "ValueError"=none
 zip_:mg "zip"=none
 str_:mg "str"=none
 enumerate_:mg "enumerate"=none
 set_:mg "set"=none
 max_:mg "max"=none
 min_:mg "min"=none
 sorted_:mg "sorted"=none
 dict_:mg "dict"=none
local macro_rules | `(tactic| walk_at "bu") => `(tactic| first | assumption | exact intBits_sub_le (by walk_at "bu") (by walk_at "bu") | exact intBits_add_le (by walk_at "bu") (by walk_at "bu") | exact intBits_mul_le (by walk_at "bu") (by walk_at "bu") | exact intBits_neg_le (by walk_at "bu") | exact intBits_fdiv_le (by walk_at "bu") | exact lr (by omega) (by omega) | fail)
local macro_rules | `(tactic| walk_at "bits") => `(tactic| ((with_reducible show intBits _ ≤ _); first | assumption | exact Gg (lr (by omega) (by omega)) (by decide) | decide +kernel | exact Gg (by walk_at "bu") (by first | omega | decide) | fail))
local macro_rules | `(tactic| walk_at "sd") => `(tactic| first | ((with_reducible show intBits _ ≤ _); walk_at "bits") | ((with_reducible show zr _ _); exact ⟨by walk_at "bits", by walk_at "bits"⟩) | ((with_reducible show qf _ _); exact ⟨by omega, by walk_at "bits"⟩) | ((with_reducible show (_ : Int) < _); first | omega | decide +kernel) | ((with_reducible show (_ : Int) ≤ _); first | omega | decide +kernel) | ((with_reducible show Dq _ _); exact ⟨by decide, by decide, by decide⟩) | ((with_reducible show ZS _ ≤ sizeLine); first | (show 2 ≤ sizeLine; decide) | (show 3 ≤ sizeLine; decide) | (show 1 ≤ sizeLine; decide) | (show 0 ≤ sizeLine; decide) | (show 4 ≤ sizeLine; decide)) | fail)
local macro_rules | `(tactic| walk_at "w1") => `(tactic| first | refine ⟨_, rfl, ?_⟩ | refine ⟨_, _, rfl, rfl, ?_⟩ | refine ⟨_, _, rfl, rfl, by walk_at "sd", ?_⟩ | refine ⟨_, _, _, .inl rfl, rfl, rfl, ?_⟩ | refine ⟨_, _, _, .inr rfl, rfl, rfl, ?_⟩ | refine ⟨_, _, rfl, fun _ => rfl, ?_⟩ | refine ⟨by walk_at "sd", ?_⟩ | refine ⟨rfl, ?_⟩)
local macro_rules | `(tactic| walk_at "w") => `(tactic| repeat walk_at "w1")
local macro_rules | `(tactic| walk_at "wd") => `(tactic| (walk_at "w"; try dsimp only [bL]))
local macro_rules | `(tactic| walk_at "it") => `(tactic| first | exact .inl (by assumption) | exact .inr (by assumption))
local macro_rules | `(tactic| walk_at "r0") => `(tactic| repeat (first | refine ⟨_, rfl, ?_⟩ | refine ⟨_, _, rfl, rfl, ?_⟩ | refine ⟨_, _, _, _, rfl, rfl, by walk_at "it", rfl, ?_⟩ | refine ⟨by walk_at "sd", ?_⟩))
local macro_rules | `(tactic| walk_at "rd") => `(tactic| (walk_at "r0"; try dsimp only))
local macro_rules | `(tactic| walk_at "fall") => `(tactic| first | exact aae.mpr ⟨rfl, by walk_at "fall"⟩ | exact Z6 _)
local macro_rules | `(tactic| walk_at "fal2") => `(tactic| first | exact Z6 _ | exact aae.mpr ⟨fun h => absurd h (by decide), by walk_at "fal2"⟩ | exact aae.mpr ⟨fun _ => ⟨_, rfl⟩, by walk_at "fal2"⟩)
local macro_rules | `(tactic| walk_at "fsub") => `(tactic| exact iw (by walk_at "fall"))
local macro_rules | `(tactic| walk_at "fhas") => `(tactic| exact Zo (by walk_at "fal2"))
local macro_rules | `(tactic| walk_at "ffr") => `(tactic| (intro i y e; rcases i with _ | _ | _ | _ | _ | i <;> first | (cases e; done) | (cases e; exact ⟨_, rfl, rfl, rfl, Sz rfl, _, rfl⟩)))
local macro_rules | `(tactic| walk_at "sc") => `(tactic| exact ⟨rfl, rfl, rfl, by decide +kernel, rfl, by decide +kernel, by decide +kernel⟩)
local macro_rules | `(tactic| walk_at "b1") => `(tactic| exact fun _ _ F => F.binds fun _ _ _ _ _ _ us hl => match us, hl with | [_], _ => rfl)
local macro_rules | `(tactic| walk_at "b2") => `(tactic| exact fun _ _ F => F.binds fun _ _ _ _ _ _ us hl => match us, hl with | [_, _], _ => rfl)
local macro_rules | `(tactic| walk_at "b3") => `(tactic| exact fun _ _ F => F.binds fun _ _ _ _ _ _ us hl => match us, hl with | [_, _, _], _ => rfl)
local macro_rules | `(tactic| walk_at "b4") => `(tactic| exact fun _ _ F => F.binds fun _ _ _ _ _ _ us hl => match us, hl with | [_, _, _, _], _ => rfl)
local macro_rules | `(tactic| walk_at "b5") => `(tactic| exact fun _ _ F => F.binds fun _ _ _ _ _ _ us hl => match us, hl with | [_, _, _, _, _], _ => rfl)
theorem TC:cK ["_law_script","_law_k"] ["_law_script","_law_k"] (b4 yk):=by walk_at "sc"
theorem TF(B:cU mg)(F:cG K mg "_law_cell" yk ["_law_script","_law_k"]):
  aJ P w K mg base "_law_cell" ["_law_script","_law_k"] 1 (aL K 2 zW):=by
 refine aJ.imp (sp:=Ez K) ?_ (fun vs H Q E h=>NK h);refine F.ok (k:=0) TC (fun vs H Q E h=>?_) (fun f cdv A outer s H vs Q E ak h=>?_)
 ·obtain⟨a,k,ns,rfl,cp,h0,q⟩:=h;rfl
 obtain⟨a,k,ns,rfl,cp,h0,q⟩:=h;refine⟨_,(m6 (uA (qa lg (f9 1) (oK zg (by rfl) B.len_ (by decide +kernel) (er (f9 0) fK)) (dv _)) (oE (l8 (lp zf (f9 0) (f9 1) (fun _ _=>rfl)))) uy) (oE (l8 eI))),?_⟩;refine⟨_,rfl,_,rfl,a,_,rfl,.inl cp,_,_,rfl,rfl,_,rfl,?_⟩;refine fL (fun c=>?_) (fun c=>?_)
 ·rw[YL]at c;have ah:k.toNat<ns.length:=by omega
  have nU:k=((k.toNat:Nat):Int):=by omega
  have z:dO (ns.map V.int) ((k.toNat:Nat):Int)=some (.int ns[k.toNat]):=AJ (by rw[ZL,ZT ah]<;>rfl);rw[<-nU]at z;exact⟨_,rfl,_,rfl,a,_,_,_,rfl,rfl,cp,z,q _⟩
 ·exact q _
theorem TG:cK ["_law_cell_here"] ["_law_cell_here"] (b4 yl):=by walk_at "sc"
theorem TH(B:cU mg)(F:cG K mg "_law_bag" yl ["_law_cell_here"]):
  aJ P w K mg base "_law_bag" ["_law_cell_here"] 1 (aL K 1 zX):=by
 refine aJ.imp (sp:=EA) ?_ (fun vs H Q E h=>NL h);refine F.ok (k:=0) TG (fun vs H Q E h=>?_) (fun f cdv A outer s H vs Q E ak h=>?_)
 ·obtain⟨c,rfl,q⟩:=h;rfl
 obtain⟨c,rfl,q⟩:=h;refine⟨_,(m6 (uA (qa uK (f9 0) (fj y5 eI eI) (dv _)) (oE (l8 (za (er (fj md (f9 0) (fj rP (fj y5 eI eI) (fj y5 eI eI))) (er (fj md (f9 0) eI) fK))))) uy) (oE (l8 (za (er eI (er (fj md (fj uJ (fj rP (fj md (f9 0) eI) eI) eI) eI) fK)))))),?_⟩;walk_at "rd";refine fL (fun g=>?_) (fun g=>?_)
 ·walk_at "rd";refine(fun p ag=>q p _ _ ag (aaA _ (by decide +kernel)) (aaA _ (by decide)) (aaL _ (by decide)))
 ·have m0:=aaA c (show(2147483647:Int)≠0 by decide);have bw:=aaL c (show(0:Int)<2147483647 by decide);walk_at "rd";refine(fun p ag=>q p _ _ ag (by decide) (aaA _ (by decide)) (aaL _ (by decide)))
theorem Iy:cK ["_law_bag_here","_law_many","_law_found"] ["_law_bag_here","_law_many"] (b4 ym):=by walk_at "sc"
theorem TJ(B:cU mg)(F:cG K mg "_law_draw" ym ["_law_bag_here","_law_many"]):
  aJ P w K mg base "_law_draw" ["_law_bag_here","_law_many"] 1 (aL K 2 (qs 400)):=by
 refine aJ.imp (sp:=EB 400) ?_ (fun vs H Q E h=>NM h);refine F.ok (k:=0) Iy (fun vs H Q E h=>?_) (fun f cdv A outer s H vs Q E ak h=>?_)
 ·obtain⟨b,m,rfl,⟨x,y,af,x0,bX,bE⟩,m0,bw,q⟩:=h;rfl
 obtain⟨b,m,rfl,⟨x,y,af,x0,bX,bE⟩,m0,bw,q⟩:=h;refine⟨_,(m6 (uA (qa uK (lp oP (f9 0) eI (fun _ _=>rfl)) (f9 1) (dv _)) (m6 (p3 (i:=2) Iy.nd rfl (Sz rfl) (fj md (lp oP (f9 0) eI (fun _ _=>rfl)) (f9 1))) (m6 (uD (fj uX (lp oP (f9 0) eI (fun _ _=>rfl)) (f9 1)) (yU (f9 0) eI set_list)) (oE (l8 (f9 2))))) uy) (m6 (uD eI (yU (f9 0) eI set_list)) (m6 (uD (fj md (fj uJ (fj rP (lp oP (f9 0) eI (fun _ _=>rfl)) eI) eI) eI) (yU (f9 0) eI set_list)) (oE (l8 (fj md (fj uX (fj md (fj rP (lp oP (f9 0) eI (fun _ _=>rfl)) (fj uJ (fj uX (lp oP (f9 0) eI (fun _ _=>rfl)) eI) eI)) eI) eI) (f9 1))))))),?_⟩;walk_at "rd";refine fL (fun g=>?_) (fun g=>?_)
 ·walk_at "rd";refine⟨b,_,_,_,rfl,rfl,af,rfl,?_⟩;refine⟨_,rfl,?_⟩;refine q _ _ (Ext.upd b H _) ⟨_,_,ei,?_,bX,bE⟩ (aaA _ (by omega)) (aaL _ m0);exact Int.fdiv_nonneg x0 (Z4 m0)
 ·walk_at "rd";refine⟨b,_,_,_,rfl,rfl,af,rfl,?_⟩;have t2:(upd H b (.lst ([V.int x,V.int y].set (ab7 0) (V.int 0)))) b=some (.lst [.int 0,.int y]):=ei;have ai:=Ext.upd b H (.lst ([V.int x,V.int y].set (ab7 0) (V.int 0)));generalize upd H b (.lst ([V.int x,V.int y].set (ab7 0) (V.int 0)))=H1 at t2 ai ⊢;have b3:=aaA (y*48271+4099) (show(2147483647:Int)≠0 by decide);have jN:=aaL (y*48271+4099) (show(0:Int)<2147483647 by decide);walk_at "rd";refine⟨b,_,_,_,rfl,rfl,t2,rfl,?_⟩;generalize(y*48271+4099)%2147483647=z at b3 jN ⊢;have pM:(upd H1 b (.lst ([V.int 0,V.int y].set (ab7 1) (V.int z)))) b=some (.lst [.int 0,.int z]):=ei;have cC:=Int.ediv_nonneg b3 (show(0:Int)<=65536 by decide);have bU:z/65536<=z:=Int.ediv_le_self _ b3;have nU:Int.fdiv z 65536=z/65536:=abB z (by decide);have vv:intBits (Int.fdiv z 65536+7)<=64:=by rw[nU];exact lr (by omega) (by omega)
  walk_at "rd";refine q _ _ (ai.trans (Ext.upd b H1 _)) ⟨_,_,pM,by decide,b3,jN⟩ (aaA _ (by omega)) (aaL _ m0)
theorem rk:cK ["_law_one","_law_other","_law_rest"] ["_law_one","_law_other"] (b4 yn):=by walk_at "sc"
def rl  : FS:=fun as k=>∃(a b:Int),as=[.val (.int a),.val (.int b)]/\k (.val (.int (YJ a b:Nat)))
theorem TK(B:cU mg)(F:cG K mg "_law_measure" yn ["_law_one","_law_other"])  :
  aJ P w K mg base "_law_measure" ["_law_one","_law_other"] 2 (aL K 2 rl):=by
 refine di (lv:=1) F rk rfl (fun f cdv A outer s H E ak=>⟨_,(a8 (cz (i:=0) rk.nd rfl (Sz rfl) (vc (ae 0) (by rfl) B.abs_)) (a8 (cz (i:=1) rk.nd rfl (Sz rfl) (vc (ae 1) (by rfl) B.abs_)) (a8 (Ei PassesOwn.never (fu (f:=fun i j=>decide (j<i)) p' (ae 1) az (dv _)) (a8 (cz (i:=2) rk.nd rfl (Sz rfl) (u9 (ae 0) (ae 1))) (a8 (cz (i:=0) rk.nd rfl (Sz rfl) (ae 1)) (bJ (cz (i:=1) rk.nd rfl (Sz rfl) (ae 2)))))) (bJ (cw (ae 0)))))),?_⟩);rintro as k aj ⟨a,b,rfl,ah⟩;refine cZ (r:=[.val (.int a),.val (.int b),.no]) rfl ?_;walk_at "wd";refine⟨fun m ρ=>∃(x y:Int)(v:aI),ρ=[.val (.int x),.val (.int y),v]/\0<=x/\0<=y/\YJ x y=YJ a b/\m=y.toNat,⟨_,_,_,_,rfl,?_,?_,DT a b,rfl⟩,?_⟩
 ·split<;>omega
 ·split<;>omega
 rintro m ρ ⟨x,y,v,rfl,x0,bX,aD,rfl⟩;walk_at "wd";refine fL (fun g=>?_) (fun g=>?_)
 ·walk_at "wd";have m0:=aaA x (show y≠0 by omega);have bw:=aaL x g;exact⟨_,by omega,_,_,_,rfl,bX,m0,by rw[DS x0 g];exact aD,rfl⟩
 ·have e:y=0:=by omega
  subst e;refine⟨_,rfl,?_⟩;rw[<-gcd_zero_left x0,aD];exact ah
theorem Cg:cK ["_law_top","_law_bottom","_law_often"] ["_law_top","_law_bottom"] (b4 yo):=by walk_at "sc"
def xx  : FS:=fun as k=>∃(t b:Int),as=[.val (.int t),.val (.int b)]/\(0<b)/\(intBits b<=9000)/\k (.val (dR (cA t b)))
theorem TL(B:cU mg)(F:cG K mg "_law_low" yo ["_law_top","_law_bottom"])(kc:aJ P w K mg base "_law_measure" ["_law_one","_law_other"] 2 (aL K 2 rl)):
  aJ P w K mg base "_law_low" ["_law_top","_law_bottom"] 3 (aL K 2 xx):=by
 refine di (lv:=2) F Cg rfl (fun f cdv A outer s H E ak=>⟨_,(a8 (cz (i:=2) Cg.nd rfl (Sz rfl) (a3 kc ak (by rfl) (aw (ae 0) (aw (ae 1) aV)))) (a8 (eM (fu (f:=fun i j=>decide (i<j)) lg (ae 1) az (dv _)) (bJ (cz (i:=2) Cg.nd rfl (Sz rfl) (iq (ae 2)))) eX) (bJ (cw (cY (aR (dF (ae 0) (ae 2)) (aR (dF (ae 1) (ae 2)) bR))))))),?_⟩);rintro as k aj ⟨t,b,rfl,af,v3,ah⟩;refine cZ (r:=[.val (.int t),.val (.int b),.no]) rfl ?_;have gp:=nk (t:=t) (b:=b) (by omega);have hy:=kG (a:=t) (b:=b) (by omega) v3;have e:sq t b=((YJ t b:Nat):Int):=by unfold sq;rw[if_neg (by omega)]
 have ah:k (.val (.tup [.int (t.fdiv ((YJ t b:Nat):Int)),.int (b.fdiv ((YJ t b:Nat):Int))])):=by
  have h:=ah;unfold dR cA at h;rw[e]at h;exact h
 walk_at "w";refine⟨_,_,rfl,?_⟩;dsimp only[bL];walk_at "wd";refine fL (fun g=>absurd g (by omega)) (fun _=>?_);walk_at "w";exact ah
theorem Iz:cK ["_law_x","_law_y","_law_bottom","_law_often"] ["_law_x","_law_y","_law_bottom"] (b4 yp):=by walk_at "sc"
def t4  : FS:=fun as k=>∃(x y n:Int),as=[.val (.int x),.val (.int y),.val (.int n)]/\(0<n)/\(intBits n<=9000)/\k (.val (dP (cx x y n)))
theorem TM(B:cU mg)(F:cG K mg "_law_spot" yp ["_law_x","_law_y","_law_bottom"])(kc:aJ P w K mg base "_law_measure" ["_law_one","_law_other"] 2 (aL K 2 rl)):
  aJ P w K mg base "_law_spot" ["_law_x","_law_y","_law_bottom"] 3 (aL K 3 t4):=by
 refine di (lv:=2) F Iz rfl (fun f cdv A outer s H E ak=>⟨_,(a8 (cz (i:=3) Iz.nd rfl (Sz rfl) (a3 kc ak (by rfl) (aw (a3 kc ak (by rfl) (aw (ae 0) (aw (ae 1) aV))) (aw (ae 2) aV)))) (bJ (cw (cY (aR (dF (ae 0) (ae 3)) (aR (dF (ae 1) (ae 3)) (aR (dF (ae 2) (ae 3)) bR))))))),?_⟩);rintro as k aj ⟨x,y,n,rfl,aN,bn,ah⟩;refine cZ (r:=[.val (.int x),.val (.int y),.val (.int n),.no]) rfl ?_;walk_at "w";refine⟨_,_,rfl,?_⟩;walk_at "w";refine⟨_,_,rfl,?_⟩;have cR:n≠0:=by omega
 have gp:=EP (a:=x) (b:=y) cR;have hy:=ER (a:=x) (b:=y) cR bn;have e:jo x y n=g3 x y n:=by unfold jo;rw[if_neg (by omega)]
 have lI:((YJ ((YJ x y:Nat):Int) n:Nat):Int)=g3 x y n:=OB x y n
 have ah:k (.val (.tup [.int (x.fdiv (g3 x y n)),.int (y.fdiv (g3 x y n)),.int (n.fdiv (g3 x y n))])):=by
  have h:=ah;unfold dP cx at h;rw[e]at h;exact h
 dsimp only[bL];rw[lI];generalize g3 x y n=g at gp hy ah ⊢;walk_at "w";exact ah
theorem TN:cK ["_law_found"] ["_law_found"] (b4 yq):=by walk_at "sc"
def Ci  : FS:=fun as k=>∃(i:Int),as=[.val (.int i)]/\k (.val (.bl true))
theorem TO(B:cU mg)(F:cG K mg "_law_whole" yq ["_law_found"])  :
  aJ P w K mg base "_law_whole" ["_law_found"] 2 (aL K 1 Ci):=by
 refine di (lv:=1) F TN rfl (fun f cdv A outer s H E ak=>⟨_,(bJ (cw (oW (mq (T:="int") (ae 0) (by rfl) B.isinstance_ (l7 (v:=.ty "int") (u:=.type "int") (by rfl) B.int_ (by decide +kernel) rfl) rfl rfl rfl) (qo (MM (mq (T:="bool") (ae 0) (by rfl) B.isinstance_ (l7 (v:=.ty "bool") (u:=.type "bool") (by rfl) B.bool_ (by decide +kernel) rfl) rfl rfl rfl)))))),?_⟩);rintro as k aj ⟨i,rfl,ah⟩;refine cZ (r:=[.val (.int i)]) rfl ?_;refine⟨_,rfl,_,_,rfl,fun _=>rfl,_,rfl,Mq ?_⟩;exact⟨_,rfl,_,_,rfl,fun _=>rfl,_,rfl,ah⟩
theorem rm:cK ["_law_p","_law_q","_law_a","_law_b","_law_c","_law_often"] ["_law_p","_law_q"] (b4 yr):=by walk_at "sc"
def IA  : FS:=fun as k=>∃(p q:P3),as=[.val (dP p),.val (dP q)]/\((crs p q).1≠0∨(crs p q).2.1≠0)/\(cj 4000 p)/\(cj 4000 q)/\k (.val (dP (ea p q)))
theorem TP(B:cU mg)(F:cG K mg "_law_line" yr ["_law_p","_law_q"])(kc:aJ P w K mg base "_law_measure" ["_law_one","_law_other"] 2 (aL K 2 rl)):
  aJ P w K mg base "_law_line" ["_law_p","_law_q"] 3 (aL K 2 IA):=by
 refine di (lv:=2) F rm rfl (fun f cdv A outer s H E ak=>⟨_,(a8 (cz (i:=2) rm.nd rfl (Sz rfl) (e8 (cy (a0 (ae 0) az (fun _ _=>rfl)) (a0 (ae 1) az (fun _ _=>rfl))) (cy (a0 (ae 0) az (fun _ _=>rfl)) (a0 (ae 1) az (fun _ _=>rfl))))) (a8 (cz (i:=3) rm.nd rfl (Sz rfl) (e8 (cy (a0 (ae 0) az (fun _ _=>rfl)) (a0 (ae 1) az (fun _ _=>rfl))) (cy (a0 (ae 0) az (fun _ _=>rfl)) (a0 (ae 1) az (fun _ _=>rfl))))) (a8 (cz (i:=4) rm.nd rfl (Sz rfl) (e8 (cy (a0 (ae 0) az (fun _ _=>rfl)) (a0 (ae 1) az (fun _ _=>rfl))) (cy (a0 (ae 0) az (fun _ _=>rfl)) (a0 (ae 1) az (fun _ _=>rfl))))) (a8 (cz (i:=5) rm.nd rfl (Sz rfl) (a3 kc ak (by rfl) (aw (a3 kc ak (by rfl) (aw (ae 2) (aw (ae 3) aV))) (aw (ae 4) aV)))) (a8 (eM (nt (w_or (fu (f:=fun i j=>decide (i<j)) lg (ae 2) az (dv _)) (oV (nt (w_and (fu (f:=fun i j=>decide (i=j)) jh (ae 2) az (dv _)) (MH (fu (f:=fun i j=>decide (i<j)) lg (ae 3) az (dv _)))))))) (bJ (cz (i:=5) rm.nd rfl (Sz rfl) (iq (ae 5)))) eX) (bJ (cw (cY (aR (dF (ae 2) (ae 5)) (aR (dF (ae 3) (ae 5)) (aR (dF (ae 4) (ae 5)) bR))))))))))),?_⟩);rintro as k aj ⟨p,q,rfl,w,bp,gj,ah⟩;refine cZ (r:=[.val (dP p),.val (dP q),.no,.no,.no,.no]) rfl ?_;have aa:=bp.a;have ab:=bp.b;have aK:=bp.c;have bo:=gj.a;have df:=gj.b;have fl:=gj.c;have a9:intBits (crs p q).1<=8500:=by show intBits (p.2.1*q.2.2-p.2.2*q.2.1)<=_;walk_at "bits"
 have ba:intBits (crs p q).2.1<=8500:=by show intBits (p.2.2*q.1-p.1*q.2.2)<=_;walk_at "bits"
 have dG:intBits (crs p q).2.2<=8500:=by show intBits (p.1*q.2.1-p.2.1*q.1)<=_;walk_at "bits"
 walk_at "w";refine⟨(crs p q).1,(crs p q).2.1,rfl,?_⟩;walk_at "wd";refine⟨((YJ (crs p q).1 (crs p q).2.1:Nat):Int),(crs p q).2.2,rfl,?_⟩;dsimp only[bL];refine cZ (r:=[.val (dP p),.val (dP q),.val (.int (crs p q).1),.val (.int (crs p q).2.1),.val (.int (crs p q).2.2),.val (.int (jv (crs p q)))]) rfl ?_;unfold ea at ah;generalize crs p q=l at w a9 ba dG ah;refine eF (fun ρ=>ρ=[.val (dP p),.val (dP q),.val (.int l.1),.val (.int l.2.1),.val (.int l.2.2),.val (.int (gg l))]) ?_ (fun N aY=>?_);rotate_left
 ·have yes:kS l->N [.val (dP p),.val (dP q),.val (.int l.1),.val (.int l.2.1),.val (.int l.2.2),.val (.int (-jv l))]:=fun d=>aY _ (by unfold gg;rw[if_pos d]);have no:¬kS l->N [.val (dP p),.val (dP q),.val (.int l.1),.val (.int l.2.1),.val (.int l.2.2),.val (.int (jv l))]:=fun d=>aY _ (by unfold gg;rw[if_neg d]);refine⟨_,rfl,_,_,rfl,rfl,_,rfl,fL (fun g=>?_) (fun g=>?_)⟩
  ·exact⟨_,rfl,_,rfl,yes (.inl g)⟩
  ·refine⟨_,rfl,_,_,rfl,rfl,_,rfl,fL (fun g2=>?_) (fun g2=>no fun d=>d.elim g fun z=>g2 z.1)⟩;refine⟨_,rfl,_,_,rfl,rfl,_,rfl,fL (fun g3=>?_) (fun g3=>no fun d=>d.elim g fun z=>g3 z.2)⟩;exact⟨_,rfl,_,rfl,yes (.inr ⟨g2,g3⟩)⟩
 rintro ρ rfl;have o0:=wM w;have cI:=RM a9 ba w;obtain⟨bN,b1,gX⟩:=tl l;have f1:=acM bN;have f2:=acM b1;have bQ:=acM gX;have ah:k (.val (.tup [.int (l.1.fdiv (gg l)),.int (l.2.1.fdiv (gg l)),.int (l.2.2.fdiv (gg l))])):=by rw[f1,f2,bQ];exact ah
 walk_at "w";exact ah
theorem t5:cK ["_law_tally","_law_rings","_law_number","_law_ring","_law_k","_law_p","_law_q","_law_line_here"] ["_law_tally","_law_rings","_law_number"] (b4 yt):=by walk_at "sc"
def IB:tj:=fun b ks ds xs k=>∃(vs:List Int)(rs:GK)(m:Int),  b=true/\xs=[(.lst (rs.map eh)),(.int m)]/\(ds=vs.map D.int)/\(vs.length=ks.length)/\(∀ps∈rs,mM ps)/\(m=1∨m = -1)/\(ks.length+2*(rs.map ZS).sum<=10000)/\∀e2 fX,fX.length=e2.length->e2.length<=ks.length+2*(rs.map ZS).sum->(∀key,(cg e2 fX key).getD 0=(cg ks vs key).getD 0+m*n5 key rs)->k e2 (fX.map D.int)
theorem TQ(B:cU mg)(F:cG K mg "_law_count" yt ["_law_tally","_law_rings","_law_number"])(TR:aJ P w K mg base "_law_line" ["_law_p","_law_q"] 3 (aL K 2 IA)):
  aJ P w K mg base "_law_count" ["_law_tally","_law_rings","_law_number"] 4 (tk K 3 IB):=by
 refine Rv (lv:=3) F t5 rfl (fun f cdv A outer s H E ak=>⟨_,(bJ (oY PassesOwn.never rfl (jQ (ae 1)) (cq (i:=3) t5.nd rfl (Sz rfl)) (bJ (oY PassesOwn.never rfl (zL (jO (ae 3) (by rfl) B.len_) (by rfl) B.range_) (cq (i:=4) t5.nd rfl (Sz rfl)) (a8 (Eh (i:=5) (j:=6) rfl t5.nd rfl rfl (by decide) rfl rfl (aR (a0 (ae 3) (e8 (ae 4) az) (fun _ _=>rfl)) (aR (a0 (ae 3) (ae 4) (fun _ _=>rfl)) bR)) rfl) (a8 (cz (i:=7) t5.nd rfl (Sz rfl) (a3 TR ak (by rfl) (aw (ae 5) (aw (ae 6) aV)))) (a8 (GG (b:=true) 0 (ti ak) (cY (aR (ae 7) (aR (ae 5) bR))) (eC (GF (b:=true) 0 (ti ak) (cY (aR (ae 7) (aR (ae 5) bR))) az) (ae 2))) (bJ (GG (b:=true) 0 (ti ak) (cY (aR (ae 7) (aR (ae 6) bR))) (e8 (GF (b:=true) 0 (ti ak) (cY (aR (ae 7) (aR (ae 6) bR))) az) (ae 2))))))))))),?_⟩);rintro b t ks ds xs k aj ⟨vs,rs,m,rfl,rfl,gd,aP,ak,hm,aj,ah⟩;refine cZ (r:=[.own (.d true t ks ds),.val (.lst (rs.map eh)),.val (.int m),.no,.no,.no,.no,.no]) rfl ?_;subst gd;have big:20000<=sizeLine:=by decide
 refine⟨_,rfl,_,rfl,?_⟩;refine qC (f:=eh) (rs:=rs) (done:=[]) (fun pre ρ=>∃(i4:List (List (List Int)))(kR:List Int)(ae v4 hA v6 hj:aI),ρ=[.own (.d true t i4 (kR.map D.int)),.val (.lst (rs.map eh)),.val (.int m),ae,v4,hA,v6,hj]/\kR.length=i4.length/\i4.length<=ks.length+2*(pre.map ZS).sum/\∀key,(cg i4 kR key).getD 0=(cg ks vs key).getD 0+m*n5 key pre) ⟨ks,vs,_,_,_,_,_,rfl,aP,by simp,fun key=>by simp[n5]⟩ ?_ (fun ρ h=>?_);rotate_left
 ·obtain⟨i4,kR,ae,v4,hA,v6,hj,rfl,aa,ab,aK⟩:=h;rw[Z5]at ab aK;exact⟨i4,_,rfl,ah i4 kR aa ab aK⟩
 rintro pre ps rest ρ he ⟨i4,kR,ae,v4,hA,v6,hj,rfl,aa,ab,aK⟩ N aY;rw[Z5]at he;have mem:ps∈rs:=by rw[he];simp
 obtain⟨a1,a2,iG⟩:=ak ps mem;have BR:(rs.map ZS).sum=(pre.map ZS).sum+(ps.length+(rest.map ZS).sum):=by rw[he,ZD,abn,ZE,Z3]
 have len:(ps.map dP).length=ps.length:=YL ..;refine⟨_,rfl,_,rfl,_,rfl,by omega,by rw[len];omega,?_⟩;rw[len,show((ps.length:Nat):Int).toNat=ps.length by omega];refine EM (fun i ρ=>∃(e2:List (List (List Int)))(fX:List Int)(v4 hA v6 hj:aI),ρ=[.own (.d true t e2 (fX.map D.int)),.val (.lst (rs.map eh)),.val (.int m),.val (eh ps),v4,hA,v6,hj]/\fX.length=e2.length/\e2.length<=i4.length+2*i/\∀key,(cg e2 fX key).getD 0=(cg i4 kR key).getD 0+m*n4 key ((dc ps).take i)) ⟨i4,kR,_,_,_,_,rfl,aa,by omega,fun key=>by simp[n4]⟩ ?_ (fun ρ h=>?_);rotate_left
 ·obtain⟨e2,fX,v4,hA,v6,hj,rfl,eN,eO,lM⟩:=h;have al:=QB ps;rw[al]at lM;refine aY _ ⟨e2,fX,_,_,_,_,_,rfl,eN,?_,fun key=>?_⟩
  ·rw[ZD,abn];simp only[ZE,aaq,Z3,aa6];omega
  ·rw[lM key,aK key];unfold n5;rw[ZD,abn];simp only[ZE,aaq,Z3,aa6];grind
 clear aY;rintro i ρ aB ⟨e2,fX,v4,hA,v6,hj,rfl,eN,eO,lM⟩ N aY;obtain⟨p,q,mp,Bs,gp,hT,ik,wY⟩:=RK aB;refine⟨_,rfl,_,rfl,_,_,rfl,rfl,_,_,_,.inr rfl,rfl,gp,_,rfl,_,rfl,_,_,_,.inr rfl,rfl,hT,dP p,dP q,rfl,?_⟩;refine⟨_,rfl,_,rfl,rfl,p,q,rfl,a2 _ ik,iG p mp,iG q Bs,?_⟩;dsimp only[bL];obtain⟨bx,bB⟩:=GZ (k:=d1 p q p) (x:=(cg e2 fX (d1 p q p)).getD 0+m) eN;refine eF (fun ρ=>ρ=[.own (.d true t (fG e2 (d1 p q p)) ((fW e2 fX (d1 p q p) ((cg e2 fX (d1 p q p)).getD 0+m)).map D.int)),.val (.lst (rs.map eh)),.val (.int m),.val (eh ps),.val (.int i),.val (dP p),.val (dP q),.val (dP (ea p q))]) ?_ (fun xy mV=>?_);rotate_left
 ·refine⟨t,e2,_,rfl,_,rfl,_,rfl,by show 2<=sizeLine;decide,d1 p q p,rfl,(fun z=>nomatch z),_,rfl,(cg e2 fX (d1 p q p)).getD 0,m,G2 _ _ _,rfl,?_⟩;refine⟨t,e2,_,rfl,_,rfl,_,rfl,by show 2<=sizeLine;decide,d1 p q p,rfl,(fun z=>nomatch z),by omega,?_⟩;exact mV _ (by rw[G0];rfl)
 rintro ρ rfl;generalize TS:fG e2 (d1 p q p)=k3 at bx bB;generalize TU:fW e2 fX (d1 p q p) ((cg e2 fX (d1 p q p)).getD 0+m)=oq at bx
 have g3:∀key,(cg k3 oq key).getD 0=(cg e2 fX key).getD 0+(if key=d1 p q p then m else 0):=fun key=>by
  rw[<-TS,<-TU,GY _ _ key eN];by_cases e:key=d1 p q p
  ·rw[if_pos e,if_pos e,e];rfl
  ·rw[if_neg e,if_neg e];omega
 obtain⟨e9,Zp⟩:=GZ (k:=d1 p q q) (x:=(cg k3 oq (d1 p q q)).getD 0-m) bx;refine⟨t,k3,_,rfl,_,rfl,_,rfl,by show 2<=sizeLine;decide,d1 p q q,rfl,(fun z=>nomatch z),_,rfl,(cg k3 oq (d1 p q q)).getD 0,m,G2 _ _ _,rfl,?_⟩;refine⟨t,k3,_,rfl,_,rfl,_,rfl,by show 2<=sizeLine;decide,d1 p q q,rfl,(fun z=>nomatch z),by omega,?_⟩;refine aY _ ⟨fG k3 (d1 p q q),fW k3 oq (d1 p q q) ((cg k3 oq (d1 p q q)).getD 0-m),.val (.int i),.val (dP p),.val (dP q),.val (dP (ea p q)),by rw[G0];rfl,e9,by omega,fun key=>?_⟩;rw[GY _ _ key bx,wY]
 have c6:n4 key ((dc ps).take i++[(p,q)])=n4 key ((dc ps).take i)+tn key (p,q):=by
  unfold n4;rw[ZD,abn];simp
 have dx:((if key=d1 p q q then some ((cg k3 oq (d1 p q q)).getD 0-m)else cg k3 oq key).getD 0:Int)=(cg k3 oq key).getD 0-(if key=d1 p q q then m else 0):=by
  by_cases e:key=d1 p q q
  ·rw[if_pos e,if_pos e,e];rfl
  ·rw[if_neg e,if_neg e];omega
 rw[dx,g3 key,lM key,c6];unfold tn;dsimp only;split<;>split<;>grind
theorem IC:cK ["_law_rings","_law_others","_law_tally"] ["_law_rings","_law_others"] (b4 yu):=by walk_at "sc"
def Cj  : FS:=fun as k=>∃(rs b9:GK),as=[.val (.lst (rs.map eh)),.val (.lst (b9.map eh))]/\(∀ps∈rs,mM ps)/\(∀ps∈b9,mM ps)/\((rs.map ZS).sum+(b9.map ZS).sum<=4000)/\(fx rs b9)/\k (.val (.bl true))
theorem TV(B:cU mg)(F:cG K mg "_law_part" yu ["_law_rings","_law_others"])(ID:aJ P w K mg base "_law_count" ["_law_tally","_law_rings","_law_number"] 4 (tk K 3 IB)):
  aJ P w K mg base "_law_part" ["_law_rings","_law_others"] 5 (aL K 2 Cj):=by
 refine di (lv:=4) F IC rfl (fun f cdv A outer s H E ak=>⟨_,(a8 (Ro (b:=true) (i:=2) IC.nd rfl (Zh rfl)) (a8 (GH 2 ID ak (by rfl) (aR (ae 0) (aR az bR))) (a8 (GH 2 ID ak (by rfl) (aR (ae 1) (aR (iq az) bR))) (Rr 2 (bJ (cw (z8 (dQ (o6 (ts:=["_law_key"]) (fr:=["_law_tally"]) (js:=[2]) (Rt (ae 2)) (fun _ _ _ _=>(cq (i:=0) (show ZZ (["_law_key","_law_tally"]:List Str) by decide +kernel) rfl (Sz rfl))) (fun _ _ _ _=>jT) (fun _ _ _ _=>(lA (f:=fun i j=>decide (i=j)) jh (Rp true (ti ak) (ae 1) (ae 0) (fun _ _=>rfl)) az (dv _))) ⟨rfl,by decide +kernel,rfl,by decide +kernel,iw (aae.mpr ⟨rfl,(Z6 _)⟩),iV rfl,by walk_at "ffr",rfl⟩)) rfl (by rfl) B.all_))))))),?_⟩);rintro as k aj ⟨rs,b9,rfl,ak,aA,aj,bal,ah⟩;refine cZ (r:=[.val (.lst (rs.map eh)),.val (.lst (b9.map eh)),.no]) rfl ?_;have big:20000<=sizeLine:=by decide
 refine⟨true,none,[],[],rfl,_,rfl,rfl,[],rs,1,rfl,rfl,rfl,rfl,ak,.inl rfl,by simp;omega,fun i4 kR bx bB e9=>?_⟩;refine⟨true,none,i4,_,rfl,_,rfl,1,rfl,rfl,kR,b9,-1,rfl,rfl,rfl,bx,aA,.inr rfl,?_,fun e2 fX bw b3 jN=>?_⟩
 ·simp at bB;omega
 have z:∀key,(cg e2 fX key).getD 0=0:=fun key=>by
  rw[jN key,e9 key,RL bal key];simp[cg];omega
 simp at bB;refine⟨true,none,e2,_,rfl,?_⟩;refine⟨_,rfl,true,e2,_,rfl,by rw[YL];omega,?_⟩;refine lG (f:=ih true) (h:=fun _=>D.bl true) (fun key hm k ah=>?_) ?_
 ·have some:cg e2 (fX.map D.int) key=some (.int 0):=by
   have e:=z key;rw[Bt];cases q:cg e2 fX key with
   | none=>exact absurd hm ((s8 bw).mp q)
   | some v=>rw[q]at e;rw[show v=0 from e];rfl
  refine⟨_,rfl,_,rfl,e2,_,key,_,rfl,rfl,(fun z=>nomatch z),some,?_⟩;exact⟨_,_,rfl,rfl,ah⟩
 refine⟨_,rfl,fun d hd=>?_,ah⟩;obtain⟨_,_,e⟩:=ZJ.mp hd;exact e.symm
theorem Ck:cK ["_law_p","_law_q","_law_r","_law_found"] ["_law_p","_law_q","_law_r"] (b4 yv):=by walk_at "sc"
def IE  : FS:=fun as k=>∃(p q r:P3),as=[.val (dP p),.val (dP q),.val (dP r)]/\(cj 2950 p)/\(cj 2950 q)/\(cj 2950 r)/\k (.val (.bl (decide (0<bc p q r))))
theorem TX(B:cU mg)(F:cG K mg "_law_left" yv ["_law_p","_law_q","_law_r"])  :
  aJ P w K mg base "_law_left" ["_law_p","_law_q","_law_r"] 2 (aL K 3 IE):=by
 refine di (lv:=1) F Ck rfl (fun f cdv A outer s H E ak=>⟨_,(a8 (cz (i:=3) Ck.nd rfl (Sz rfl) (cy (a0 (ae 0) az (fun _ _=>rfl)) (e8 (cy (a0 (ae 1) az (fun _ _=>rfl)) (a0 (ae 2) az (fun _ _=>rfl))) (cy (a0 (ae 1) az (fun _ _=>rfl)) (a0 (ae 2) az (fun _ _=>rfl)))))) (a8 (Qz (i:=3) Ck.nd rfl (Sz rfl) (cy (a0 (ae 0) az (fun _ _=>rfl)) (e8 (cy (a0 (ae 1) az (fun _ _=>rfl)) (a0 (ae 2) az (fun _ _=>rfl))) (cy (a0 (ae 1) az (fun _ _=>rfl)) (a0 (ae 2) az (fun _ _=>rfl)))))) (bJ (cw (lA (f:=fun i j=>decide (j<i)) p' (eC (ae 3) (cy (a0 (ae 0) az (fun _ _=>rfl)) (e8 (cy (a0 (ae 1) az (fun _ _=>rfl)) (a0 (ae 2) az (fun _ _=>rfl))) (cy (a0 (ae 1) az (fun _ _=>rfl)) (a0 (ae 2) az (fun _ _=>rfl)))))) az (dv _)))))),?_⟩);rintro as k aj ⟨p,q,r,rfl,bp,gj,lZ,ah⟩;refine cZ (r:=[.val (dP p),.val (dP q),.val (dP r),.no]) rfl ?_;have aa:=bp.a;have ab:=bp.b;have aK:=bp.c;have bo:=gj.a;have df:=gj.b;have fl:=gj.c;have lE:=lZ.a;have kQ:=lZ.b;have s9:=lZ.c;have e:bc p q r=p.1*(q.2.1*r.2.2-q.2.2*r.2.1)+p.2.1*(q.2.2*r.1-q.1*r.2.2)+p.2.2*(q.1*r.2.1-q.2.1*r.1):=by unfold bc crs;grind
 rw[e]at ah;walk_at "w";exact ah
theorem TY:cK ["_law_p"] ["_law_p"] (b4 yw):=by walk_at "sc"
def Cm  : FS:=fun as k=>∃(p:P3),as=[.val (dP p)]/\(aS p)/\k (.val (.bl true))
theorem TZ(B:cU mg)(F:cG K mg "_law_is_spot" yw ["_law_p"])(xA:aJ P w K mg base "_law_whole" ["_law_found"] 2 (aL K 1 Ci))(kc:aJ P w K mg base "_law_measure" ["_law_one","_law_other"] 2 (aL K 2 rl)):
  aJ P w K mg base "_law_is_spot" ["_law_p"] 3 (aL K 1 Cm):=by
 refine di (lv:=2) F TY rfl (fun f cdv A outer s H E ak=>⟨_,(a8 (eM (nt (w_or (hq (gY (mq (T:="tuple") (ae 0) (by rfl) B.isinstance_ (l7 (v:=.ty "tuple") (u:=.type "tuple") (by rfl) B.tuple_ (by decide +kernel) rfl) rfl rfl rfl))) (w_or (fu (f:=fun i j => !decide (i=j)) rQ (jO (ae 0) (by rfl) B.len_) az (dv _)) (oV (hq (gY (z8 (dQ (o6 (ts:=["_law_number"]) (fr:=[]) (js:=[]) (Ej (ae 0)) (fun _ _ _ _=>(cq (i:=0) (show ZZ (["_law_number"]:List Str) by decide +kernel) rfl (Sz rfl))) (fun _ _ _ _=>jT) (fun _ _ _ _=>(a3 xA ak (by rfl) (aw (ae 0) aV))) ⟨rfl,by decide +kernel,rfl,by decide +kernel,iw (Z6 _),iV rfl,by walk_at "ffr",rfl⟩)) rfl (by rfl) B.all_))))))) (bJ (cw ip)) eX) (bJ (cw (oW (lA (f:=fun i j=>decide (j<i)) p' (a0 (ae 0) az (fun _ _=>rfl)) az (dv _)) (qo (lA (f:=fun i j=>decide (i=j)) jh (a3 kc ak (by rfl) (aw (a3 kc ak (by rfl) (aw (a0 (ae 0) az (fun _ _=>rfl)) (aw (a0 (ae 0) az (fun _ _=>rfl)) aV))) (aw (a0 (ae 0) az (fun _ _=>rfl)) aV))) az (dv _))))))),?_⟩);rintro as k aj ⟨p,rfl,ag,ah⟩;refine cZ (r:=[.val (dP p)]) rfl ?_;have lI:((YJ ((YJ p.1 p.2.1:Nat):Int) p.2.2:Nat):Int)=1:=by rw[ag.2];rfl
 have cR:=ag.1;refine mx (fun N aY=>?_) ?_
 ·refine⟨_,rfl,_,_,rfl,fun _=>rfl,_,rfl,f' ?_⟩;refine⟨_,rfl,_,rfl,_,_,rfl,rfl,_,rfl,f' ?_⟩;refine⟨_,rfl,_,rfl,by show 3<=sizeLine;decide,?_⟩;refine lG (f:=D.int) (h:=fun _=>D.bl true) (rs:=[p.1,p.2.1,p.2.2]) (fun i aB k ah=>⟨_,rfl,rfl,i,rfl,ah⟩) ?_;exact⟨_,rfl,fun d hd=>by simp at hd;exact hd,_,rfl,f' aY⟩
 walk_at "w";rw[if_pos (decide_eq_true cR)];walk_at "w";refine⟨_,_,rfl,?_⟩;dsimp only[bL];walk_at "w";refine⟨_,_,rfl,?_⟩;dsimp only[bL];rw[lI];exact⟨_,_,rfl,rfl,ah⟩
theorem Cn:cK ["_law_ring","_law_turns","_law_fans"] ["_law_ring"] (b4 yx):=by walk_at "sc"
def IF  : FS:=fun as k=>∃(ps:List P3),as=[.val (.lst (ps.map dP))]/\(ps.length<=75)/\(eP ps)/\(∀p∈ps,da 2950 p)/\k (.val (.bl true))
theorem T3(B:cU mg)(F:cG K mg "_law_is_bulging" yx ["_law_ring"])(Co:aJ P w K mg base "_law_is_spot" ["_law_p"] 3 (aL K 1 Cm))(IG:aJ P w K mg base "_law_left" ["_law_p","_law_q","_law_r"] 2 (aL K 3 IE)):
  aJ P w K mg base "_law_is_bulging" ["_law_ring"] 4 (aL K 1 IF):=by
 refine di (lv:=3) F Cn rfl (fun f cdv A outer s H E ak=>⟨_,(a8 (eM (nt (w_or (hq (gY (mq (T:="list") (ae 0) (by rfl) B.isinstance_ (l7 (v:=.ty "list") (u:=.type "list") (by rfl) B.list_ (by decide +kernel) rfl) rfl rfl rfl))) (w_or (fu (f:=fun i j=>decide (i<j)) lg (jO (ae 0) (by rfl) B.len_) az (dv _)) (oV (hq (gY (z8 (dQ (o6 (ts:=["_law_p"]) (fr:=[]) (js:=[]) (jQ (ae 0)) (fun _ _ _ _=>(cq (i:=0) (show ZZ (["_law_p"]:List Str) by decide +kernel) rfl (Sz rfl))) (fun _ _ _ _=>jT) (fun _ _ _ _=>(a3 Co ak (by rfl) (aw (ae 0) aV))) ⟨rfl,by decide +kernel,rfl,by decide +kernel,iw (Z6 _),iV rfl,by walk_at "ffr",rfl⟩)) rfl (by rfl) B.all_))))))) (bJ (cw ip)) eX) (a8 (vD 1 (z7 (i:=1) Cn.nd rfl rfl (ts:=["_law_k"]) (fr:=["_law_ring"]) (js:=[0]) (zL (jO (ae 0) (by rfl) B.len_) (by rfl) B.range_) (fun _ _ _ _=>(cq (i:=0) (show ZZ (["_law_k","_law_ring"]:List Str) by decide +kernel) rfl (Sz rfl))) (fun _ _ _ _=>jT) (fun _ _ _ _=>(a3 IG ak (by rfl) (aw (a0 (ae 1) (e8 (ae 0) az) (fun _ _=>rfl)) (aw (a0 (ae 1) (e8 (ae 0) az) (fun _ _=>rfl)) (aw (a0 (ae 1) (ae 0) (fun _ _=>rfl)) aV))))) ⟨rfl,by decide +kernel,rfl,by decide +kernel,iw (aae.mpr ⟨rfl,(Z6 _)⟩),iV rfl,by walk_at "ffr",rfl⟩)) (a8 (vD 2 (z7 (i:=2) Cn.nd rfl rfl (ts:=["_law_k"]) (fr:=["_law_ring"]) (js:=[0]) (QG az (e8 (jO (ae 0) (by rfl) B.len_) az) (by rfl) B.range_) (fun _ _ _ _=>(cq (i:=0) (show ZZ (["_law_k","_law_ring"]:List Str) by decide +kernel) rfl (Sz rfl))) (fun _ _ _ _=>jT) (fun _ _ _ _=>(a3 IG ak (by rfl) (aw (a0 (ae 1) az (fun _ _=>rfl)) (aw (a0 (ae 1) (ae 0) (fun _ _=>rfl)) (aw (a0 (ae 1) (eC (ae 0) az) (fun _ _=>rfl)) aV))))) ⟨rfl,by decide +kernel,rfl,by decide +kernel,iw (aae.mpr ⟨rfl,(Z6 _)⟩),iV rfl,by walk_at "ffr",rfl⟩)) (bJ (cw (oW (Ew (ak.units) ip (ae 1) (by rfl)) (qo (Ew (ak.units) ip (ae 2) (by rfl))))))))),?_⟩);rintro as k aj ⟨ps,rfl,aj,cv,ag,ah⟩;refine cZ (r:=[.val (.lst (ps.map dP)),.no,.no]) rfl ?_;have big:75<=sizeLine:=by decide
 have e9:=cv.1;have len:(ps.map dP).length=ps.length:=YL ..;have gp:∀n,n<ps.length->da 2950 (bz ps n):=fun n h=>ag _ (mD h);refine mx (fun N aY=>?_) ?_
 ·refine⟨_,rfl,_,_,rfl,fun _=>rfl,_,rfl,f' ?_⟩;refine⟨_,rfl,_,rfl,_,_,rfl,rfl,_,rfl,fL (fun g=>by rw[len]at g;omega) (fun _=>?_)⟩;refine⟨_,rfl,_,rfl,by rw[len];omega,?_⟩;refine lG (f:=dP) (h:=fun _=>D.bl true) (fun p hm k ah=>⟨_,rfl,rfl,p,rfl,(ag p hm).pt,ah⟩) ?_;exact⟨_,rfl,fun d hd=>by obtain⟨_,_,e⟩:=ZJ.mp hd;exact e.symm,_,rfl,f' aY⟩
 refine eF (fun ρ=>ρ=[.val (.lst (ps.map dP)),.val (.lst ((ZX ps.length).map fun _=>D.bl true)),.no]) ?_ (fun N aY=>?_);rotate_left
 ·refine⟨_,rfl,_,rfl,_,rfl,by omega,by rw[len];omega,by rw[YL,abQ];omega,?_⟩;rw[len,show((ps.length:Nat):Int).toNat=ps.length by omega];refine lG (f:=fun t:Nat=>D.int t) (h:=fun _=>D.bl true) (fun i aB k ah=>?_) ⟨_,rfl,aY _ rfl⟩;have aB:=aar.mp aB;refine⟨_,rfl,_,rfl,_,_,rfl,rfl,_,_,_,.inr rfl,rfl,RN aB (by omega),?_⟩;refine⟨_,rfl,_,rfl,_,_,rfl,rfl,_,_,_,.inr rfl,rfl,Fn aB,?_⟩;refine⟨_,rfl,_,rfl,_,_,_,.inr rfl,rfl,lL aB,rfl,_,_,_,rfl,(gp _ (aa1 _ (by omega))).bp,(gp _ (aa1 _ (by omega))).bp,(gp _ aB).bp,?_⟩;rw[decide_eq_true (cv.turn aB)];exact ah
 rintro ρ rfl;refine eF (fun ρ=>ρ=[.val (.lst (ps.map dP)),.val (.lst ((ZX ps.length).map fun _=>D.bl true)),.val (.lst ((ZX (ps.length-2)).map fun _=>D.bl true))]) ?_ (fun N aY=>?_);rotate_left
 ·walk_at "w"
  have IH:∀t:Nat,t+1<ps.length->dO (ps.map dP) (1+(t:Int))=some (dP (bz ps (t+1))):=fun t h=>by
   rw[show(1+(t:Int))=((t+1:Nat):Int) by omega];exact lL h
  refine⟨⟨by decide,by decide,by rw[len];omega,by rw[len];omega⟩,by rw[YL,abQ,len];omega,?_⟩;rw[len,show((ps.length:Int)-1-1).toNat=ps.length-2 by omega];refine lG (f:=fun t:Nat=>D.int (1+t)) (h:=fun _=>D.bl true) (fun i aB k ah=>?_) ⟨_,rfl,aY _ rfl⟩;have aB:=aar.mp aB;refine⟨_,rfl,_,_,_,.inr rfl,rfl,lL (n:=0) (by omega),?_⟩;refine⟨_,rfl,_,rfl,_,_,_,.inr rfl,rfl,IH i (by omega),?_⟩;refine⟨_,rfl,_,rfl,_,_,rfl,rfl,_,_,_,.inr rfl,rfl,by rw[show(1+(i:Int)+1)=(1+((i+1:Nat):Int)) by omega];exact IH (i+1) (by omega),rfl,_,_,_,rfl,(gp 0 (by omega)).bp,(gp (i+1) (by omega)).bp,(gp (i+2) (by omega)).bp,?_⟩;rw[decide_eq_true (cv.fan (k:=i+1) (by omega) (by omega))];exact ah
 rintro ρ rfl
 have II:∀n:Nat,¬D.bl false∈(ZX n).map fun _=>D.bl true:=fun n h=>by
  obtain⟨_,_,e⟩:=ZJ.mp h;cases e
 have ed:∀n:Nat,∀e∈(ZX n).map (fun _=>D.bl true),has .B e=true:=fun n e h=>by
  obtain⟨_,_,rfl⟩:=ZJ.mp h;rfl
 refine⟨_,rfl,.B,_,.inl rfl,rfl,ed _,by decide,fun b af=>?_⟩
 have ep:b=false:=by
  cases b with
  | false=>rfl
  | true=>exact absurd (af.mp rfl) (II _)
 subst ep;refine⟨_,rfl,?_⟩;rw[if_pos rfl];refine⟨_,rfl,.B,_,.inl rfl,rfl,ed _,by decide,fun b af=>?_⟩
 have ep:b=false:=by
  cases b with
  | false=>rfl
  | true=>exact absurd (af.mp rfl) (II _)
 subst ep;exact ah
theorem Cp:cK ["_law_p","_law_q","_law_part_here","_law_many","_law_x","_law_y"] ["_law_p","_law_q","_law_part_here","_law_many"] (b4 yy):=by walk_at "sc"
def IJ  : FS:=fun as k=>∃(p q:P3)(t:Int),as=[.val (dP p),.val (dP q),.val (.int t),.val (.int 3)]/\(da 2000 p)/\(da 2000 q)/\(1<=t)/\(t<=2)/\k (.val (dP (iF p q t)))
theorem T4(B:cU mg)(F:cG K mg "_law_between" yy ["_law_p","_law_q","_law_part_here","_law_many"])(pN:aJ P w K mg base "_law_spot" ["_law_x","_law_y","_law_bottom"] 3 (aL K 3 t4)):
  aJ P w K mg base "_law_between" ["_law_p","_law_q","_law_part_here","_law_many"] 4 (aL K 4 IJ):=by
 refine di (lv:=3) F Cp rfl (fun f cdv A outer s H E ak=>⟨_,(a8 (cz (i:=4) Cp.nd rfl (Sz rfl) (eC (cy (cy (a0 (ae 0) az (fun _ _=>rfl)) (a0 (ae 1) az (fun _ _=>rfl))) (e8 (ae 3) (ae 2))) (cy (cy (a0 (ae 1) az (fun _ _=>rfl)) (a0 (ae 0) az (fun _ _=>rfl))) (ae 2)))) (a8 (cz (i:=5) Cp.nd rfl (Sz rfl) (eC (cy (cy (a0 (ae 0) az (fun _ _=>rfl)) (a0 (ae 1) az (fun _ _=>rfl))) (e8 (ae 3) (ae 2))) (cy (cy (a0 (ae 1) az (fun _ _=>rfl)) (a0 (ae 0) az (fun _ _=>rfl))) (ae 2)))) (bJ (cw (a3 pN ak (by rfl) (aw (ae 4) (aw (ae 5) (aw (cy (cy (a0 (ae 0) az (fun _ _=>rfl)) (a0 (ae 1) az (fun _ _=>rfl))) (ae 3)) aV)))))))),?_⟩);rintro as k aj ⟨p,q,t,rfl,ag,aA,t1,cE,ah⟩;refine cZ (r:=[.val (dP p),.val (dP q),.val (.int t),.val (.int 3),.no,.no]) rfl ?_;have aa:=ag.bp.a;have ab:=ag.bp.b;have aK:=ag.bp.c;have bo:=aA.bp.a;have df:=aA.bp.b;have fl:=aA.bp.c;have cR:0<p.2.2*q.2.2*3:=Ze (Ze ag.pt.1 aA.pt.1) (by decide);walk_at "w";exact⟨_,_,_,rfl,cR,by walk_at "bits",ah⟩
theorem pO:cK ["_law_bag_here","_law_ring","_law_i","_law_j","_law_p","_law_q"] ["_law_bag_here","_law_ring"] (b4 yz):=by walk_at "sc"
def IK  : FS:=fun as k=>∃(ps:List P3)(m:Nat),as=[.bag,.val (eh ps)]/\(eP ps)/\(∀x∈ps,da m x)/\(m<=700)/\(ps.length<=50)/\∀b9 rs,BF (2*m+3) (ps.length+1) ps b9 rs->k (.val (.tup [eh b9,eh rs]))
theorem T5(B:cU mg)(F:cG K mg "_law_cut" yz ["_law_bag_here","_law_ring"])(gE:aJ P w K mg base "_law_draw" ["_law_bag_here","_law_many"] 1 (aL K 2 (qs 400)))(IL:aJ P w K mg base "_law_between" ["_law_p","_law_q","_law_part_here","_law_many"] 4 (aL K 4 IJ)):
  aJ P w K mg base "_law_cut" ["_law_bag_here","_law_ring"] 5 (aL K 2 IK):=by
 refine di (lv:=4) F pO rfl (fun f cdv A outer s H E ak=>⟨_,(a8 (cz (i:=2) pO.nd rfl (Sz rfl) (a3 gE ak (by rfl) (gx 0 (aw (jO (ae 1) (by rfl) B.len_) aV)))) (a8 (cz (i:=3) pO.nd rfl (Sz rfl) (a3 gE ak (by rfl) (gx 0 (aw (e8 (jO (ae 1) (by rfl) B.len_) az) aV)))) (a8 (hL (dQ (R8 (dQ (fv (aR (ae 2) (aR (eC (ae 3) (Ef (lA (f:=fun i j=>decide (j<=i)) uK (ae 3) (ae 2) (dv _)) (by rfl) B.int_)) bR)))) (by rfl) B.sorted_)) (Pf (n:=2) rfl (c' (cq (i:=2) pO.nd rfl (Sz rfl)) (c' (cq (i:=3) pO.nd rfl (Sz rfl)) gc)))) (a8 (cz (i:=4) pO.nd rfl (Sz rfl) (a3 IL ak (by rfl) (aw (a0 (ae 1) (ae 2) (fun _ _=>rfl)) (aw (a0 (ae 1) (eC (ae 2) az) (fun _ _=>rfl)) (aw (eC az (a3 gE ak (by rfl) (gx 0 (aw az aV)))) (aw az aV)))))) (a8 (cz (i:=5) pO.nd rfl (Sz rfl) (a3 IL ak (by rfl) (aw (a0 (ae 1) (ae 3) (fun _ _=>rfl)) (aw (a0 (ae 1) (u9 (eC (ae 3) az) (jO (ae 1) (by rfl) B.len_)) (fun _ _=>rfl)) (aw (eC az (a3 gE ak (by rfl) (gx 0 (aw az aV)))) (aw az aV)))))) (bJ (cw (cY (aR (dQ (jR (dQ (jR (dQ (fv (aR (ae 4) bR))) (dQ (vg (ae 1) (qr (eC (ae 2) az)) (qr (eC (ae 3) az)))))) (dQ (fv (aR (ae 5) bR))))) (aR (dQ (jR (dQ (jR (dQ (jR (dQ (fv (aR (ae 5) bR))) (dQ (vg (ae 1) (qr (eC (ae 3) az)) vf)))) (dQ (vg (ae 1) vf (qr (eC (ae 2) az)))))) (dQ (fv (aR (ae 4) bR))))) bR)))))))))),?_⟩);rintro as k aj ⟨ps,m,rfl,cv,ag,hm,aj,ah⟩;refine cZ (r:=[.bag,.val (eh ps),.no,.no,.no,.no]) rfl ?_;have e9:=cv.1;have len:(ps.map dP).length=ps.length:=YL ..;have big:10000<=sizeLine:=by decide
 have gp:∀n,n<ps.length->da 2000 (bz ps n):=fun n h=>(ag _ (mD h)).mono (by omega);walk_at "w";intro a fE a1;walk_at "w";intro b dr a9;rw[len]at a1 a9;walk_at "w";refine .inr ⟨_,rfl,_,_,rfl,rfl,by show 2<=sizeLine;decide,[a,_],rfl,by show 2<64;decide,fun ns pm w'=>?_⟩;obtain⟨I,J,rfl,tF,xB⟩:=Sr fE a1 dr a9 pm w';clear pm w';refine⟨_,rfl,rfl,_,_,rfl,_,_,rfl,rfl,?_⟩;refine⟨_,rfl,_,rfl,_,_,_,.inr rfl,rfl,lL (show I<ps.length by omega),?_⟩;refine⟨_,rfl,_,rfl,_,_,rfl,rfl,_,_,_,.inr rfl,rfl,lL (n:=I+1) (show I+1<ps.length by omega),?_⟩;walk_at "w";intro c g7 aF;walk_at "w";refine⟨bz ps I,bz ps (I+1),1+c,rfl,gp _ (by omega),gp _ (by omega),by omega,by omega,?_⟩;dsimp only[bL];have cn:(J+1)%ps.length<ps.length:=aa1 _ (by omega)
 have am:dO (ps.map dP) (((J:Int)+1)%((ps.map dP).length:Int))=some (dP (bz ps ((J+1)%ps.length))):=by
  rw[len,show((J:Int)+1)%(ps.length:Int)=(((J+1)%ps.length:Nat):Int) by push_cast;rfl];exact lL cn
 refine⟨_,rfl,_,rfl,_,_,_,.inr rfl,rfl,lL (n:=J) xB,?_⟩;refine⟨_,rfl,_,rfl,_,_,rfl,rfl,?_⟩;refine⟨_,rfl,_,rfl,_,_,rfl,rfl,by rw[len];omega,_,_,_,.inr rfl,rfl,am,?_⟩;walk_at "w";intro d gP bN;walk_at "w";refine⟨bz ps J,bz ps ((J+1)%ps.length),1+d,rfl,gp _ (by omega),gp _ cn,by omega,by omega,?_⟩;dsimp only[bL];have ok:=Sn (t:=1+c) (u:=1+d) cv ag tF xB (by omega) (by omega) (by omega) (by omega);generalize iF (bz ps I) (bz ps (I+1)) (1+c)=M at ok ⊢;generalize iF (bz ps J) (bz ps ((J+1)%ps.length)) (1+d)=N at ok ⊢;have s1:=As (ps.map dP) (some ((I:Int)+1)) (some ((J:Int)+1));have s2:=As (ps.map dP) (some ((J:Int)+1)) none;have s3:=As (ps.map dP) none (some ((I:Int)+1));have ah:=ah _ _ ok;rw[Sv tF xB,Sw tF xB]at ah;walk_at "w";refine⟨by simp only[Zg,ZC,aaQ];omega,?_⟩;walk_at "w";refine⟨by simp only[Zg,ZC,aaQ];omega,?_⟩;walk_at "w";refine⟨by simp only[Zg,ZC,aaQ];omega,?_⟩;walk_at "w";refine⟨by simp only[Zg,ZC,aaQ];omega,?_⟩;walk_at "w";refine⟨by simp only[Zg,ZC,aaQ];omega,?_⟩;walk_at "w";exact ah
theorem pP:cK ["_law_bag_here","_law_ring","_law_cuts","_law_parts","_law_k","_law_made","_law_part_here","_law_flag","_law_x"] ["_law_bag_here","_law_ring","_law_cuts"] (b4 yA):=by walk_at "sc"
def IM  : FS:=fun as k=>∃(ps:List P3),as=[.bag,.val (eh ps),.val (.int 1)]/\(eP ps)/\(∀x∈ps,da 22 x)/\(ps.length<=4)/\∀sh:List Piece,(∀t∈sh,xv (iJ 22 1) 5 t)->sh.length<=2->fx (sh.map fun t=>t.1) [ps]->k (.val (.lst (sh.map dS)))
theorem T6(B:cU mg)(F:cG K mg "_law_sheet" yA ["_law_bag_here","_law_ring","_law_cuts"])(gE:aJ P w K mg base "_law_draw" ["_law_bag_here","_law_many"] 1 (aL K 2 (qs 400)))(T7:aJ P w K mg base "_law_cut" ["_law_bag_here","_law_ring"] 5 (aL K 2 IK))(pN:aJ P w K mg base "_law_spot" ["_law_x","_law_y","_law_bottom"] 3 (aL K 3 t4)):
  aJ P w K mg base "_law_sheet" ["_law_bag_here","_law_ring","_law_cuts"] 6 (aL K 3 IM):=by
 refine di (lv:=5) F pP rfl (fun f cdv A outer s H E ak=>⟨_,(a8 (lD (i:=3) pP.nd rfl (Sz rfl) (fv (aR (ae 1) bR))) (a8 (oY PassesOwn.never rfl (zL (a3 gE ak (by rfl) (gx 0 (aw (eC (ae 2) az) aV))) (by rfl) B.range_) (cq (i:=4) pP.nd rfl (Sz rfl)) (bJ (Sd 3 0 T7 ak (by rfl) (a3 gE ak (by rfl) (gx 0 (aw (M3 3 (by rfl) B.len_) aV)))))) (a8 (lD (i:=5) pP.nd rfl (Sz rfl) (fv bR)) (lC 3 (a8 (oY PassesOwn.never rfl (jQ (ae 3)) (cq (i:=6) pP.nd rfl (Sz rfl)) (a8 (cz (i:=7) pP.nd rfl (Sz rfl) (lA (f:=fun i j=>decide (i=j)) jh (a3 gE ak (by rfl) (gx 0 (aw az aV))) az (dv _))) (a8 (cz (i:=8) pP.nd rfl (Sz rfl) (e8 (a3 gE ak (by rfl) (gx 0 (aw az aV))) az)) (bJ (nB 5 (cY (aR (ae 6) (aR (ae 7) (aR (a3 pN ak (by rfl) (aw (ae 8) (aw (e8 (a3 gE ak (by rfl) (gx 0 (aw az aV))) az) (aw (eC az (a3 gE ak (by rfl) (gx 0 (aw az aV)))) aV)))) bR))))))))) (lC 5 (bJ (cw (ae 5))))))))),?_⟩);rintro as k aj ⟨ps,rfl,cv,ag,aj,ah⟩;refine cZ (r:=[.bag,.val (eh ps),.val (.int 1),.no,.no,.no,.no,.no,.no]) rfl ?_;have big:10000<=sizeLine:=by decide
 walk_at "w";intro c g7 aF;refine⟨_,rfl,by omega,by omega,?_⟩;refine EM (fun i ρ=>∃(rs:List (List P3))(v4:aI),ρ=[.bag,.val (eh ps),.val (.int 1),.own (.l (rs.map eh)),v4,.no,.no,.no,.no]/\pL 22 4 ps i rs) ⟨[ps],_,rfl,Tw cv ag aj⟩ ?_ (fun ρ h=>?_)
 ·rintro i ρ aB ⟨rs,v4,rfl,ok⟩ N aY;have Cc:=ok.ln;have len:(rs.map eh).length=rs.length:=YL ..;refine⟨rs.map eh,rfl,rfl,?_⟩;walk_at "w";intro n cR cc;dsimp only[bL];obtain⟨j,rfl⟩:∃j:Nat,n=j:=⟨n.toNat,by omega⟩;have bZ:j<rs.length:=by omega
  have ak:rs[j]?=some rs[j]:=ZT bZ;have hm:rs[j]∈rs:=acv bZ;generalize rs[j]=r at ak hm;have le:=ok.le r hm;refine⟨j,eh r,rfl,by omega,by rw[ZL,ak];rfl,?_⟩;refine⟨r,iJ 22 i,rfl,ok.cv r hm,ok.gp r hm,Gg (Ce (c:=1) (by omega)) (by decide),by omega,fun b9 us co=>?_⟩;refine⟨[eh b9,eh us],rfl,by rw[len];show rs.length+2<=_;omega,aY _ ⟨rs.eraseIdx j++[b9,us],.val (.int i),?_,ok.step ak co⟩⟩;rw[ZD,Hm];rfl
 obtain⟨rs,v4,rfl,ok⟩:=h;walk_at "w";have Cc:=ok.ln;refine qC (f:=eh) (rs:=rs) (done:=[]) (fun pre ρ=>∃(sh:List Piece)(v4 v6 hj fZ:aI),ρ=[.bag,.val (eh ps),.val (.int 1),.val (.lst (rs.map eh)),v4,.own (.l (sh.map dS)),v6,hj,fZ]/\(sh.map fun t=>t.1)=pre/\∀t∈sh,da 20 t.2.2) ⟨[],_,_,_,_,rfl,rfl,fun t bt=>absurd bt (by simp)⟩ ?_ (fun ρ h=>?_);rotate_left
 ·obtain⟨sh,v4,v6,hj,fZ,rfl,e,st⟩:=h;rw[Z5]at e;rw[<-e]at ok;obtain⟨aa,ab,aK⟩:=ok.sheet (c:=1) (by omega) (Ce (by omega)) st;exact⟨_,rfl,_,rfl,ah sh aa ab aK⟩
 rintro pre r rest ρ he ⟨sh,v4,v6,hj,fZ,rfl,e,st⟩ N aY;walk_at "w";intro f f0 f1;walk_at "w";intro x x0 bK;walk_at "w";intro y bX bE;walk_at "w";intro z z0 z1;walk_at "w";refine⟨x-40,y-40,1+z,rfl,by omega,by walk_at "bits",?_⟩;dsimp only[bL];have gb:=Tz (x:=x-40) (y:=y-40) (n:=1+z) (by omega) (by omega) (by omega) (by omega) (by omega) (by omega)
 have Zq:sh.length<=rs.length:=by
  have q:=congrArg ZS he;rw[Z5,Zg,ZC,<-e,YL]at q;omega
 refine⟨by show 3<=sizeLine;decide,by rw[YL];omega,aY _ ⟨sh++[(r,decide (f=0),cx (x-40) (y-40) (1+z))],_,_,_,_,by rw[ZD];rfl,by rw[ZD,e];rfl,fun t bt=>?_⟩⟩;rcases ZK.mp bt with bt|bt
 ·exact st t bt
 ·rw[ZG.mp bt];exact gb
theorem mW:cK ["_law_piece","_law_ring","_law_flag","_law_step","_law_sign","_law_made","_law_p","_law_x","_law_y"] ["_law_piece"] (b4 yB):=by walk_at "sc"
def Cq  : FS:=fun as k=>∃(s:Piece),as=[.val (dS s)]/\(s.1.length<=75)/\(∀p∈s.1,da 2600 p)/\(da 1200 s.2.2)/\k (.val (.lst ((fa s).map dP)))
theorem T8(B:cU mg)(F:cG K mg "_law_first" yB ["_law_piece"])(pN:aJ P w K mg base "_law_spot" ["_law_x","_law_y","_law_bottom"] 3 (aL K 3 t4)):
  aJ P w K mg base "_law_first" ["_law_piece"] 4 (aL K 1 Cq):=by
 refine di (lv:=3) F mW rfl (fun f cdv A outer s H E ak=>⟨_,(a8 (hL (ae 0) (gz (n:=3) rfl (c' (cq (i:=1) mW.nd rfl (Sz rfl)) (c' (cq (i:=2) mW.nd rfl (Sz rfl)) (c' (cq (i:=3) mW.nd rfl (Sz rfl)) gc))))) (a8 (cz (i:=4) mW.nd rfl (Sz rfl) (e8 az (cy az (Ef (ae 2) (by rfl) B.int_)))) (a8 (lD (i:=5) mW.nd rfl (Sz rfl) (fv bR)) (a8 (oY PassesOwn.never rfl (jQ (ae 1)) (cq (i:=6) mW.nd rfl (Sz rfl)) (a8 (cz (i:=7) mW.nd rfl (Sz rfl) (e8 (cy (a0 (ae 6) az (fun _ _=>rfl)) (a0 (ae 3) az (fun _ _=>rfl))) (cy (a0 (ae 3) az (fun _ _=>rfl)) (a0 (ae 6) az (fun _ _=>rfl))))) (a8 (cz (i:=8) mW.nd rfl (Sz rfl) (e8 (cy (a0 (ae 6) az (fun _ _=>rfl)) (a0 (ae 3) az (fun _ _=>rfl))) (cy (a0 (ae 3) az (fun _ _=>rfl)) (a0 (ae 6) az (fun _ _=>rfl))))) (bJ (nB 5 (a3 pN ak (by rfl) (aw (cy (ae 4) (ae 7)) (aw (cy (ae 4) (ae 8)) (aw (cy (a0 (ae 6) az (fun _ _=>rfl)) (a0 (ae 3) az (fun _ _=>rfl))) aV))))))))) (lC 5 (bJ (cw (ae 5)))))))),?_⟩);rintro as k aj ⟨s,rfl,aj,ag,aq,ah⟩;refine cZ (r:=[.val (dS s),.no,.no,.no,.no,.no,.no,.no,.no]) rfl ?_;have big:75<=sizeLine:=by decide
 have aa:=aq.bp.a;have ab:=aq.bp.b;have aK:=aq.bp.c;refine⟨_,rfl,_,rfl,rfl,_,_,rfl,_,_,rfl,_,_,rfl,rfl,?_⟩;walk_at "w"
 have vO:(if s.2.1=true then(1:Int)else 0)=0∨(if s.2.1=true then(1:Int)else 0)=1:=by
  cases s.2.1<;>simp
 have T9:intBits (if s.2.1=true then(1:Int)else 0)<=9:=by rcases vO with e|e<;>rw[e]<;>decide
 have hr:intBits (1-2*(if s.2.1=true then(1:Int)else 0))<=9:=by rcases vO with e|e<;>rw[e]<;>decide
 refine .inr ⟨s.2.1,rfl,2,_,rfl,rfl,⟨by decide,Gg T9 (by decide)⟩,1,_,rfl,rfl,?_⟩
 have ah:k (.val (.lst ((s.1.map fun p=>cx ((1-2*(if s.2.1=true then 1 else 0))*(p.1*s.2.2.2.2-s.2.2.1*p.2.2)) ((1-2*(if s.2.1=true then 1 else 0))*(p.2.1*s.2.2.2.2-s.2.2.2.1*p.2.2)) (p.2.2*s.2.2.2.2)).map dP))):=by
  rw[n6]at ah;have e:(s.1.map fun p=>cx ((1-2*(if s.2.1=true then 1 else 0))*(p.1*s.2.2.2.2-s.2.2.1*p.2.2)) ((1-2*(if s.2.1=true then 1 else 0))*(p.2.1*s.2.2.2.2-s.2.2.2.1*p.2.2)) (p.2.2*s.2.2.2.2))=s.1.map fun p=>if s.2.1=true then trn (nP (sld (trn s.2.2) p))else nP (sld (trn s.2.2) p):=aaK fun p hm=>RP (ag p hm).pt aq.pt s.2.1
  rw[e];exact ah
 dsimp only;generalize(1-2*(if s.2.1=true then(1:Int)else 0))=g at hr ah ⊢;refine cZ (r:=[.val (dS s),.val (.lst (s.1.map dP)),.val (.bl s.2.1),.val (dP s.2.2),.val (.int g),.no,.no,.no,.no]) rfl ?_;walk_at "wd";refine qC (f:=dP) (rs:=s.1) (done:=[]) (fun pre ρ=>∃v6 hj fZ,ρ=[.val (dS s),.val (.lst (s.1.map dP)),.val (.bl s.2.1),.val (dP s.2.2),.val (.int g),.own ((pre.map fun p=>cx (g*(p.1*s.2.2.2.2-s.2.2.1*p.2.2)) (g*(p.2.1*s.2.2.2.2-s.2.2.2.1*p.2.2)) (p.2.2*s.2.2.2.2)).map dP),v6,hj,fZ]) ⟨_,_,_,rfl⟩ ?_ (fun ρ h=>?_);rotate_left
 ·obtain⟨v6,hj,fZ,rfl⟩:=h;exact⟨_,rfl,_,rfl,ah⟩
 rintro pre p rest ρ he ⟨v6,hj,fZ,rfl⟩ N aY;have hm:p∈s.1:=by rw[Z5]at he;rw[he];simp
 have bo:=(ag p hm).bp.a;have df:=(ag p hm).bp.b;have fl:=(ag p hm).bp.c;have c1:pre.length<s.1.length:=by rw[Z5]at he;rw[he,Zg,ZC];omega
 walk_at "w";refine⟨_,_,_,rfl,Ze (ag p hm).pt.1 aq.pt.1,by walk_at "bits",?_⟩;dsimp only[bL];refine⟨by rw[YL,YL];omega,aY _ ⟨.val (dP p),.val (.int (p.1*s.2.2.2.2-s.2.2.1*p.2.2)),.val (.int (p.2.1*s.2.2.2.2-s.2.2.2.1*p.2.2)),?_⟩⟩;rw[ZD,ZD];rfl
theorem Cr:cK ["_law_olds","_law_news","_law_flag","_law_near"] ["_law_olds","_law_news"] (b4 yC):=by walk_at "sc"
def IP  : FS:=fun as k=>∃(os ns:List Piece),as=[.val (.lst (os.map dS)),.val (.lst (ns.map dS))]/\(os.length<=4)/\(ns.length<=150)/\(∀s∈os,hV s)/\(∀s∈ns,hV s)/\(∀b:Bool,fx ((ns.filter fun s=>s.2.1==b).map fa) ((os.filter fun s=>s.2.1==b).map fa))/\k (.val (.bl true))
theorem T'(B:cU mg)(F:cG K mg "_law_kept" yC ["_law_olds","_law_news"])(IQ:aJ P w K mg base "_law_first" ["_law_piece"] 4 (aL K 1 Cq))(Cs:aJ P w K mg base "_law_part" ["_law_rings","_law_others"] 5 (aL K 2 Cj)):
  aJ P w K mg base "_law_kept" ["_law_olds","_law_news"] 6 (aL K 2 IP):=by
 refine di (lv:=5) F Cr rfl (fun f cdv A outer s H E ak=>⟨_,(a8 (oY PassesOwn.never rfl (Ej (cY (aR ip (aR ip bR)))) (cq (i:=2) Cr.nd rfl (Zh rfl)) (a8 (vD 3 (z7 (i:=3) Cr.nd rfl rfl (ts:=["_law_piece"]) (fr:=["_law_flag"]) (js:=[2]) (jQ (ae 1)) (fun _ _ _ _=>(cq (i:=0) (show ZZ (["_law_piece","_law_flag"]:List Str) by decide +kernel) rfl (Sz rfl))) (fun _ _ _ _=>(EK (zV (ak.units) (a0 (ae 0) az (fun _ _=>rfl)) (ae 1) (dv _)))) (fun _ _ _ _=>(a3 IQ ak (by rfl) (aw (ae 0) aV))) ⟨rfl,by decide +kernel,rfl,by decide +kernel,iw (aae.mpr ⟨rfl,(Z6 _)⟩),iV rfl,by walk_at "ffr",rfl⟩)) (bJ (eM (hq (gY (a3 Cs ak (by rfl) (aw (ae 3) (aw (dQ (o6 (ts:=["_law_piece"]) (fr:=["_law_flag"]) (js:=[2]) (jQ (ae 0)) (fun _ _ _ _=>(cq (i:=0) (show ZZ (["_law_piece","_law_flag"]:List Str) by decide +kernel) rfl (Sz rfl))) (fun _ _ _ _=>(EK (zV (ak.units) (a0 (ae 0) az (fun _ _=>rfl)) (ae 1) (dv _)))) (fun _ _ _ _=>(a3 IQ ak (by rfl) (aw (ae 0) aV))) ⟨rfl,by decide +kernel,rfl,by decide +kernel,iw (aae.mpr ⟨rfl,(Z6 _)⟩),iV rfl,by walk_at "ffr",rfl⟩)) aV))))) (bJ (cw ip)) eX)))) (bJ (cw ip))),?_⟩);rintro as k aj ⟨os,ns,rfl,aE,aN,me,nj,bal,ah⟩;refine cZ (r:=[.val (.lst (os.map dS)),.val (.lst (ns.map dS)),.no,.no]) rfl ?_;have big:1000<=sizeLine:=by decide
 refine eF (fun ρ=>∃v2 ae,ρ=[.val (.lst (os.map dS)),.val (.lst (ns.map dS)),v2,ae]) ?_ (fun N aY=>?_)
 ·rintro ρ ⟨v2,ae,rfl⟩;exact ah
 refine⟨by show 2<=sizeLine;decide,_,rfl,?_⟩;refine qC (f:=D.bl) (rs:=[false,true]) (done:=[]) (fun _ ρ=>∃v2 ae,ρ=[.val (.lst (os.map dS)),.val (.lst (ns.map dS)),v2,ae]) ⟨_,_,rfl⟩ ?_ (fun ρ h=>aY _ h);clear aY;rintro pre b rest ρ he ⟨v2,ae,rfl⟩ N aY
 have flt:∀(L:List Piece),(∀s∈L,hV s)->L.length<=150->∀(k:List D->Prop),k (((L.filter fun s=>s.2.1==b).map fa).map eh)->gN (gy 0) (qn (r6 false (Ec (dA 0) (ql (D.int 1))) (dA 1))) (ku 1 Cq (eD (dA 0) ny)) (L.map dS) [.no,.val (.bl b)] k:=fun L eT aj k ah=>by
  refine AZ (f:=dS) (h:=fun s=>eh (fa s)) (P:=fun s=>s.2.1==b) (fun s hm k ah=>?_) (fun s hm k ah=>?_) (by rw[ZV]at ah;exact ah)
  ·refine⟨_,rfl,_,_,_,.inl rfl,rfl,rfl,_,rfl,.B,rfl,rfl,by decide,_,rfl,?_⟩;rw[RR];exact ah
  ·have pc:=eT s hm;exact⟨_,rfl,rfl,s,rfl,Gg pc.ln (by decide),fun p ag=>(pc.ps p ag),pc.st.mono (by decide),ah⟩
 have sz:∀(L:List Piece),(∀s∈L,hV s)->L.length<=150->((((L.filter fun s=>s.2.1==b).map fa)).map ZS).sum<=3600:=fun L eT aj=>by
  rw[ZV]
  have:=wZ (f:=ZS∘fa) (m:=24) (l:=L.filter fun s=>s.2.1==b) fun s hm=>by
   show(fa s).length<=24
   rw[G5];exact(eT s (aaU.mp hm).1).ln
  have bB:=abX (fun s:Piece=>s.2.1==b) L;omega
 have rg:∀(L:List Piece),(∀s∈L,hV s)->∀ps∈(L.filter fun s=>s.2.1==b).map fa,mM ps:=fun L eT ps ag=>by
  obtain⟨s,hm,rfl⟩:=ZJ.mp ag;exact(eT s (aaU.mp hm).1).first.1
 refine eF (fun ρ=>ρ=[.val (.lst (os.map dS)),.val (.lst (ns.map dS)),.val (.bl b),.val (.lst (((ns.filter fun s=>s.2.1==b).map fa).map eh))]) ?_ (fun xy mV=>?_);rotate_left
 ·refine⟨_,rfl,_,rfl,by rw[YL];omega,?_⟩;exact flt ns nj aN _ ⟨_,rfl,mV _ rfl⟩
 rintro ρ rfl;refine⟨_,rfl,_,rfl,_,rfl,by rw[YL];omega,?_⟩;refine flt os me (by omega) _ ?_
 have z1:((((os.filter fun s=>s.2.1==b).map fa)).map ZS).sum<=96:=by
  rw[ZV]
  have:=wZ (f:=ZS∘fa) (m:=24) (l:=os.filter fun s=>s.2.1==b) fun s hm=>by
   show(fa s).length<=24
   rw[G5];exact(me s (aaU.mp hm).1).ln
  have bB:=abX (fun s:Piece=>s.2.1==b) os;omega
 have aT:=sz ns nj aN;exact⟨rfl,_,_,rfl,rg ns nj,rg os me,by omega,bal b,_,rfl,f' (aY _ ⟨_,_,rfl⟩)⟩
theorem IS:cK ["_law_sheet_here","_law_ring","_law_piece"] ["_law_sheet_here","_law_ring"] (b4 yD):=by walk_at "sc"
def IT  : FS:=fun as k=>∃(sh:List Piece)(b9:List P3),as=[.val (.lst (sh.map dS)),.val (.lst (b9.map dP))]/\(sh.length<=150)/\(∀s∈sh,hV s)/\(mM b9)/\(fx (sh.map fun s=>s.1) [b9])/\k (.val (.bl true))
theorem Ua(B:cU mg)(F:cG K mg "_law_lies" yD ["_law_sheet_here","_law_ring"])(Ub:aJ P w K mg base "_law_is_bulging" ["_law_ring"] 4 (aL K 1 IF))(Co:aJ P w K mg base "_law_is_spot" ["_law_p"] 3 (aL K 1 Cm))(Cs:aJ P w K mg base "_law_part" ["_law_rings","_law_others"] 5 (aL K 2 Cj)):
  aJ P w K mg base "_law_lies" ["_law_sheet_here","_law_ring"] 6 (aL K 2 IT):=by
 refine di (lv:=5) F IS rfl (fun f cdv A outer s H E ak=>⟨_,(a8 (eM (hq (gY (mq (T:="list") (ae 0) (by rfl) B.isinstance_ (l7 (v:=.ty "list") (u:=.type "list") (by rfl) B.list_ (by decide +kernel) rfl) rfl rfl rfl))) (bJ (cw ip)) eX) (a8 (oY PassesOwn.never rfl (jQ (ae 0)) (cq (i:=2) IS.nd rfl (Sz rfl)) (a8 (eM (nt (w_or (hq (gY (mq (T:="tuple") (ae 2) (by rfl) B.isinstance_ (l7 (v:=.ty "tuple") (u:=.type "tuple") (by rfl) B.tuple_ (by decide +kernel) rfl) rfl rfl rfl))) (w_or (fu (f:=fun i j => !decide (i=j)) rQ (jO (ae 2) (by rfl) B.len_) az (dv _)) (oV (hq (gY (mq (T:="bool") (a0 (ae 2) az (fun _ _=>rfl)) (by rfl) B.isinstance_ (l7 (v:=.ty "bool") (u:=.type "bool") (by rfl) B.bool_ (by decide +kernel) rfl) rfl rfl rfl))))))) (bJ (cw ip)) eX) (bJ (eM (nt (w_or (hq (gY (a3 Ub ak (by rfl) (aw (a0 (ae 2) az (fun _ _=>rfl)) aV)))) (oV (hq (gY (a3 Co ak (by rfl) (aw (a0 (ae 2) az (fun _ _=>rfl)) aV))))))) (bJ (cw ip)) eX)))) (bJ (cw (a3 Cs ak (by rfl) (aw (dQ (o6 (ts:=["_law_piece"]) (fr:=[]) (js:=[]) (jQ (ae 0)) (fun _ _ _ _=>(cq (i:=0) (show ZZ (["_law_piece"]:List Str) by decide +kernel) rfl (Sz rfl))) (fun _ _ _ _=>jT) (fun _ _ _ _=>(a0 (ae 0) az (fun _ _=>rfl))) ⟨rfl,by decide +kernel,rfl,by decide +kernel,iw (Z6 _),iV rfl,by walk_at "ffr",rfl⟩)) (aw (dQ (fv (aR (ae 1) bR))) aV))))))),?_⟩);rintro as k aj ⟨sh,b9,rfl,aj,aq,aA,bal,ah⟩;refine cZ (r:=[.val (.lst (sh.map dS)),.val (.lst (b9.map dP)),.no]) rfl ?_;have big:1000<=sizeLine:=by decide
 refine mx (fun N aY=>?_) ?_
 ·exact⟨_,rfl,_,_,rfl,fun _=>rfl,_,rfl,f' aY⟩
 refine eF (fun ρ=>∃v2,ρ=[.val (.lst (sh.map dS)),.val (.lst (b9.map dP)),v2]) ?_ (fun N aY=>?_);rotate_left
 ·refine⟨_,rfl,_,rfl,?_⟩;refine qC (f:=dS) (rs:=sh) (done:=[]) (fun _ ρ=>∃v2,ρ=[.val (.lst (sh.map dS)),.val (.lst (b9.map dP)),v2]) ⟨_,rfl⟩ ?_ (fun ρ h=>aY _ h);rintro pre s rest ρ he ⟨v2,rfl⟩ N aY;have pc:=aq s (by rw[Z5]at he;rw[he];simp);refine mx (fun xy mV=>?_) ?_
  ·refine⟨_,rfl,_,_,rfl,fun _=>rfl,_,rfl,f' ?_⟩;refine⟨_,rfl,_,rfl,_,_,rfl,rfl,_,rfl,f' ?_⟩;exact⟨_,rfl,_,_,_,.inl rfl,rfl,rfl,_,_,rfl,fun _=>rfl,_,rfl,f' mV⟩
  refine⟨_,rfl,_,_,_,.inl rfl,rfl,rfl,rfl,s.1,rfl,Gg pc.ln (by decide),pc.cv,fun p ag=>(pc.ps p ag).mono (by decide),_,rfl,f' ?_⟩;exact⟨_,rfl,_,_,_,.inl rfl,rfl,rfl,rfl,s.2.2,rfl,pc.st.pt,_,rfl,f' (aY _ ⟨_,rfl⟩)⟩
 rintro ρ ⟨v2,rfl⟩;refine⟨_,rfl,_,rfl,by rw[YL];omega,?_⟩;refine lG (f:=dS) (h:=fun s=>eh s.1) (fun s hm k ah=>⟨_,rfl,_,_,_,.inl rfl,rfl,rfl,ah⟩) ?_;have gG:=wZ (f:=fun s:Piece=>s.1.length) (m:=24) (l:=sh) fun s hm=>(aq s hm).ln;refine⟨_,rfl,by show 1<=sizeLine;decide,rfl,sh.map (fun s=>s.1),[b9],by rw[ZV];rfl,?_,?_,?_,bal,ah⟩
 ·intro ps ag;obtain⟨s,hm,rfl⟩:=ZJ.mp ag;exact(aq s hm).rg
 ·intro ps ag;rw[ZG.mp ag];exact aA
 ·rw[ZV];have e:(sh.map (ZS∘fun s=>s.1)).sum=(sh.map fun s:Piece=>s.1.length).sum:=rfl;have:=aA.1;rw[e];simp only[ZE,aaq,Z3,aa6];omega
theorem Uc:cK ["_law_one","_law_other"] ["_law_one","_law_other"] (b4 yE):=by walk_at "sc"
def Ct  : FS:=fun as k=>∃(r s:bj),as=[.val (dR r),.val (dR s)]/\(0<r.2)/\(0<s.2)/\(intBits r.1<=1000)/\(intBits r.2<=1000)/\(intBits s.1<=1000)/\(intBits s.2<=1000)/\k (.val (dR (cA (r.1*s.1) (r.2*s.2))))
theorem Ud(B:cU mg)(F:cG K mg "_law_product" yE ["_law_one","_law_other"])(rn:aJ P w K mg base "_law_low" ["_law_top","_law_bottom"] 3 (aL K 2 xx)):
  aJ P w K mg base "_law_product" ["_law_one","_law_other"] 4 (aL K 2 Ct):=by
 refine di (lv:=3) F Uc rfl (fun f cdv A outer s H E ak=>⟨_,(bJ (cw (a3 rn ak (by rfl) (aw (cy (a0 (ae 0) az (fun _ _=>rfl)) (a0 (ae 1) az (fun _ _=>rfl))) (aw (cy (a0 (ae 0) az (fun _ _=>rfl)) (a0 (ae 1) az (fun _ _=>rfl))) aV))))),?_⟩);rintro as k aj ⟨r,s,rfl,aa,ab,a9,ba,dG,fw,ah⟩;refine cZ (r:=[.val (dR r),.val (dR s)]) rfl ?_;walk_at "w";exact⟨_,_,rfl,Ze aa ab,by walk_at "bits",ah⟩
theorem Ue:cK ["_law_one","_law_other"] ["_law_one","_law_other"] (b4 yF):=by walk_at "sc"
def Ug  : FS:=fun as k=>∃(r s:bj),as=[.val (dR r),.val (dR s)]/\(0<r.2)/\(0<s.2)/\(intBits r.1<=1000)/\(intBits r.2<=1000)/\(intBits s.1<=1000)/\(intBits s.2<=1000)/\k (.val (dR (cA (r.1*s.2-s.1*r.2) (r.2*s.2))))
theorem Uh(B:cU mg)(F:cG K mg "_law_less" yF ["_law_one","_law_other"])(rn:aJ P w K mg base "_law_low" ["_law_top","_law_bottom"] 3 (aL K 2 xx)):
  aJ P w K mg base "_law_less" ["_law_one","_law_other"] 4 (aL K 2 Ug):=by
 refine di (lv:=3) F Ue rfl (fun f cdv A outer s H E ak=>⟨_,(bJ (cw (a3 rn ak (by rfl) (aw (e8 (cy (a0 (ae 0) az (fun _ _=>rfl)) (a0 (ae 1) az (fun _ _=>rfl))) (cy (a0 (ae 1) az (fun _ _=>rfl)) (a0 (ae 0) az (fun _ _=>rfl)))) (aw (cy (a0 (ae 0) az (fun _ _=>rfl)) (a0 (ae 1) az (fun _ _=>rfl))) aV))))),?_⟩);rintro as k aj ⟨r,s,rfl,aa,ab,a9,ba,dG,fw,ah⟩;refine cZ (r:=[.val (dR r),.val (dR s)]) rfl ?_;walk_at "w";exact⟨_,_,rfl,Ze aa ab,by walk_at "bits",ah⟩
theorem Ui:cK ["_law_x","_law_y"] ["_law_x","_law_y"] (b4 yG):=by walk_at "sc"
def IU  : FS:=fun as k=>∃(r s:bj),as=[.val (dR r),.val (dR s)]/\(0<r.2)/\(0<s.2)/\(intBits r.1<=1000)/\(intBits r.2<=1000)/\(intBits s.1<=1000)/\(intBits s.2<=1000)/\k (.val (dP (cx (r.1*s.2) (s.1*r.2) (r.2*s.2))))
theorem Uj(B:cU mg)(F:cG K mg "_law_pin" yG ["_law_x","_law_y"])(pN:aJ P w K mg base "_law_spot" ["_law_x","_law_y","_law_bottom"] 3 (aL K 3 t4)):
  aJ P w K mg base "_law_pin" ["_law_x","_law_y"] 4 (aL K 2 IU):=by
 refine di (lv:=3) F Ui rfl (fun f cdv A outer s H E ak=>⟨_,(bJ (cw (a3 pN ak (by rfl) (aw (cy (a0 (ae 0) az (fun _ _=>rfl)) (a0 (ae 1) az (fun _ _=>rfl))) (aw (cy (a0 (ae 1) az (fun _ _=>rfl)) (a0 (ae 0) az (fun _ _=>rfl))) (aw (cy (a0 (ae 0) az (fun _ _=>rfl)) (a0 (ae 1) az (fun _ _=>rfl))) aV)))))),?_⟩);rintro as k aj ⟨r,s,rfl,aa,ab,a9,ba,dG,fw,ah⟩;refine cZ (r:=[.val (dR r),.val (dR s)]) rfl ?_;walk_at "w";exact⟨_,_,_,rfl,Ze aa ab,by walk_at "bits",ah⟩
theorem Uk:cK ["_law_wide","_law_high"] ["_law_wide","_law_high"] (b4 yH):=by walk_at "sc"
def Cu  : FS:=fun as k=>∃(w h:bj),as=[.val (dR w),.val (dR h)]/\(aO w.1 w.2)/\(aO h.1 h.2)/\(intBits w.1<=400)/\(intBits w.2<=400)/\(intBits h.1<=400)/\(intBits h.2<=400)/\k (.val (.lst ((iC w h).map dP)))
theorem Ul(B:cU mg)(F:cG K mg "_law_box" yH ["_law_wide","_law_high"])(Cv:aJ P w K mg base "_law_pin" ["_law_x","_law_y"] 4 (aL K 2 IU)):
  aJ P w K mg base "_law_box" ["_law_wide","_law_high"] 5 (aL K 2 Cu):=by
 refine di (lv:=4) F Uk rfl (fun f cdv A outer s H E ak=>⟨_,(bJ (cw (dQ (fv (aR (cY (aR az (aR az (aR az bR)))) (aR (a3 Cv ak (by rfl) (aw (ae 0) (aw (cY (aR az (aR az bR))) aV))) (aR (a3 Cv ak (by rfl) (aw (ae 0) (aw (ae 1) aV))) (aR (a3 Cv ak (by rfl) (aw (cY (aR az (aR az bR))) (aw (ae 1) aV))) bR)))))))),?_⟩);rintro as k aj ⟨w,h,rfl,bx,bB,a9,ba,dG,fw,ah⟩;refine cZ (r:=[.val (dR w),.val (dR h)]) rfl ?_;have ex:cx (w.1*1) (0*w.2) (w.2*1)=(w.1,0,w.2):=by rw[abG,aaw,abG];exact EW (Au bx)
 have fM:cx (0*h.2) (h.1*1) (1*h.2)=(0,h.1,h.2):=by rw[aaw,abG,acC];exact EW (Av bB)
 refine⟨by show 3<=sizeLine;decide,?_⟩;refine⟨_,rfl,by show 2<=sizeLine;decide,rfl,w,(0,1),rfl,bx.1,by decide,Gg a9 (by decide),Gg ba (by decide),by decide,by decide,?_⟩;dsimp only[bL];rw[ex];refine⟨_,rfl,_,rfl,rfl,w,h,rfl,bx.1,bB.1,Gg a9 (by decide),Gg ba (by decide),Gg dG (by decide),Gg fw (by decide),?_⟩;dsimp only[bL];refine⟨by show 2<=sizeLine;decide,_,rfl,rfl,(0,1),h,rfl,by decide,bB.1,by decide,by decide,Gg dG (by decide),Gg fw (by decide),?_⟩;dsimp only[bL];rw[fM];exact⟨by show 4<=sizeLine;decide,ah⟩
theorem Um:cK ["_law_found"] ["_law_found"] (b4 yJ):=by walk_at "sc"
def IV  : FS:=fun as k=>∃(r:bj),as=[.val (dR r)]/\(aO r.1 r.2)/\(0<r.1)/\k (.val (.bl true))
theorem Un(B:cU mg)(F:cG K mg "_law_is_low" yJ ["_law_found"])(xA:aJ P w K mg base "_law_whole" ["_law_found"] 2 (aL K 1 Ci))(kc:aJ P w K mg base "_law_measure" ["_law_one","_law_other"] 2 (aL K 2 rl)):
  aJ P w K mg base "_law_is_low" ["_law_found"] 3 (aL K 1 IV):=by
 refine di (lv:=2) F Um rfl (fun f cdv A outer s H E ak=>⟨_,(a8 (eM (nt (w_or (hq (gY (mq (T:="tuple") (ae 0) (by rfl) B.isinstance_ (l7 (v:=.ty "tuple") (u:=.type "tuple") (by rfl) B.tuple_ (by decide +kernel) rfl) rfl rfl rfl))) (w_or (fu (f:=fun i j => !decide (i=j)) rQ (jO (ae 0) (by rfl) B.len_) az (dv _)) (w_or (hq (gY (a3 xA ak (by rfl) (aw (a0 (ae 0) az (fun _ _=>rfl)) aV)))) (oV (hq (gY (a3 xA ak (by rfl) (aw (a0 (ae 0) az (fun _ _=>rfl)) aV))))))))) (bJ (cw ip)) eX) (bJ (cw (oW (lA (f:=fun i j=>decide (j<i)) p' (a0 (ae 0) az (fun _ _=>rfl)) az (dv _)) (oW (lA (f:=fun i j=>decide (j<i)) p' (a0 (ae 0) az (fun _ _=>rfl)) az (dv _)) (qo (lA (f:=fun i j=>decide (i=j)) jh (a3 kc ak (by rfl) (aw (a0 (ae 0) az (fun _ _=>rfl)) (aw (a0 (ae 0) az (fun _ _=>rfl)) aV))) az (dv _)))))))),?_⟩);rintro as k aj ⟨r,rfl,aj,h0,ah⟩;refine cZ (r:=[.val (dR r)]) rfl ?_;have lI:((YJ r.1 r.2:Nat):Int)=1:=by rw[aj.2];rfl
 have cR:=aj.1;refine mx (fun N aY=>?_) ?_
 ·refine⟨_,rfl,_,_,rfl,fun _=>rfl,_,rfl,f' ?_⟩;refine⟨_,rfl,_,rfl,_,_,rfl,rfl,_,rfl,f' ?_⟩;refine⟨_,rfl,_,_,_,.inl rfl,rfl,rfl,rfl,r.1,rfl,_,rfl,f' ?_⟩;exact⟨_,rfl,_,_,_,.inl rfl,rfl,rfl,rfl,r.2,rfl,_,rfl,f' aY⟩
 walk_at "w";rw[if_pos (decide_eq_true h0)];walk_at "w";rw[if_pos (decide_eq_true cR)];walk_at "w";refine⟨_,_,rfl,?_⟩;dsimp only[bL];rw[lI];exact⟨_,_,rfl,rfl,ah⟩
theorem Uo:cK ["_law_found"] ["_law_found"] (b4 yI):=by walk_at "sc"
def IW  : FS:=fun as k=>∃(w h:bj)(sh:List Piece),as=[.val (.tup [dR w,dR h,.lst (sh.map dS)])]/\(aO w.1 w.2)/\(aO h.1 h.2)/\(intBits w.1<=140)/\(intBits w.2<=140)/\(intBits h.1<=140)/\(intBits h.2<=140)/\(0<w.1)/\(0<h.1)/\(sh.length<=150)/\(∀s∈sh,hV s)/\(fx (sh.map fun s=>s.1) [iC w h])/\k (.val (.bl true))
theorem Up(B:cU mg)(F:cG K mg "_law_is_box" yI ["_law_found"])(IX:aJ P w K mg base "_law_is_low" ["_law_found"] 3 (aL K 1 IV))(Uq:aJ P w K mg base "_law_lies" ["_law_sheet_here","_law_ring"] 6 (aL K 2 IT))(Cw:aJ P w K mg base "_law_box" ["_law_wide","_law_high"] 5 (aL K 2 Cu)):
  aJ P w K mg base "_law_is_box" ["_law_found"] 7 (aL K 1 IW):=by
 refine di (lv:=6) F Uo rfl (fun f cdv A outer s H E ak=>⟨_,(a8 (eM (nt (w_or (hq (gY (mq (T:="tuple") (ae 0) (by rfl) B.isinstance_ (l7 (v:=.ty "tuple") (u:=.type "tuple") (by rfl) B.tuple_ (by decide +kernel) rfl) rfl rfl rfl))) (w_or (fu (f:=fun i j => !decide (i=j)) rQ (jO (ae 0) (by rfl) B.len_) az (dv _)) (w_or (hq (gY (a3 IX ak (by rfl) (aw (a0 (ae 0) az (fun _ _=>rfl)) aV)))) (oV (hq (gY (a3 IX ak (by rfl) (aw (a0 (ae 0) az (fun _ _=>rfl)) aV))))))))) (bJ (cw ip)) eX) (bJ (cw (a3 Uq ak (by rfl) (aw (a0 (ae 0) az (fun _ _=>rfl)) (aw (a3 Cw ak (by rfl) (aw (a0 (ae 0) az (fun _ _=>rfl)) (aw (a0 (ae 0) az (fun _ _=>rfl)) aV))) aV)))))),?_⟩);rintro as k aj ⟨w,h,sh,rfl,bx,bB,a9,ba,dG,fw,w0,h0,aj,aq,bal,ah⟩;refine cZ (r:=[.val (.tup [dR w,dR h,.lst (sh.map dS)])]) rfl ?_;refine mx (fun N aY=>?_) ?_
 ·refine⟨_,rfl,_,_,rfl,fun _=>rfl,_,rfl,f' ?_⟩;refine⟨_,rfl,_,rfl,_,_,rfl,rfl,_,rfl,f' ?_⟩;refine⟨_,rfl,_,_,_,.inl rfl,rfl,rfl,rfl,w,rfl,bx,w0,_,rfl,f' ?_⟩;exact⟨_,rfl,_,_,_,.inl rfl,rfl,rfl,rfl,h,rfl,bB,h0,_,rfl,f' aY⟩
 refine⟨_,rfl,_,_,_,.inl rfl,rfl,rfl,_,rfl,_,_,_,.inl rfl,rfl,rfl,_,rfl,_,_,_,.inl rfl,rfl,rfl,rfl,w,h,rfl,bx,bB,Gg a9 (by decide),Gg ba (by decide),Gg dG (by decide),Gg fw (by decide),?_⟩;dsimp only[bL];exact⟨rfl,sh,iC w h,rfl,aj,aq,RT ⟨bx,bB,w0,h0⟩ a9 ba dG fw,bal,ah⟩
theorem Ur:cK ["_law_bag_here"] ["_law_bag_here"] (b4 yK):=by walk_at "sc"
def IY  : FS:=fun as k =>  as=[.bag]/\∀r:bj,aO r.1 r.2->0<r.1->intBits r.1<=10->intBits r.2<=10->k (.val (dR r))
theorem Us(B:cU mg)(F:cG K mg "_law_size" yK ["_law_bag_here"])(gE:aJ P w K mg base "_law_draw" ["_law_bag_here","_law_many"] 1 (aL K 2 (qs 400)))(rn:aJ P w K mg base "_law_low" ["_law_top","_law_bottom"] 3 (aL K 2 xx)):
  aJ P w K mg base "_law_size" ["_law_bag_here"] 4 (aL K 1 IY):=by
 refine di (lv:=3) F Ur rfl (fun f cdv A outer s H E ak=>⟨_,(a8 (eM (fu (f:=fun i j=>decide (i=j)) jh (a3 gE ak (by rfl) (gx 0 (aw az aV))) az (dv _)) (bJ (cw (a3 rn ak (by rfl) (aw (eC az (a3 gE ak (by rfl) (gx 0 (aw az aV)))) (aw (eC az (a3 gE ak (by rfl) (gx 0 (aw az aV)))) aV))))) eX) (bJ (cw (a3 rn ak (by rfl) (aw (eC az (a3 gE ak (by rfl) (gx 0 (aw az aV)))) (aw (eC az (a3 gE ak (by rfl) (gx 0 (aw az aV)))) aV)))))),?_⟩);rintro as k aj ⟨rfl,ah⟩;refine cZ (r:=[.bag]) rfl ?_
 have fin:∀t b:Int,0<t->0<b->intBits t<=10->intBits b<=10->k (.val (dR (cA t b))):=fun t b t0 dr hQ v3=>by
  obtain⟨l,e,aW,bS⟩:=g6 (t:=t) (b:=b) (YM dr);refine ah _ l ?_ (d6 aW hQ) (d6 bS v3);have:0<(cA t b).1*b:=by rw[e];exact Ze t0 l.1
  exact aby this dr
 have ro:∀x:Int,0<=x->x<=1000->intBits x<=10:=fun x x0 bK=>intBits_le_iff.mpr (by show x.natAbs<1024;omega);walk_at "w";intro c g7 aF;walk_at "wd";refine fL (fun _=>?_) (fun _=>?_)
 ·walk_at "w";intro x x0 bK;walk_at "w";intro y bX bE;walk_at "w";exact⟨1+x,1+y,rfl,by omega,Gg (ro (1+y) (by omega) (by omega)) (by decide),fin _ _ (by omega) (by omega) (ro _ (by omega) (by omega)) (ro _ (by omega) (by omega))⟩
 ·walk_at "w";intro x x0 bK;walk_at "w";intro y bX bE;walk_at "w";exact⟨1+x,1+y,rfl,by omega,Gg (ro (1+y) (by omega) (by omega)) (by decide),fin _ _ (by omega) (by omega) (ro _ (by omega) (by omega)) (ro _ (by omega) (by omega))⟩
theorem IZ:cK ["_law_found","_law_wide","_law_high","_law_goal","_law_sheet_here","_law_due"] ["_law_found","_law_wide","_law_high","_law_goal","_law_sheet_here"] (b4 yL):=by walk_at "sc"
def I0  : FS:=fun as k=>∃(w h g H:bj)(sh S:List Piece),as=[.val (.tup [dR g,dR H,dSh S]),.val (dR w),.val (dR h),.val (dR g),.val (.lst (sh.map dS))]/\(aO w.1 w.2)/\(aO h.1 h.2)/\(aO g.1 g.2)/\(0<w.1)/\(0<h.1)/\(0<g.1)/\(intBits w.1<=30)/\(intBits w.2<=30)/\(intBits h.1<=60)/\(intBits h.2<=60)/\(intBits g.1<=30)/\(intBits g.2<=30)/\(H=dH w h g)/\(sh.length<=4)/\(∀s∈sh,hV s)/\(S.length<=150)/\(∀s∈S,hV s)/\(fx (S.map fun s=>s.1) [iC g H])/\(∀b:Bool,fx ((S.filter fun s=>s.2.1==b).map fa) ((sh.filter fun s=>s.2.1==b).map fa))/\k (.val (.bl true))
theorem Ut(B:cU mg)(F:cG K mg "_law_is_due" yL ["_law_found","_law_wide","_law_high","_law_goal","_law_sheet_here"])(t6:aJ P w K mg base "_law_product" ["_law_one","_law_other"] 4 (aL K 2 Ct))(Uu:aJ P w K mg base "_law_is_box" ["_law_found"] 7 (aL K 1 IW))(Uv:aJ P w K mg base "_law_kept" ["_law_olds","_law_news"] 6 (aL K 2 IP)):
  aJ P w K mg base "_law_is_due" ["_law_found","_law_wide","_law_high","_law_goal","_law_sheet_here"] 8 (aL K 5 I0):=by
 refine di (lv:=7) F IZ rfl (fun f cdv A outer s H E ak=>⟨_,(a8 (cz (i:=5) IZ.nd rfl (Sz rfl) (a3 t6 ak (by rfl) (aw (a3 t6 ak (by rfl) (aw (ae 1) (aw (ae 2) aV))) (aw (cY (aR (a0 (ae 3) az (fun _ _=>rfl)) (aR (a0 (ae 3) az (fun _ _=>rfl)) bR))) aV)))) (bJ (cw (oW (a3 Uu ak (by rfl) (aw (ae 0) aV)) (oW (Eu (ak.units) (Oz (ae 0) vf (qr az)) (cY (aR (ae 3) (aR (ae 5) bR))) (dv _)) (qo (a3 Uv ak (by rfl) (aw (ae 4) (aw (a0 (ae 0) az (fun _ _=>rfl)) aV))))))))),?_⟩);rintro as k aj ⟨w,h,g,H,sh,S,rfl,lw,lh,aQ,w0,h0,a7,aF,aH,bV,bP,b5,b6,gT,aj,aq,nl,ns,bal,kept,ah⟩;refine cZ (r:=[.val (.tup [dR g,dR H,dSh S]),.val (dR w),.val (dR h),.val (dR g),.val (.lst (sh.map dS)),.no]) rfl ?_;have m:∀{z:Int}{a b:Nat},intBits z<=a->a<=b->intBits z<=b:=fun h g=>Gg h g;obtain⟨b2,bN,b1,tZ⟩:=oh lw w0 lh h0 aQ a7 aF aH bV bP b5 b6;have fo:=tQ lw w0 lh h0 aQ a7 gT;rw[<-gT]at b2 bN b1;have lt:=g6 (t:=w.1*h.1) (b:=w.2*h.2) (YM (Ze lw.1 lh.1));have hQ:intBits (cA (w.1*h.1) (w.2*h.2)).1<=90/\intBits (cA (w.1*h.1) (w.2*h.2)).2<=90:=⟨d6 lt.2.2.1 (intBits_mul_le aF bV),d6 lt.2.2.2 (intBits_mul_le aH bP)⟩;refine eF (fun ρ=>ρ=[.val (.tup [dR g,dR H,dSh S]),.val (dR w),.val (dR h),.val (dR g),.val (.lst (sh.map dS)),.val (dR H)]) ?_ (fun N aY=>?_);rotate_left
 ·refine⟨_,rfl,_,rfl,rfl,w,h,rfl,lw.1,lh.1,m aF (by decide),m aH (by decide),m bV (by decide),m bP (by decide),?_⟩;dsimp only[bL];refine⟨_,rfl,_,_,_,.inl rfl,rfl,rfl,_,rfl,_,_,_,.inl rfl,rfl,rfl,show 2<=sizeLine by decide,rfl,cA (w.1*h.1) (w.2*h.2),(g.2,g.1),rfl,lt.1.1,a7,m hQ.1 (by decide),m hQ.2 (by decide),m b6 (by decide),m b5 (by decide),?_⟩;dsimp only[bL];exact aY _ (by rw[gT];rfl)
 rintro ρ rfl;refine⟨_,rfl,rfl,g,H,S,rfl,aQ,b2,m b5 (by decide),m b6 (by decide),m bN (by decide),m b1 (by decide),a7,fo,nl,ns,bal,?_⟩;dsimp only[bL];refine⟨true,rfl,?_⟩;rw[if_pos rfl]
 have gB:fU [dR g,dR H,dSh S] none (some 2)=[dR g,dR H]:=by
  rw[EN (by decide) (by show(2:Int)<=3;decide)];rfl
 refine⟨_,rfl,_,rfl,_,rfl,fun z=>absurd z.2 (by show ¬(HT.sIx 3 3 (some 2)=3);decide),?_⟩;rw[gB];refine⟨_,rfl,_,rfl,show 2<=sizeLine by decide,.T [.T [.I,.I],.T [.I,.I]],rfl,rfl,by decide,?_⟩;have vW:(if false=true then !eqD (.tup [dR g,dR H]) (.tup [dR g,dR H])else eqD (.tup [dR g,dR H]) (.tup [dR g,dR H]))=true:=by rw[if_neg (by decide)];exact mv _
 dsimp only;refine⟨_,rfl,?_⟩;rw[vW,if_pos rfl];refine⟨_,rfl,_,rfl,_,_,_,.inl rfl,rfl,rfl,rfl,sh,S,rfl,aj,nl,aq,ns,kept,?_⟩;exact ah
theorem xC:cK ["one","other"] ["one","other"] (b4 xU):=by walk_at "sc"
def pQ  : FS:=fun as k=>∃(a b:Int),as=[.val (.int a),.val (.int b)]/\k (.val (.int (YJ a b:Nat)))
theorem Uw(B:cU mg)(F:cG K mg "greatest_divisor" xU ["one","other"])  :
  aJ P w K mg base "greatest_divisor" ["one","other"] 2 (aL K 2 pQ):=by
 refine di (lv:=1) F xC rfl (fun f cdv A outer s H E ak=>⟨_,(a8 (cz (i:=0) xC.nd rfl (Sz rfl) (vc (ae 0) (by rfl) B.abs_)) (a8 (cz (i:=1) xC.nd rfl (Sz rfl) (vc (ae 1) (by rfl) B.abs_)) (a8 (Ei PassesOwn.never (fu (f:=fun i j => !decide (i=j)) rQ (ae 1) az (dv _)) (bJ (Eh (i:=0) (j:=1) rfl xC.nd rfl rfl (by decide) rfl rfl (aR (ae 1) (aR (u9 (ae 0) (ae 1)) bR)) rfl))) (bJ (cw (ae 0)))))),?_⟩);rintro as k aj ⟨a,b,rfl,ah⟩;refine cZ (r:=[.val (.int a),.val (.int b)]) rfl ?_;walk_at "wd";refine⟨fun m ρ=>∃(x y:Int),ρ=[.val (.int x),.val (.int y)]/\0<=x/\0<=y/\YJ x y=YJ a b/\m=y.toNat,⟨_,_,_,rfl,?_,?_,DT a b,rfl⟩,?_⟩
 ·split<;>omega
 ·split<;>omega
 rintro m ρ ⟨x,y,rfl,x0,bX,aD,rfl⟩;walk_at "wd";refine Mv (fun g=>?_) (fun g=>?_)
 ·have g:0<y:=by omega
  walk_at "wd";have m0:=aaA x (show y≠0 by omega);have bw:=aaL x g;exact⟨_,_,rfl,_,by omega,_,_,rfl,bX,m0,by rw[DS x0 g];exact aD,rfl⟩
 ·subst g;refine⟨_,rfl,?_⟩;rw[<-gcd_zero_left x0,aD];exact ah
theorem pR:cK ["one","other","a","b","n","c","d","m"] ["one","other"] (b4 x6):=by walk_at "sc"
def Cx  : FS:=fun as k=>∃(p q:P3),as=[.val (dP p),.val (dP q)]/\(cj 4000 p)/\(cj 4000 q)/\k (.val (dP (crs p q)))
theorem Ux(B:cU mg)(F:cG K mg "crossed" x6 ["one","other"])  :
  aJ P w K mg base "crossed" ["one","other"] 2 (aL K 2 Cx):=by
 refine di (lv:=1) F pR rfl (fun f cdv A outer s H E ak=>⟨_,(a8 (hL (ae 0) (gz (n:=3) rfl (c' (cq (i:=2) pR.nd rfl (Sz rfl)) (c' (cq (i:=3) pR.nd rfl (Sz rfl)) (c' (cq (i:=4) pR.nd rfl (Sz rfl)) gc))))) (a8 (hL (ae 1) (gz (n:=3) rfl (c' (cq (i:=5) pR.nd rfl (Sz rfl)) (c' (cq (i:=6) pR.nd rfl (Sz rfl)) (c' (cq (i:=7) pR.nd rfl (Sz rfl)) gc))))) (bJ (cw (cY (aR (e8 (cy (ae 3) (ae 7)) (cy (ae 4) (ae 6))) (aR (e8 (cy (ae 4) (ae 5)) (cy (ae 2) (ae 7))) (aR (e8 (cy (ae 2) (ae 6)) (cy (ae 3) (ae 5))) bR)))))))),?_⟩);rintro as k aj ⟨p,q,rfl,bp,gj,ah⟩;refine cZ (r:=[.val (dP p),.val (dP q),.no,.no,.no,.no,.no,.no]) rfl ?_;have aa:=bp.a;have ab:=bp.b;have aK:=bp.c;have bo:=gj.a;have df:=gj.b;have fl:=gj.c;walk_at "w";refine⟨_,_,rfl,_,_,rfl,_,_,rfl,rfl,?_⟩;walk_at "w";refine⟨_,_,rfl,_,_,rfl,_,_,rfl,rfl,?_⟩;walk_at "w";exact ah
theorem I1:cK ["line","p","turn"] ["line","p"] (b4 x7):=by walk_at "sc"
def I2  : FS:=fun as k=>∃(c r:P3),as=[.val (dP c),.val (dP r)]/\(cj 2000 c)/\(cj 2000 r)/\k (.val (.int (sg (c.1*r.1+c.2.1*r.2.1+c.2.2*r.2.2))))
theorem Uy(B:cU mg)(F:cG K mg "hand_of" x7 ["line","p"])  :
  aJ P w K mg base "hand_of" ["line","p"] 2 (aL K 2 I2):=by
 refine di (lv:=1) F I1 rfl (fun f cdv A outer s H E ak=>⟨_,(a8 (cz (i:=2) I1.nd rfl (Sz rfl) (eC (eC (cy (a0 (ae 0) az (fun _ _=>rfl)) (a0 (ae 1) az (fun _ _=>rfl))) (cy (a0 (ae 0) az (fun _ _=>rfl)) (a0 (ae 1) az (fun _ _=>rfl)))) (cy (a0 (ae 0) az (fun _ _=>rfl)) (a0 (ae 1) az (fun _ _=>rfl))))) (a8 (eM (fu (f:=fun i j=>decide (j<i)) p' (ae 2) az (dv _)) (bJ (cw az)) eX) (a8 (eM (fu (f:=fun i j=>decide (i<j)) lg (ae 2) az (dv _)) (bJ (cw (iq az))) eX) (bJ (cw az))))),?_⟩);rintro as k aj ⟨c,r,rfl,Cy,lZ,ah⟩;refine cZ (r:=[.val (dP c),.val (dP r),.no]) rfl ?_;have aa:=Cy.a;have ab:=Cy.b;have aK:=Cy.c;have bo:=lZ.a;have df:=lZ.b;have fl:=lZ.c;walk_at "wd";unfold sg at ah;refine fL (fun g=>?_) (fun g=>?_)
 ·rw[if_pos g]at ah;exact ah
 rw[if_neg g]at ah;walk_at "wd";refine fL (fun g2=>?_) (fun g2=>?_)
 ·rw[if_pos g2]at ah;walk_at "w";exact ah
 rw[if_neg g2]at ah;exact ah
theorem Cz:cK ["a","b","n","divisor"] ["a","b","n"] (b4 x3):=by walk_at "sc"
def I3  : FS:=fun as k=>∃(a b n:Int),as=[.val (.int a),.val (.int b),.val (.int n)]/\(n≠0)/\(intBits n<=9000)/\k (.val (dP (cx a b n)))
theorem Uz(B:cU mg)(F:cG K mg "point" x3 ["a","b","n"])(hW:aJ P w K mg base "greatest_divisor" ["one","other"] 2 (aL K 2 pQ)):
  aJ P w K mg base "point" ["a","b","n"] 3 (aL K 3 I3):=by
 refine di (lv:=2) F Cz rfl (fun f cdv A outer s H E ak=>⟨_,(a8 (eM (fu (f:=fun i j=>decide (i=j)) jh (ae 2) az (dv _)) (bJ zI) eX) (a8 (cz (i:=3) Cz.nd rfl (Sz rfl) (a3 hW ak (by rfl) (aw (a3 hW ak (by rfl) (aw (ae 2) (aw (ae 0) aV))) (aw (ae 1) aV)))) (a8 (eM (fu (f:=fun i j=>decide (i<j)) lg (ae 2) az (dv _)) (bJ (cz (i:=3) Cz.nd rfl (Sz rfl) (iq (ae 3)))) eX) (bJ (cw (cY (aR (dF (ae 0) (ae 3)) (aR (dF (ae 1) (ae 3)) (aR (dF (ae 2) (ae 3)) bR))))))))),?_⟩);rintro as k aj ⟨a,b,n,rfl,aN,bn,ah⟩;refine cZ (r:=[.val (.int a),.val (.int b),.val (.int n),.no]) rfl ?_;walk_at "wd";refine fL (fun g=>absurd g aN) (fun _=>?_);walk_at "w";refine⟨_,_,rfl,?_⟩;walk_at "w";refine⟨_,_,rfl,?_⟩;dsimp only[bL];have gp:=EP (a:=a) (b:=b) aN;have hy:=ER (a:=a) (b:=b) aN bn;rw[OC a b n];refine eF (fun ρ=>ρ=[.val (.int a),.val (.int b),.val (.int n),.val (.int (jo a b n))]) ?_ (fun N aY=>?_)
 ·rintro ρ rfl;have gP:jo a b n≠0:=by unfold jo;split<;>omega
  have db:intBits (jo a b n)<=9000:=by
   unfold jo;split
   ·exact intBits_neg_le hy
   ·exact hy
  walk_at "w";exact ah
 ·walk_at "wd";refine fL (fun g=>?_) (fun g=>?_)
  ·walk_at "w";refine aY _ ?_;unfold jo;rw[if_pos g];rfl
  ·refine aY _ ?_;unfold jo;rw[if_neg g];rfl
theorem xD:cK ["p","q","r","s","a","b","n"] ["p","q","r","s"] (b4 x8):=by walk_at "sc"
def I4  : FS:=fun as k=>∃(p q r s:P3),as=[.val (dP p),.val (dP q),.val (dP r),.val (dP s)]/\(cj 700 p)/\(cj 700 q)/\(cj 1990 r)/\(cj 1990 s)/\((crs (crs p q) (crs r s)).2.2≠0)/\k (.val (dP (nP (crs (crs p q) (crs r s)))))
theorem UA(B:cU mg)(F:cG K mg "meet" x8 ["p","q","r","s"])(t7:aJ P w K mg base "crossed" ["one","other"] 2 (aL K 2 Cx))(UB:aJ P w K mg base "point" ["a","b","n"] 3 (aL K 3 I3)):
  aJ P w K mg base "meet" ["p","q","r","s"] 4 (aL K 4 I4):=by
 refine di (lv:=3) F xD rfl (fun f cdv A outer s H E ak=>⟨_,(a8 (hL (a3 t7 ak (by rfl) (aw (a3 t7 ak (by rfl) (aw (ae 0) (aw (ae 1) aV))) (aw (a3 t7 ak (by rfl) (aw (ae 2) (aw (ae 3) aV))) aV))) (gz (n:=3) rfl (c' (cq (i:=4) xD.nd rfl (Sz rfl)) (c' (cq (i:=5) xD.nd rfl (Sz rfl)) (c' (cq (i:=6) xD.nd rfl (Sz rfl)) gc))))) (a8 (eM (fu (f:=fun i j=>decide (i=j)) jh (ae 6) az (dv _)) (bJ zI) eX) (bJ (cw (a3 UB ak (by rfl) (aw (ae 4) (aw (ae 5) (aw (ae 6) aV)))))))),?_⟩);rintro as k aj ⟨p,q,r,s,rfl,bp,gj,lZ,bs,aN,ah⟩;refine cZ (r:=[.val (dP p),.val (dP q),.val (dP r),.val (dP s),.no,.no,.no]) rfl ?_;have a9:=bp.crs gj;have ba:=lZ.crs bs;have dG:=a9.crs ba;refine⟨_,rfl,_,rfl,rfl,p,q,rfl,bp.mono (by decide),gj.mono (by decide),?_⟩;refine⟨_,rfl,_,rfl,rfl,r,s,rfl,lZ.mono (by decide),bs.mono (by decide),?_⟩;refine⟨rfl,_,_,rfl,a9.mono (by decide),ba.mono (by decide),?_⟩;generalize crs (crs p q) (crs r s)=m at *;obtain⟨x,y,z⟩:=m;have aN:z≠0:=aN;have UC:intBits z<=9000:=Gg dG.c (by decide);refine⟨_,rfl,rfl,_,_,rfl,_,_,rfl,_,_,rfl,rfl,?_⟩;walk_at "wd";refine fL (fun g=>absurd g aN) (fun _=>?_);exact⟨_,rfl,_,rfl,_,rfl,rfl,x,y,z,rfl,aN,UC,ah⟩
theorem mX:cK ["ring","p","q","line","corner","hands","left","right","place","after","between"] ["ring","p","q"] (b4 x9):=by walk_at "sc"
def I5  : FS:=fun as k=>∃(ps:List P3)(p q:P3),as=[.val (.lst (ps.map dP)),.val (dP p),.val (dP q)]/\(cj 300 p)/\(cj 300 q)/\(∀c∈ps,cj 1990 c/\aS c)/\(ps.length<=1000)/\k (.new (.tup [.lst ((keepR (ln (crs p q)) (aX (crs p q)) ps).map dP),.lst ((keepR (fun c => -ln (crs p q) c) (aX (crs p q)) ps).map dP)]))
theorem UD(B:cU mg)(F:cG K mg "cut_ring" x9 ["ring","p","q"])(t7:aJ P w K mg base "crossed" ["one","other"] 2 (aL K 2 Cx))(UE:aJ P w K mg base "hand_of" ["line","p"] 2 (aL K 2 I2))(UG:aJ P w K mg base "meet" ["p","q","r","s"] 4 (aL K 4 I4)):
  aJ P w K mg base "cut_ring" ["ring","p","q"] 5 (aL K 3 I5):=by
 refine sW (lv:=4) [true,false,false] F mX rfl (fun f cdv A outer s H E ak=>⟨_,(a8 (cz (i:=3) mX.nd rfl (Zh rfl) (a3 t7 ak (by rfl) (aw (ae 1) (aw (ae 2) aV)))) (a8 (vD 5 (Qq (i:=5) mX.nd rfl rfl (ts:=["corner"]) (fr:=["line"]) (js:=[3]) (jQ (ae 0)) (fun _ _ _ _=>(cq (i:=0) (show ZZ (["corner","line"]:List Str) by decide +kernel) rfl (Sz rfl))) (fun _ _ _ _=>jT) (fun _ _ _ _=>(a3 UE ak (by rfl) (aw (ae 1) (aw (ae 0) aV)))) ⟨rfl,by decide +kernel,rfl,by decide +kernel,iw (aae.mpr ⟨rfl,(Z6 _)⟩),iV rfl,by walk_at "ffr",rfl⟩)) (a8 (lD (i:=6) mX.nd rfl (Sz rfl) (fv bR)) (a8 (lD (i:=7) mX.nd rfl (Sz rfl) (fv bR)) (a8 (Qn 0 PassesOwn.never rfl (by rfl) B.enumerate_ (gz (n:=2) rfl (c' (cq (i:=8) mX.nd rfl (Sz rfl)) (c' (cq (i:=4) mX.nd rfl (Sz rfl)) gc))) (a8 (eM (fu (f:=fun i j=>decide (j<=i)) uK (a0 (ae 5) (ae 8) (fun _ _=>rfl)) az (dv _)) (bJ (nB 6 (ae 4))) eX) (a8 (eM (fu (f:=fun i j=>decide (i<=j)) Lf (a0 (ae 5) (ae 8) (fun _ _=>rfl)) az (dv _)) (bJ (nB 7 (ae 4))) eX) (a8 (cz (i:=9) mX.nd rfl (Sz rfl) (AL (u9 (eC (ae 8) az) (jO (ae 0) (by rfl) B.len_)))) (bJ (eM (fu (f:=fun i j=>decide (i<j)) lg (cy (a0 (ae 5) (ae 8) (fun _ _=>rfl)) (a0 (ae 5) (ae 9) (fun _ _=>rfl))) az (dv _)) (a8 (cz (i:=10) mX.nd rfl (Sz rfl) (AL (a3 UG ak (by rfl) (aw (ae 1) (aw (ae 2) (aw (ae 4) (aw (a0 (ae 0) (ae 9) (fun _ _=>rfl)) aV))))))) (a8 (nB 6 (ae 10)) (bJ (nB 7 (ae 10))))) eX)))))) (lC 7 (lC 6 (bJ (cw (cY (aR (Eb (Ex (ak.units) az (ae 5) (by rfl)) (ae 6) (dQ (fv bR))) (aR (Eb (Ex (ak.units) (iq az) (ae 5) (by rfl)) (ae 7) (dQ (fv bR))) bR)))))))))))),?_⟩);rintro as k aj ⟨ps,p,q,rfl,bp,gj,af,aj,ah⟩;refine⟨⟨trivial,rfl,rfl,trivial⟩,cZ (r:=[.new (.lst (ps.map dP)),.val (dP p),.val (dP q),.no,.no,.no,.no,.no,.no,.no,.no]) rfl ?_⟩;have e9:=(bp.crs gj).mono (show 300+300+1<=700 by decide);refine⟨_,rfl,_,rfl,rfl,p,q,rfl,bp.mono (by decide),gj.mono (by decide),?_⟩;dsimp only[bL];refine⟨_,rfl,_,rfl,by rw[YL];exact Gg aj (by decide),?_⟩;refine lG (f:=dP) (h:=fun c=>D.int (sg (ln (crs p q) c))) (fs:=[.val (dP (crs p q))]) (fun r ak fN CA=>⟨_,rfl,_,rfl,rfl,crs p q,r,rfl,e9.mono (by decide),(af r ak).1.mono (by decide),CA⟩) ⟨Gj _ _,?_⟩;refine⟨_,rfl,?_⟩;walk_at "wd";refine⟨PF _,?_⟩;have I6:ps.headD (ps.headD (0,0,1))=ps.headD (0,0,1):=by cases ps<;>rfl
 refine AI (f:=dP) (done:=[]) (fun pre ρ=>∃v4 fZ hB v10 rest,ps=pre++rest/\ρ=[.new (.lst (ps.map dP)),.val (dP p),.val (dP q),.val (dP (crs p q)),v4,.val (.lst (ps.map fun c=>D.int (sg (ln (crs p q) c)))),.own ((c9 (ln (crs p q)) (aX (crs p q)) pre (rest.headD (ps.headD (0,0,1)))).map dP),.own ((c9 (fun c => -ln (crs p q) c) (aX (crs p q)) pre (rest.headD (ps.headD (0,0,1)))).map dP),fZ,hB,v10]) ⟨_,_,_,_,ps,rfl,rfl⟩ ?_ ?_
 ·rintro pre c rest ρ eq ⟨v4,fZ,hB,v10,UH,d8,rfl⟩ N aY;have eq:ps=pre++c::rest:=by simpa using eq
  have q7:UH=c::rest:=by rw[d8]at eq;exact adn eq
  subst q7;have hc:c∈ps:=by rw[eq];simp
  have am:dO (ps.map fun c=>D.int (sg (ln (crs p q) c))) (pre.length:Int)=some (D.int (sg (ln (crs p q) c))):=by
   have:=Qd (h:=fun c=>D.int (sg (ln (crs p q) c))) (pre:=pre) (rest:=rest) (c:=c);rw[<-eq]at this;exact this
  have an:=FT (h:=fun c=>D.int (sg (ln (crs p q) c))) eq I6;have UI:=FT (h:=dP) eq I6;show r0 _ _ _ [.new (.lst (ps.map dP)),.val (dP p),.val (dP q),.val (dP (crs p q)),.val (dP c),.val (.lst (ps.map fun c=>D.int (sg (ln (crs p q) c)))),.own ((c9 (ln (crs p q)) (aX (crs p q)) pre c).map dP),.own ((c9 (fun c => -ln (crs p q) c) (aX (crs p q)) pre c).map dP),.val (.int pre.length),hB,v10]
  have e6:pre.length<=1000:=by rw[eq,Zg]at aj;omega
  have z1:=AK (f:=ln (crs p q)) (mt:=aX (crs p q)) (ps:=pre) (w:=c);have aT:=AK (f:=fun c => -ln (crs p q) c) (mt:=aX (crs p q)) (ps:=pre) (w:=c);have big:5000<=sizeLine:=by decide
  refine eF (fun ρ=>ρ=[.new (.lst (ps.map dP)),.val (dP p),.val (dP q),.val (dP (crs p q)),.val (dP c),.val (.lst (ps.map fun c=>D.int (sg (ln (crs p q) c)))),.own ((c9 (ln (crs p q)) (aX (crs p q)) pre c++kp (ln (crs p q)) c).map dP),.own ((c9 (fun c => -ln (crs p q) c) (aX (crs p q)) pre c).map dP),.val (.int pre.length),hB,v10]) ?_ (fun N aY=>?_);rotate_left
  ·refine⟨_,rfl,_,rfl,_,_,_,.inr rfl,rfl,am,_,_,rfl,rfl,_,rfl,fL (fun g=>?_) (fun g=>?_)⟩
   ·refine⟨_,rfl,_,rfl,by rw[YL];omega,aY _ ?_⟩;rw[FV (FQ.mp g),ZD];rfl
   ·refine aY _ ?_;rw[FW (fun z=>g (FQ.mpr z)),ZF]
  rintro ρ rfl;refine eF (fun ρ=>ρ=[.new (.lst (ps.map dP)),.val (dP p),.val (dP q),.val (dP (crs p q)),.val (dP c),.val (.lst (ps.map fun c=>D.int (sg (ln (crs p q) c)))),.own ((c9 (ln (crs p q)) (aX (crs p q)) pre c++kp (ln (crs p q)) c).map dP),.own ((c9 (fun c => -ln (crs p q) c) (aX (crs p q)) pre c++kp (fun c => -ln (crs p q) c) c).map dP),.val (.int pre.length),hB,v10]) ?_ (fun N aY=>?_);rotate_left
  ·refine⟨_,rfl,_,rfl,_,_,_,.inr rfl,rfl,am,_,_,rfl,rfl,_,rfl,fL (fun g=>?_) (fun g=>?_)⟩
   ·refine⟨_,rfl,_,rfl,by rw[YL];omega,aY _ ?_⟩;rw[FV (f:=fun c => -ln (crs p q) c) (c:=c) (by have:=FR.mp g;show 0 <= -ln (crs p q) c;omega),ZD (l₂:=[c])];rfl
   ·refine aY _ ?_;rw[FW (f:=fun c => -ln (crs p q) c) (c:=c) (fun z=>g (FR.mpr (by have z:0 <= -ln (crs p q) c:=z;omega))),ZF]
  rintro ρ rfl;have pos:(0:Int)<((ps.map dP).length:Int):=by rw[YL,eq,Zg,ZC];omega
  refine⟨_,rfl,_,_,rfl,rfl,_,rfl,_,rfl,_,_,rfl,rfl,pos,rfl,?_⟩;rw[YL];have bU:(kp (ln (crs p q)) c).length<=1:=by unfold kp;split<;>simp
  have cn:(kp (fun c => -ln (crs p q) c) c).length<=1:=by unfold kp;split<;>simp
  refine⟨_,rfl,_,rfl,_,_,_,.inr rfl,rfl,am,_,rfl,_,rfl,_,_,_,.inr rfl,rfl,an,_,_,rfl,rfl,⟨FU _,FU _⟩,_,_,rfl,rfl,_,rfl,fL (fun g=>?_) (fun g=>?_)⟩
  ·have lt:=FP.mp g
   have I7:rest.headD (ps.headD (0,0,1))∈ps:=by
    cases rest with
    | nil =>
     cases ps with
     | nil=>cases hc
     | cons a r=>exact Zd
    | cons d rest=>rw[eq];simp
   have pc:=(af c hc).2;have pn:=(af _ I7).2;refine⟨_,rfl,_,rfl,_,rfl,_,rfl,_,rfl,_,_,_,.inr rfl,rfl,UI,rfl,p,q,c,rest.headD (ps.headD (0,0,1)),rfl,bp.mono (by decide),gj.mono (by decide),(af c hc).1.mono (by decide),(af _ I7).1.mono (by decide),jt pc pn lt,?_⟩;dsimp only[bL];refine⟨rfl,?_⟩;rw[jr pc pn];refine⟨_,rfl,_,rfl,by rw[YL,Zg];omega,?_⟩;refine⟨_,rfl,_,rfl,by rw[YL,Zg];omega,aY _ ⟨.val (dP c),.val (.int pre.length),.val (.int (((pre.length:Int)+1)%(ps.length:Int))),.val (dP (aX (crs p q) c (rest.headD (ps.headD (0,0,1))))),rest,by rw[eq];simp,?_⟩⟩;rw[vV,vV,kM lt,kM (f:=fun c => -ln (crs p q) c) (by rw[aay];exact lt),ZD (l₂:=[aX (crs p q) c (rest.headD (ps.headD (0,0,1)))]),ZD (l₂:=[aX (crs p q) c (rest.headD (ps.headD (0,0,1)))])];rfl
  ·refine aY _ ⟨.val (dP c),.val (.int pre.length),.val (.int (((pre.length:Int)+1)%(ps.length:Int))),v10,rest,by rw[eq];simp,?_⟩;have nl:¬ln (crs p q) c*ln (crs p q) (rest.headD (ps.headD (0,0,1)))<0:=fun z=>g (FP.mpr z);rw[vV,vV,jW nl,jW (by rw[aay];exact nl),ZF,ZF];rfl
 rintro ρ ⟨v4,fZ,hB,v10,rest,d8,rfl⟩
 have q7:rest=[]:=by
  have:ps++[]=ps++rest:=by rw[ZF];exact d8
  exact(adn this).symm
 subst q7
 have CB:∀e∈ps.map (fun c=>D.int (sg (ln (crs p q) c))),has .I e=true:=fun e he=>by
  obtain⟨_,_,rfl⟩:=ZJ.mp he;rfl
 refine⟨_,rfl,_,rfl,?_⟩;refine⟨_,rfl,.I,_,.inl rfl,rfl,CB,by decide,fun a9 t2=>⟨_,rfl,?_⟩⟩;cases a9 with
 | true =>
  rw[wu (FX.mp (t2.mp rfl))]at ah;refine qt rfl ⟨_,rfl,?_⟩;refine⟨_,rfl,_,rfl,.I,_,.inl rfl,rfl,CB,by decide,fun ba pM=>⟨_,rfl,?_⟩⟩;cases ba with
  | true =>
   rw[wu (wx.mpr (vX.mp (pM.mp rfl)))]at ah;exact qt rfl ⟨_,rfl,(show 2<=sizeLine by decide),ah⟩
  | false =>
   rw[AY (fun z=>ZR (pM.mpr (vX.mpr (wx.mp z))))]at ah;exact qu rfl ⟨(show 0<=sizeLine by decide),(show 2<=sizeLine by decide),ah⟩
 | false =>
  rw[AY (fun z=>ZR (t2.mpr (FX.mpr z)))]at ah;refine qu rfl ⟨(show 0<=sizeLine by decide),?_⟩;refine⟨_,rfl,_,rfl,.I,_,.inl rfl,rfl,CB,by decide,fun ba pM=>⟨_,rfl,?_⟩⟩;cases ba with
  | true =>
   rw[wu (wx.mpr (vX.mp (pM.mp rfl)))]at ah;exact qt rfl ⟨_,rfl,(show 2<=sizeLine by decide),ah⟩
  | false =>
   rw[AY (fun z=>ZR (pM.mpr (vX.mpr (wx.mp z))))]at ah;exact qu rfl ⟨(show 0<=sizeLine by decide),(show 2<=sizeLine by decide),ah⟩
theorem ot:cK ["sheet","p","q","left","right","ring","is_turned","step","left_ring","right_ring"] ["sheet","p","q"] (b4 x'):=by walk_at "sc"
def xE  : FS:=fun as k=>∃(sh:List Piece)(p q:P3),as=[.val (.lst (sh.map dS)),.val (dP p),.val (dP q)]/\(cj 300 p)/\(cj 300 q)/\(∀s∈sh,∀c∈s.1,cj 1990 c/\aS c)/\(∀s∈sh,s.1.length<=1000)/\(sh.length<=1000)/\k (.new (.tup [.lst ((cf (ln (crs p q)) (aX (crs p q)) sh).map dS),.lst ((cf (fun c => -ln (crs p q) c) (aX (crs p q)) sh).map dS)]))
theorem UJ(B:cU mg)(F:cG K mg "cut_sheet" x' ["sheet","p","q"])(UK:aJ P w K mg base "cut_ring" ["ring","p","q"] 5 (aL K 3 I5)):
  aJ P w K mg base "cut_sheet" ["sheet","p","q"] 6 (aL K 3 xE):=by
 refine sW (lv:=5) [true,false,false] F ot rfl (fun f cdv A outer s H E ak=>⟨_,(a8 (lD (i:=3) ot.nd rfl (Sz rfl) (fv bR)) (a8 (lD (i:=4) ot.nd rfl (Sz rfl) (fv bR)) (a8 (F6 0 PassesOwn.never rfl (F5 (n:=3) rfl (qL (F3 (i:=5) ot.nd rfl (Sz rfl)) (qL (v9 (i:=6) ot.nd rfl (Sz rfl)) (qL (v9 (i:=7) ot.nd rfl (Sz rfl)) F4)))) (a8 (hL (v7 (v5 (su UK ak (by rfl) (aw (ae 5) (aw (ae 1) (aw (ae 2) aV)))))) (gz (n:=2) rfl (c' (cq (i:=8) ot.nd rfl (Sz rfl)) (c' (cq (i:=9) ot.nd rfl (Sz rfl)) gc)))) (a8 (eM (F7 (ae 8)) (bJ (nB 3 (cY (aR (ae 8) (aR (ae 6) (aR (ae 7) bR)))))) eX) (bJ (eM (F7 (ae 9)) (bJ (nB 4 (cY (aR (ae 9) (aR (ae 6) (aR (ae 7) bR)))))) eX))))) (lC 4 (lC 3 (bJ (cw (cY (aR (ae 3) (aR (ae 4) bR)))))))))),?_⟩);rintro as k aj ⟨sh,p,q,rfl,bp,gj,af,t8,aj,ah⟩;refine⟨⟨trivial,rfl,rfl,trivial⟩,cZ (r:=[.new (.lst (sh.map dS)),.val (dP p),.val (dP q),.no,.no,.no,.no,.no,.no,.no]) rfl ?_⟩;have big:5000<=sizeLine:=by decide
 walk_at "wd";refine Gh (done:=[]) (fun pre ρ=>∃hA v6 hj fZ hB,ρ=[.new (.lst (sh.map dS)),.val (dP p),.val (dP q),.own ((cf (ln (crs p q)) (aX (crs p q)) pre).map dS),.own ((cf (fun c => -ln (crs p q) c) (aX (crs p q)) pre).map dS),hA,v6,hj,fZ,hB]) ⟨_,_,_,_,_,rfl⟩ ?_ ?_
 ·rintro pre x rest ρ mf ⟨hA,v6,hj,fZ,hB,rfl⟩ N aY;have mf:sh=pre++x::rest:=by simpa using mf
  have aC:x∈sh:=by rw[mf];simp
  have e6:pre.length<1000:=by have:=congrArg ZS mf;simp at this;omega
  have aF:=kP (f:=ln (crs p q)) (mt:=aX (crs p q)) pre;have aH:=kP (f:=fun c => -ln (crs p q) c) (mt:=aX (crs p q)) pre;refine⟨_,rfl,_,rfl,_,rfl,rfl,x.1,p,q,rfl,bp,gj,af x aC,t8 x aC,_,rfl,?_⟩;refine⟨_,rfl,rfl,_,_,rfl,_,_,rfl,rfl,?_⟩;show r0 (zH (AN (dA 8)) (zN 3 (va (ml (dA 8) (ml (dA 6) (ml (dA 7) rW))))) zF) (zH (AN (dA 9)) (zN 4 (va (ml (dA 9) (ml (dA 6) (ml (dA 7) rW))))) zF) _ [.new (.lst (sh.map dS)),.val (dP p),.val (dP q),.own ((cf (ln (crs p q)) (aX (crs p q)) pre).map dS),.own ((cf (fun c => -ln (crs p q) c) (aX (crs p q)) pre).map dS),.new (.lst (x.1.map dP)),.val (.bl x.2.1),.val (dP x.2.2),.val (.lst ((keepR (ln (crs p q)) (aX (crs p q)) x.1).map dP)),.val (.lst ((keepR (fun c => -ln (crs p q) c) (aX (crs p q)) x.1).map dP))]
  refine eF (fun ρ=>ρ=[.new (.lst (sh.map dS)),.val (dP p),.val (dP q),.own ((cf (ln (crs p q)) (aX (crs p q)) (pre++[x])).map dS),.own ((cf (fun c => -ln (crs p q) c) (aX (crs p q)) pre).map dS),.new (.lst (x.1.map dP)),.val (.bl x.2.1),.val (dP x.2.2),.val (.lst ((keepR (ln (crs p q)) (aX (crs p q)) x.1).map dP)),.val (.lst ((keepR (fun c => -ln (crs p q) c) (aX (crs p q)) x.1).map dP))]) ?_ (fun N aY=>?_);rotate_left
  ·refine⟨_,rfl,_,rfl,?_⟩;cases c:(keepR (ln (crs p q)) (aX (crs p q)) x.1).isEmpty with
   | false =>
    refine qt (by rw[ab8,c];rfl) ?_;refine⟨_,rfl,_,rfl,_,rfl,_,rfl,by show 3<=sizeLine;decide,by rw[YL];omega,aY _ ?_⟩;rw[sY,wm c,ZD];rfl
   | true =>
    refine qu (by rw[ab8,c];rfl) (aY _ ?_);rw[sY,wo c,ZF]
  rintro ρ rfl;refine⟨_,rfl,_,rfl,?_⟩;cases c:(keepR (fun c => -ln (crs p q) c) (aX (crs p q)) x.1).isEmpty with
  | false =>
   refine qt (by rw[ab8,c];rfl) ?_;refine⟨_,rfl,_,rfl,_,rfl,_,rfl,by show 3<=sizeLine;decide,by rw[YL];omega,aY _ ⟨.new (.lst (x.1.map dP)),.val (.bl x.2.1),.val (dP x.2.2),.val (.lst ((keepR (ln (crs p q)) (aX (crs p q)) x.1).map dP)),.val (.lst ((keepR (fun c => -ln (crs p q) c) (aX (crs p q)) x.1).map dP)),?_⟩⟩;rw[sY (f:=fun c => -ln (crs p q) c),wm c,ZD (l₂:=[(keepR (fun c => -ln (crs p q) c) (aX (crs p q)) x.1,x.2)])];rfl
  | true =>
   refine qu (by rw[ab8,c];rfl) (aY _ ⟨.new (.lst (x.1.map dP)),.val (.bl x.2.1),.val (dP x.2.2),.val (.lst ((keepR (ln (crs p q)) (aX (crs p q)) x.1).map dP)),.val (.lst ((keepR (fun c => -ln (crs p q) c) (aX (crs p q)) x.1).map dP)),?_⟩);rw[sY (f:=fun c => -ln (crs p q) c),wo c,ZF]
 ·rintro ρ ⟨hA,v6,hj,fZ,hB,rfl⟩;refine⟨_,rfl,_,rfl,?_⟩;exact⟨_,rfl,_,rfl,by show 2<=sizeLine;decide,ah⟩
theorem I8:cK ["x","y","shared"] ["x","y"] (b4 x4):=by walk_at "sc"
def ou  : FS:=fun as k=>∃(d5 xF:D)(x y u v:Int),as=[.val d5,.val xF]/\(sv d5=some [.int x,.int y])/\(sv xF=some [.int u,.int v])/\(aO x y)/\(aO u v)/\(intBits x<=4000)/\(intBits y<=4000)/\(intBits u<=4000)/\(intBits v<=4000)/\k (.val (dP (cx (x*v) (u*y) (y*v))))
theorem UL(B:cU mg)(F:cG K mg "at" x4 ["x","y"])(hW:aJ P w K mg base "greatest_divisor" ["one","other"] 2 (aL K 2 pQ)):
  aJ P w K mg base "at" ["x","y"] 3 (aL K 2 ou):=by
 refine di (lv:=2) F I8 rfl (fun f cdv A outer s H E ak=>⟨_,(a8 (cz (i:=2) I8.nd rfl (Sz rfl) (a3 hW ak (by rfl) (aw (h5 (ae 0) az (fun _ _=>rfl)) (aw (h5 (ae 1) az (fun _ _=>rfl)) aV)))) (bJ (cw (cY (aR (cy (h5 (ae 0) az (fun _ _=>rfl)) (dF (h5 (ae 1) az (fun _ _=>rfl)) (ae 2))) (aR (cy (h5 (ae 1) az (fun _ _=>rfl)) (dF (h5 (ae 0) az (fun _ _=>rfl)) (ae 2))) (aR (cy (dF (h5 (ae 0) az (fun _ _=>rfl)) (ae 2)) (h5 (ae 1) az (fun _ _=>rfl))) bR))))))),?_⟩);rintro as k aj ⟨d5,xF,x,y,u,v,rfl,aC,a6,bx,bB,i6,hb,iA,bv,ah⟩;refine cZ (r:=[.val d5,.val xF,.no]) rfl ?_;have v0:v≠0:=YM bB.1;have sp:=nk (t:=y) (b:=v) v0;have f6:=kG (a:=y) (b:=v) v0 bv;rw[<-Pu bx bB]at ah;refine⟨_,rfl,_,_,_,aC,rfl,rfl,_,rfl,_,_,_,a6,rfl,rfl,rfl,_,_,rfl,?_⟩;dsimp only[bL];generalize((YJ y v:Nat):Int)=s at *;have a9:intBits (v.fdiv s)<=4000:=d6 (natAbs_fdiv_le _ _) bv;have ba:intBits (y.fdiv s)<=4000:=d6 (natAbs_fdiv_le _ _) hb;have hd:∀z:Int,intBits s<=9000->qf z s:=fun z _=>⟨by omega,Gg f6 (by decide)⟩;refine⟨_,rfl,_,_,_,aC,rfl,rfl,_,rfl,_,_,_,a6,rfl,rfl,_,rfl,_,_,rfl,rfl,hd _ (Gg f6 (by decide)),_,_,rfl,rfl,⟨by walk_at "bits",by walk_at "bits"⟩,?_⟩;refine⟨_,rfl,_,_,_,a6,rfl,rfl,_,rfl,_,_,_,aC,rfl,rfl,_,rfl,_,_,rfl,rfl,hd _ (Gg f6 (by decide)),_,_,rfl,rfl,⟨by walk_at "bits",by walk_at "bits"⟩,?_⟩;refine⟨_,rfl,_,_,_,aC,rfl,rfl,_,rfl,_,_,rfl,rfl,hd _ (Gg f6 (by decide)),_,rfl,_,_,_,a6,rfl,rfl,_,_,rfl,rfl,⟨by walk_at "bits",by walk_at "bits"⟩,by show 3<=sizeLine;decide,?_⟩;exact ah
theorem UM:cK ["sheet","place"] ["sheet","place"] (b4 ya):=by walk_at "sc"
def t9  : FS:=fun as k=>∃(sh:List Piece)(x:bj),as=[.val (.lst (sh.map dS)),.val (dR x)]/\(aO x.1 x.2)/\(intBits x.1<=80)/\(intBits x.2<=80)/\(∀s∈sh,∀c∈s.1,cj 1990 c/\aS c)/\(∀s∈sh,s.1.length<=1000)/\(sh.length<=1000)/\k (.new (.tup [.lst ((cf (ln (dW x)) (aX (dW x)) sh).map dS),.lst ((cf (fun c => -ln (dW x) c) (aX (dW x)) sh).map dS)]))
theorem UN(B:cU mg)(F:cG K mg "cut_upright" ya ["sheet","place"])(ua:aJ P w K mg base "cut_sheet" ["sheet","p","q"] 6 (aL K 3 xE))(hC:aJ P w K mg base "at" ["x","y"] 3 (aL K 2 ou)):
  aJ P w K mg base "cut_upright" ["sheet","place"] 7 (aL K 2 t9):=by
 refine sW (lv:=6) [true,false] F UM rfl (fun f cdv A outer s H E ak=>⟨_,(bJ (cw (v7 (v5 (su ua ak (by rfl) (aw (ae 0) (aw (a3 hC ak (by rfl) (aw (ae 1) (aw (cY (aR az (aR az bR))) aV))) (aw (a3 hC ak (by rfl) (aw (ae 1) (aw (cY (aR az (aR az bR))) aV))) aV)))))))),?_⟩);rintro as k aj ⟨sh,x,rfl,bx,a9,ba,af,t8,aj,ah⟩;refine⟨⟨trivial,rfl,trivial⟩,cZ (r:=[.new (.lst (sh.map dS)),.val (dR x)]) rfl ?_⟩;have eG:aO 0 1:=⟨by decide,by decide⟩;have gC:aO 1 1:=⟨by decide,by decide⟩;have eW:intBits 0<=4000:=by decide
 have mK:intBits 1<=4000:=by decide
 have j0:intBits x.1<=4000:=Gg a9 (by decide);have mn:intBits x.2<=4000:=Gg ba (by decide);have g1:cj 300 (cx (x.1*1) (0*x.2) (x.2*1)):=(j3 (n:=10) a9 ba (by decide) (by decide) bx eG).mono (by decide);have g2:cj 300 (cx (x.1*1) (1*x.2) (x.2*1)):=(j3 (n:=10) a9 ba (by decide) (by decide) bx gC).mono (by decide);refine⟨_,rfl,_,rfl,by show 2<=sizeLine;decide,rfl,_,_,x.1,x.2,0,1,rfl,rfl,rfl,bx,eG,j0,mn,eW,mK,?_⟩;dsimp only[bL];refine⟨_,rfl,by show 2<=sizeLine;decide,rfl,_,_,x.1,x.2,1,1,rfl,rfl,rfl,bx,gC,j0,mn,mK,mK,?_⟩;dsimp only[bL];exact⟨rfl,sh,_,_,rfl,g1,g2,af,t8,aj,_,rfl,ah⟩
theorem CC:cK ["sheet","height","above","below"] ["sheet","height"] (b4 yb):=by walk_at "sc"
def xG  : FS:=fun as k=>∃(sh:List Piece)(x:bj),as=[.val (.lst (sh.map dS)),.val (dR x)]/\(aO x.1 x.2)/\(intBits x.1<=80)/\(intBits x.2<=80)/\(∀s∈sh,∀c∈s.1,cj 1990 c/\aS c)/\(∀s∈sh,s.1.length<=1000)/\(sh.length<=1000)/\k (.new (.tup [.lst ((cf (fun c => -ln (dX x) c) (aX (dX x)) sh).map dS),.lst ((cf (ln (dX x)) (aX (dX x)) sh).map dS)]))
theorem UO(B:cU mg)(F:cG K mg "cut_level" yb ["sheet","height"])(ua:aJ P w K mg base "cut_sheet" ["sheet","p","q"] 6 (aL K 3 xE))(hC:aJ P w K mg base "at" ["x","y"] 3 (aL K 2 ou)):
  aJ P w K mg base "cut_level" ["sheet","height"] 7 (aL K 2 xG):=by
 refine sW (lv:=6) [true,false] F CC rfl (fun f cdv A outer s H E ak=>⟨_,(a8 (hL (v7 (v5 (su ua ak (by rfl) (aw (ae 0) (aw (a3 hC ak (by rfl) (aw (cY (aR az (aR az bR))) (aw (ae 1) aV))) (aw (a3 hC ak (by rfl) (aw (cY (aR az (aR az bR))) (aw (ae 1) aV))) aV)))))) (gz (n:=2) rfl (c' (cq (i:=2) CC.nd rfl (Sz rfl)) (c' (cq (i:=3) CC.nd rfl (Sz rfl)) gc)))) (bJ (cw (cY (aR (ae 3) (aR (ae 2) bR)))))),?_⟩);rintro as k aj ⟨sh,x,rfl,bx,a9,ba,af,t8,aj,ah⟩;refine⟨⟨trivial,rfl,trivial⟩,cZ (r:=[.new (.lst (sh.map dS)),.val (dR x),.no,.no]) rfl ?_⟩;have eG:aO 0 1:=⟨by decide,by decide⟩;have gC:aO 1 1:=⟨by decide,by decide⟩;have eW:intBits 0<=4000:=by decide
 have mK:intBits 1<=4000:=by decide
 have j0:intBits x.1<=4000:=Gg a9 (by decide);have mn:intBits x.2<=4000:=Gg ba (by decide);have g1:cj 300 (cx (0*x.2) (x.1*1) (1*x.2)):=(j3 (m:=10) (by decide) (by decide) a9 ba eG bx).mono (by decide);have g2:cj 300 (cx (1*x.2) (x.1*1) (1*x.2)):=(j3 (m:=10) (by decide) (by decide) a9 ba gC bx).mono (by decide);refine⟨_,rfl,by show 2<=sizeLine;decide,_,rfl,rfl,_,_,0,1,x.1,x.2,rfl,rfl,rfl,eG,bx,eW,mK,j0,mn,?_⟩;dsimp only[bL];refine⟨by show 2<=sizeLine;decide,_,rfl,rfl,_,_,1,1,x.1,x.2,rfl,rfl,rfl,gC,bx,mK,mK,j0,mn,?_⟩;dsimp only[bL];refine⟨rfl,sh,_,_,rfl,g1,g2,af,t8,aj,_,rfl,?_⟩;refine⟨_,rfl,rfl,_,_,rfl,_,_,rfl,rfl,?_⟩;exact⟨_,rfl,_,rfl,by show 2<=sizeLine;decide,ah⟩
theorem k4:cK ["p","step","a","b","n","right","up","parts","shared","x","y","divisor"] ["p","step"] (b4 x5):=by walk_at "sc"
def I9  : FS:=fun as k=>∃(p g:P3),as=[.val (dP p),.val (dP g)]/\(aS p)/\(cj 3000 p)/\(aS g)/\(cj 1000 g)/\k (.val (dP (nP (sld g p))))
theorem UP(B:cU mg)(F:cG K mg "slid" x5 ["p","step"])(hW:aJ P w K mg base "greatest_divisor" ["one","other"] 2 (aL K 2 pQ)):
  aJ P w K mg base "slid" ["p","step"] 3 (aL K 2 I9):=by
 refine di (lv:=2) F k4 rfl (fun f cdv A outer s H E ak=>⟨_,(a8 (hL (ae 0) (gz (n:=3) rfl (c' (cq (i:=2) k4.nd rfl (Sz rfl)) (c' (cq (i:=3) k4.nd rfl (Sz rfl)) (c' (cq (i:=4) k4.nd rfl (Sz rfl)) gc))))) (a8 (hL (ae 1) (gz (n:=3) rfl (c' (cq (i:=5) k4.nd rfl (Sz rfl)) (c' (cq (i:=6) k4.nd rfl (Sz rfl)) (c' (cq (i:=7) k4.nd rfl (Sz rfl)) gc))))) (a8 (cz (i:=8) k4.nd rfl (Sz rfl) (a3 hW ak (by rfl) (aw (ae 4) (aw (ae 7) aV)))) (a8 (cz (i:=9) k4.nd rfl (Sz rfl) (eC (cy (ae 2) (dF (ae 7) (ae 8))) (cy (ae 5) (dF (ae 4) (ae 8))))) (a8 (cz (i:=10) k4.nd rfl (Sz rfl) (eC (cy (ae 3) (dF (ae 7) (ae 8))) (cy (ae 6) (dF (ae 4) (ae 8))))) (a8 (cz (i:=11) k4.nd rfl (Sz rfl) (a3 hW ak (by rfl) (aw (a3 hW ak (by rfl) (aw (ae 8) (aw (ae 9) aV))) (aw (ae 10) aV)))) (bJ (cw (cY (aR (dF (ae 9) (ae 11)) (aR (dF (ae 10) (ae 11)) (aR (cy (dF (ae 4) (ae 8)) (dF (ae 7) (ae 11))) bR)))))))))))),?_⟩);rintro as k aj ⟨p,g,rfl,I',bp,Ja,hr,ah⟩;refine cZ (r:=[.val (dP p),.val (dP g),.no,.no,.no,.no,.no,.no,.no,.no,.no,.no]) rfl ?_;obtain⟨a,b,n⟩:=p;obtain⟨r,w,m⟩:=g;have aa:intBits a<=3000:=bp.a;have ab:intBits b<=3000:=bp.b;have aK:intBits n<=3000:=bp.c;have bo:intBits r<=1000:=hr.a;have df:intBits w<=1000:=hr.b;have fl:intBits m<=1000:=hr.c;have cR:n≠0:=YM I'.1;have m0:m≠0:=YM Ja.1;have sp:=nk (t:=n) (b:=m) m0;have f6:=kG (a:=n) (b:=m) m0 fl;have c1:=fun X Y d=>Pw (a:=a) (b:=b) (n:=n) (r:=r) (w:=w) (m:=m) I' Ja (s:=((YJ n m:Nat):Int)) (X:=X) (Y:=Y) (d:=d) rfl;have ah:k (.val (dP (cx (a*m+r*n) (b*m+w*n) (n*m)))):=ah;refine⟨_,rfl,_,rfl,rfl,_,_,rfl,_,_,rfl,_,_,rfl,rfl,?_⟩;refine⟨_,rfl,_,rfl,rfl,_,_,rfl,_,_,rfl,_,_,rfl,rfl,?_⟩;walk_at "w";refine⟨_,_,rfl,?_⟩;dsimp only[bL];generalize((YJ n m:Nat):Int)=s at *;have a9:intBits (m.fdiv s)<=1000:=d6 (natAbs_fdiv_le _ _) fl;have ba:intBits (n.fdiv s)<=3000:=d6 (natAbs_fdiv_le _ _) aK;have tb:intBits (a*m.fdiv s+r*n.fdiv s)<=4001:=intBits_add_le (intBits_mul_le aa a9) (intBits_mul_le bo ba);have bW:intBits (b*m.fdiv s+w*n.fdiv s)<=4001:=intBits_add_le (intBits_mul_le ab a9) (intBits_mul_le df ba);have c1:=fun d=>c1 _ _ d rfl rfl;walk_at "w";refine⟨_,_,rfl,?_⟩;dsimp only[bL];walk_at "w";refine⟨_,_,rfl,?_⟩;dsimp only[bL];generalize a*m.fdiv s+r*n.fdiv s=X at *;generalize b*m.fdiv s+w*n.fdiv s=Y at *;have c1:=c1 _ rfl;have br:=kH (a:=s) (b:=X) (.inl (YM sp))
 have ep:intBits ((YJ s X:Nat):Int)<=1000:=by
  rw[aam];exact kG (YM sp) f6
 generalize((YJ s X:Nat):Int)=e at *;have dp:=kH (a:=e) (b:=Y) (.inl (YM br))
 have db:intBits ((YJ e Y:Nat):Int)<=1000:=by
  rw[aam];exact kG (YM br) ep
 generalize((YJ e Y:Nat):Int)=d at *;have dG:intBits (m.fdiv d)<=1000:=d6 (natAbs_fdiv_le _ _) fl;rw[<-c1]at ah;walk_at "w";exact ah
theorem UQ:cK ["sheet","step"] ["sheet","step"] (b4 yc):=by walk_at "sc"
def rp  : FS:=fun as k=>∃(sh:List Piece)(g:P3),as=[.val (.lst (sh.map dS)),.val (dP g)]/\(sh.length<=400)/\(∀s∈sh,GM s)/\(da 400 g)/\k (.new (.lst ((sh.map (eg g)).map dS)))
theorem UR(B:cU mg)(F:cG K mg "moved" yc ["sheet","step"])(Jb:aJ P w K mg base "slid" ["p","step"] 3 (aL K 2 I9)):
  aJ P w K mg base "moved" ["sheet","step"] 4 (aL K 2 rp):=by
 refine di (lv:=3) F UQ rfl (fun f cdv A outer s H E ak=>⟨_,(bJ (EZ (OW (ts:=["ring","is_turned","elder_step"]) (fr:=["step"]) (js:=[1]) (jQ (ae 0)) (fun _ _ _ _=>(gz (n:=3) rfl (c' (cq (i:=0) (show ZZ (["ring","is_turned","elder_step","step"]:List Str) by decide +kernel) rfl (Sz rfl)) (c' (cq (i:=1) (show ZZ (["ring","is_turned","elder_step","step"]:List Str) by decide +kernel) rfl (Sz rfl)) (c' (cq (i:=2) (show ZZ (["ring","is_turned","elder_step","step"]:List Str) by decide +kernel) rfl (Sz rfl)) gc))))) (fun _ _ _ _=>jT) (fun _ _ _ _=>(OQ (Aa (OO (o6 (ts:=["corner"]) (fr:=["step"]) (js:=[3]) (jQ (ae 0)) (fun _ _ _ _=>(cq (i:=0) (show ZZ (["corner","step"]:List Str) by decide +kernel) rfl (Sz rfl))) (fun _ _ _ _=>jT) (fun _ _ _ _=>(a3 Jb ak (by rfl) (aw (ae 0) (aw (ae 1) aV)))) ⟨rfl,by decide +kernel,rfl,by decide +kernel,iw (aae.mpr ⟨rfl,(Z6 _)⟩),iV rfl,by walk_at "ffr",rfl⟩)) (Aa (EY (ae 1)) (Aa (EY (a3 Jb ak (by rfl) (aw (ae 2) (aw (ae 3) aV)))) OP))))) ⟨rfl,by decide +kernel,rfl,by decide +kernel,iw (aae.mpr ⟨rfl,(Z6 _)⟩),iV rfl,by walk_at "ffr",rfl⟩))),?_⟩);rintro as k aj ⟨sh,g,rfl,aj,aq,aD,ah⟩;refine cZ (r:=[.val (.lst (sh.map dS)),.val (dP g)]) rfl ?_;have big:1000<=sizeLine:=by decide
 refine⟨_,rfl,_,rfl,by rw[YL];omega,?_⟩;refine Fl (h:=fun s=>dS (eg g s)) (fs:=[.val (dP g)]) (fun s US cn vK=>?_) (by rw[ZV]at ah;exact ah);have l:=aq s US;have ln:=l.ln;refine⟨_,rfl,_,rfl,by rw[YL];omega,?_⟩;refine lG (f:=dP) (h:=fun p=>dP (nP (sld g p))) (fs:=[.val (dP g)]) (fun r ak fN CA=>⟨_,rfl,_,rfl,rfl,r,g,rfl,(l.ps r ak).pt,((l.ps r ak).bp.mono (by decide)),aD.pt,(aD.bp.mono (by decide)),CA⟩) ⟨Ar (fun p=>nP (sld g p)) _,?_⟩;refine⟨_,rfl,rfl,?_⟩;refine⟨_,rfl,_,rfl,rfl,s.2.2,g,rfl,l.st.pt,(l.st.bp.mono (by decide)),aD.pt,(aD.bp.mono (by decide)),rfl,by show 3<=sizeLine;decide,?_⟩;rw[PG (fun p=>nP (sld g p))];exact vK
theorem UT:cK ["one","other"] ["one","other"] (b4 xY):=by walk_at "sc"
def Jc  : FS:=fun as k=>∃(x y u v:Int),as=[.val (dR (x,y)),.val (dR (u,v))]/\(intBits x<=4000)/\(intBits y<=4000)/\(intBits u<=4000)/\(intBits v<=4000)/\k (.val (.bl (decide (x*v<u*y))))
theorem UU(B:cU mg)(F:cG K mg "under" xY ["one","other"])  :
  aJ P w K mg base "under" ["one","other"] 2 (aL K 2 Jc):=by
 refine di (lv:=1) F UT rfl (fun f cdv A outer s H E ak=>⟨_,(bJ (cw (lA (f:=fun i j=>decide (i<j)) lg (cy (a0 (ae 0) az (fun _ _=>rfl)) (a0 (ae 1) az (fun _ _=>rfl))) (cy (a0 (ae 1) az (fun _ _=>rfl)) (a0 (ae 0) az (fun _ _=>rfl))) (dv _)))),?_⟩);rintro as k aj ⟨x,y,u,v,rfl,i6,hb,iA,bv,ah⟩;refine cZ (r:=[.val (dR (x,y)),.val (dR (u,v))]) rfl ?_;walk_at "w";exact ah
theorem UW:cK ["one"] ["one"] (b4 x1):=by walk_at "sc"
def Jd  : FS:=fun as k=>∃(x y:Int),as=[.val (dR (x,y))]/\(0<y)/\(intBits y<=4000)/\k (.val (.int (-((-x).fdiv y))))
theorem UX(B:cU mg)(F:cG K mg "least_whole" x1 ["one"])  :
  aJ P w K mg base "least_whole" ["one"] 2 (aL K 1 Jd):=by
 refine di (lv:=1) F UW rfl (fun f cdv A outer s H E ak=>⟨_,(bJ (cw (iq (dF (iq (a0 (ae 0) az (fun _ _=>rfl))) (a0 (ae 0) az (fun _ _=>rfl)))))),?_⟩);rintro as k aj ⟨x,y,rfl,bX,hb,ah⟩;refine cZ (r:=[.val (dR (x,y))]) rfl ?_;have bE:y≠0:=by omega
 walk_at "w";exact ah
theorem UY:cK ["one"] ["one"] (b4 x2):=by walk_at "sc"
def Je  : FS:=fun as k=>∃(x y:Int),as=[.val (dR (x,y))]/\(0<y)/\(intBits y<=4000)/\k (.val (.int (x.fdiv y)))
theorem UZ(B:cU mg)(F:cG K mg "most_whole" x2 ["one"])  :
  aJ P w K mg base "most_whole" ["one"] 2 (aL K 1 Je):=by
 refine di (lv:=1) F UY rfl (fun f cdv A outer s H E ak=>⟨_,(bJ (cw (dF (a0 (ae 0) az (fun _ _=>rfl)) (a0 (ae 0) az (fun _ _=>rfl))))),?_⟩);rintro as k aj ⟨x,y,rfl,bX,hb,ah⟩;refine cZ (r:=[.val (dR (x,y))]) rfl ?_;have bE:y≠0:=by omega
 walk_at "w";exact ah
theorem U0:cK ["one"] ["one"] (b4 xZ):=by walk_at "sc"
def CD  : FS:=fun as k=>∃(x y:Int),as=[.val (dR (x,y))]/\k (.val (dR (-x,y)))
theorem U1(B:cU mg)(F:cG K mg "against" xZ ["one"])  :
  aJ P w K mg base "against" ["one"] 2 (aL K 1 CD):=by
 refine di (lv:=1) F U0 rfl (fun f cdv A outer s H E ak=>⟨_,(bJ (cw (cY (aR (iq (a0 (ae 0) az (fun _ _=>rfl))) (aR (a0 (ae 0) az (fun _ _=>rfl)) bR))))),?_⟩);rintro as k aj ⟨x,y,rfl,ah⟩;refine cZ (r:=[.val (dR (x,y))]) rfl ?_;walk_at "w";exact ah
theorem ov:cK ["one","other","shared","top","divisor"] ["one","other"] (b4 um):=by walk_at "sc"
def Jf  : FS:=fun as k=>∃(x y u v:Int),as=[.val (dR (x,y)),.val (dR (u,v))]/\(aO x y)/\(aO u v)/\(intBits x<=4000)/\(intBits y<=4000)/\(intBits u<=4000)/\(intBits v<=4000)/\k (.val (dR (cA (x*v+u*y) (y*v))))
theorem U2(B:cU mg)(F:cG K mg "plus" um ["one","other"])(hW:aJ P w K mg base "greatest_divisor" ["one","other"] 2 (aL K 2 pQ)):
  aJ P w K mg base "plus" ["one","other"] 3 (aL K 2 Jf):=by
 refine di (lv:=2) F ov rfl (fun f cdv A outer s H E ak=>⟨_,(a8 (cz (i:=2) ov.nd rfl (Sz rfl) (a3 hW ak (by rfl) (aw (a0 (ae 0) az (fun _ _=>rfl)) (aw (a0 (ae 1) az (fun _ _=>rfl)) aV)))) (a8 (cz (i:=3) ov.nd rfl (Sz rfl) (eC (cy (a0 (ae 0) az (fun _ _=>rfl)) (dF (a0 (ae 1) az (fun _ _=>rfl)) (ae 2))) (cy (a0 (ae 1) az (fun _ _=>rfl)) (dF (a0 (ae 0) az (fun _ _=>rfl)) (ae 2))))) (a8 (cz (i:=4) ov.nd rfl (Sz rfl) (a3 hW ak (by rfl) (aw (ae 2) (aw (ae 3) aV)))) (bJ (cw (cY (aR (dF (ae 3) (ae 4)) (aR (cy (dF (a0 (ae 0) az (fun _ _=>rfl)) (ae 2)) (dF (a0 (ae 1) az (fun _ _=>rfl)) (ae 4))) bR)))))))),?_⟩);rintro as k aj ⟨x,y,u,v,rfl,bx,bB,i6,hb,iA,bv,ah⟩;refine cZ (r:=[.val (dR (x,y)),.val (dR (u,v)),.no,.no,.no]) rfl ?_;have v0:v≠0:=YM bB.1;have sp:=nk (t:=y) (b:=v) v0;have f6:=kG (a:=y) (b:=v) v0 bv;have c1:=fun top d=>Fc bx bB (s:=((YJ y v:Nat):Int)) (top:=top) (d:=d) rfl;walk_at "w";refine⟨_,_,rfl,?_⟩;dsimp only[bL];generalize((YJ y v:Nat):Int)=s at *;have a9:intBits (v.fdiv s)<=4000:=d6 (natAbs_fdiv_le _ _) bv;have ba:intBits (y.fdiv s)<=4000:=d6 (natAbs_fdiv_le _ _) hb;have tb:intBits (x*v.fdiv s+u*y.fdiv s)<=8001:=intBits_add_le (intBits_mul_le i6 a9) (intBits_mul_le iA ba);have c1:=fun d=>c1 _ d rfl;walk_at "w";refine⟨_,_,rfl,?_⟩;dsimp only[bL];generalize x*v.fdiv s+u*y.fdiv s=top at *;have c1:=c1 _ rfl;have dp:=kH (a:=s) (b:=top) (.inl (YM sp))
 have db:intBits ((YJ s top:Nat):Int)<=4000:=by
  rw[aam];exact kG (YM sp) f6
 generalize((YJ s top:Nat):Int)=d at *;have dG:intBits (v.fdiv d)<=4000:=d6 (natAbs_fdiv_le _ _) bv;rw[<-c1]at ah;walk_at "w";exact ah
theorem U3:cK ["one","other"] ["one","other"] (b4 xV):=by walk_at "sc"
def CE  : FS:=fun as k=>∃(x y u v:Int),as=[.val (dR (x,y)),.val (dR (u,v))]/\(aO x y)/\(aO u v)/\(intBits x<=4000)/\(intBits y<=4000)/\(intBits u<=4000)/\(intBits v<=4000)/\k (.val (dR (cA (x*v-u*y) (y*v))))
theorem U4(B:cU mg)(F:cG K mg "minus" xV ["one","other"])(CF:aJ P w K mg base "plus" ["one","other"] 3 (aL K 2 Jf))(CG:aJ P w K mg base "against" ["one"] 2 (aL K 1 CD)):
  aJ P w K mg base "minus" ["one","other"] 4 (aL K 2 CE):=by
 refine di (lv:=3) F U3 rfl (fun f cdv A outer s H E ak=>⟨_,(bJ (cw (a3 CF ak (by rfl) (aw (ae 0) (aw (a3 CG ak (by rfl) (aw (ae 1) aV)) aV))))),?_⟩);rintro as k aj ⟨x,y,u,v,rfl,bx,bB,i6,hb,iA,bv,ah⟩;refine cZ (r:=[.val (dR (x,y)),.val (dR (u,v))]) rfl ?_;refine⟨_,rfl,_,rfl,rfl,u,v,rfl,?_⟩;refine⟨rfl,x,y,-u,v,rfl,bx,⟨bB.1,by rw[abD];exact bB.2⟩,i6,hb,intBits_neg_le iA,bv,?_⟩;rw[aba,<-Int.sub_eq_add_neg];exact ah
theorem CH:cK ["one","other","first","second"] ["one","other"] (b4 xW):=by walk_at "sc"
def l0  : FS:=fun as k=>∃(x y u v:Int),as=[.val (dR (x,y)),.val (dR (u,v))]/\(aO x y)/\(aO u v)/\(intBits x<=4000)/\(intBits y<=4000)/\(intBits u<=4000)/\(intBits v<=4000)/\k (.val (dR (cA (x*u) (y*v))))
theorem U5(B:cU mg)(F:cG K mg "times" xW ["one","other"])(hW:aJ P w K mg base "greatest_divisor" ["one","other"] 2 (aL K 2 pQ)):
  aJ P w K mg base "times" ["one","other"] 3 (aL K 2 l0):=by
 refine di (lv:=2) F CH rfl (fun f cdv A outer s H E ak=>⟨_,(a8 (cz (i:=2) CH.nd rfl (Sz rfl) (a3 hW ak (by rfl) (aw (a0 (ae 0) az (fun _ _=>rfl)) (aw (a0 (ae 1) az (fun _ _=>rfl)) aV)))) (a8 (cz (i:=3) CH.nd rfl (Sz rfl) (a3 hW ak (by rfl) (aw (a0 (ae 1) az (fun _ _=>rfl)) (aw (a0 (ae 0) az (fun _ _=>rfl)) aV)))) (bJ (cw (cY (aR (cy (dF (a0 (ae 0) az (fun _ _=>rfl)) (ae 2)) (dF (a0 (ae 1) az (fun _ _=>rfl)) (ae 3))) (aR (cy (dF (a0 (ae 0) az (fun _ _=>rfl)) (ae 3)) (dF (a0 (ae 1) az (fun _ _=>rfl)) (ae 2))) bR))))))),?_⟩);rintro as k aj ⟨x,y,u,v,rfl,bx,bB,i6,hb,iA,bv,ah⟩;refine cZ (r:=[.val (dR (x,y)),.val (dR (u,v)),.no,.no]) rfl ?_;have v0:v≠0:=YM bB.1;have bX:y≠0:=YM bx.1;have cB:=nk (t:=x) (b:=v) v0;have vO:=kG (a:=x) (b:=v) v0 bv;have ag:=nk (t:=u) (b:=y) bX;have af:=kG (a:=u) (b:=y) bX hb;rw[<-Pn bx bB]at ah;walk_at "w";refine⟨_,_,rfl,?_⟩;walk_at "w";refine⟨_,_,rfl,?_⟩;dsimp only[bL];generalize((YJ x v:Nat):Int)=f at *;generalize((YJ u y:Nat):Int)=g at *;have a9:intBits (x.fdiv f)<=4000:=d6 (natAbs_fdiv_le _ _) i6;have ba:intBits (u.fdiv g)<=4000:=d6 (natAbs_fdiv_le _ _) iA;have dG:intBits (y.fdiv g)<=4000:=d6 (natAbs_fdiv_le _ _) hb;have fw:intBits (v.fdiv f)<=4000:=d6 (natAbs_fdiv_le _ _) bv;walk_at "w";exact ah
theorem U6:cK ["one","other"] ["one","other"] (b4 xX):=by walk_at "sc"
def xH  : FS:=fun as k=>∃(x y u v:Int),as=[.val (dR (x,y)),.val (dR (u,v))]/\(aO x y)/\(aO u v)/\(intBits x<=4000)/\(intBits y<=4000)/\(intBits u<=4000)/\(intBits v<=4000)/\(u≠0)/\k (.val (dR (cA (x*v) (y*u))))
theorem U7(B:cU mg)(F:cG K mg "over" xX ["one","other"])(hk:aJ P w K mg base "times" ["one","other"] 3 (aL K 2 l0)):
  aJ P w K mg base "over" ["one","other"] 4 (aL K 2 xH):=by
 refine di (lv:=3) F U6 rfl (fun f cdv A outer s H E ak=>⟨_,(a8 (eM (fu (f:=fun i j=>decide (i=j)) jh (a0 (ae 1) az (fun _ _=>rfl)) az (dv _)) (bJ zI) eX) (a8 (eM (fu (f:=fun i j=>decide (i<j)) lg (a0 (ae 1) az (fun _ _=>rfl)) az (dv _)) (bJ (cw (a3 hk ak (by rfl) (aw (ae 0) (aw (cY (aR (iq (a0 (ae 1) az (fun _ _=>rfl))) (aR (iq (a0 (ae 1) az (fun _ _=>rfl))) bR))) aV))))) eX) (bJ (cw (a3 hk ak (by rfl) (aw (ae 0) (aw (cY (aR (a0 (ae 1) az (fun _ _=>rfl)) (aR (a0 (ae 1) az (fun _ _=>rfl)) bR))) aV))))))),?_⟩);rintro as k aj ⟨x,y,u,v,rfl,bx,bB,i6,hb,iA,bv,j8,ah⟩;refine cZ (r:=[.val (dR (x,y)),.val (dR (u,v))]) rfl ?_;have g2:YJ v u=1:=by rw[aam];exact bB.2
 walk_at "wd";refine fL (fun g=>absurd g j8) (fun _=>?_);walk_at "wd";refine fL (fun g=>?_) (fun g=>?_)
 ·walk_at "w";refine⟨x,y,-v,-u,rfl,bx,⟨by omega,by rw[abD,Int.gcd_neg];exact g2⟩,i6,hb,intBits_neg_le bv,intBits_neg_le iA,?_⟩;rw[abY,abY,OH (ZN (YM bx.1) j8)];exact ah
 ·walk_at "w";exact⟨x,y,v,u,rfl,bx,⟨by omega,g2⟩,i6,hb,bv,iA,ah⟩
theorem jC:cK ["sheet","cut","size","first","last","middle","one","other"] ["sheet","cut","size","first","last"] (b4 pW):=by walk_at "sc"
def xI(a_cut_upright a_cut_level:Addr):FS:=fun as k=>∃(sh:List Piece)(c:Bool)(w:bj)(x y bA n t:Nat),as=[.val (dSh sh),.val (.kfn (if c=true then a_cut_level else a_cut_upright)),.val (dR w),.val (.int x),.val (.int y)]/\(aO w.1 w.2)/\(intBits w.1<=70)/\(intBits w.2<=70)/\(x<y)/\(y<=8)/\(y-x<=2^0)/\(c4 1990 bA n t 400 sh)/\(153<=bA/\bA<=1800)/\(n<=1000)/\k (.val (.lst ((fm c w 0 sh x y).map dSh)))
theorem U8(B:cU mg)(F:cG K mg "slices" pW ["sheet","cut","size","first","last"])  :
  aJ P w K mg base "slices" ["sheet","cut","size","first","last"] 2 (aL K 5 (xI a_cut_upright a_cut_level)):=by
 refine di (lv:=1) F jC rfl (fun f cdv A outer s H E ak=>⟨_,(a8 (eM (fu (f:=fun i j=>decide (i=j)) jh (e8 (ae 4) (ae 3)) az (dv _)) (bJ (cw (dQ (fv (aR (ae 0) bR))))) eX) M8),?_⟩);rintro as k aj ⟨sh,c,w,x,y,bA,n,t,rfl,lw,aF,aH,xg,og,c3,aq,hm,aN,ah⟩;refine cZ (r:=[.val (dSh sh),.val (.kfn (if c=true then a_cut_level else a_cut_upright)),.val (dR w),.val (.int x),.val (.int y),.no,.no,.no]) rfl ?_;have Zr:y=x+1:=by simp at c3;omega
 refine⟨_,rfl,_,rfl,_,_,rfl,rfl,_,_,rfl,rfl,_,rfl,fL (fun g=>?_) (fun g=>absurd (show((y:Nat):Int)-(x:Int)=1 by omega) g)⟩;exact⟨_,rfl,show 1<=sizeLine by decide,ah⟩
def xJ(a_cut_upright a_cut_level:Addr):FS:=fun as k=>∃(sh:List Piece)(c:Bool)(w:bj)(x y bA n t:Nat),as=[.val (dSh sh),.val (.kfn (if c=true then a_cut_level else a_cut_upright)),.val (dR w),.val (.int x),.val (.int y)]/\(aO w.1 w.2)/\(intBits w.1<=70)/\(intBits w.2<=70)/\(x<y)/\(y<=8)/\(y-x<=2^1)/\(c4 1990 bA n t 400 sh)/\(153<=bA/\bA<=1800)/\(n<=999)/\k (.val (.lst ((fm c w 1 sh x y).map dSh)))
theorem U9(B:cU mg){a_cut_level:Addr}(ja:mg "cut_level"=some (.ref a_cut_level)){a_cut_upright:Addr}(jb:mg "cut_upright"=some (.ref a_cut_upright))(F:cG K mg "slices" pW ["sheet","cut","size","first","last"])(pS:aJ P w K mg base "cut_upright" ["sheet","place"] 7 (aL K 2 t9))(ub:aJ P w K mg base "cut_level" ["sheet","height"] 7 (aL K 2 xG))(hk:aJ P w K mg base "times" ["one","other"] 3 (aL K 2 l0))(ke:aJ P w K mg base "slices" ["sheet","cut","size","first","last"] 2 (aL K 5 (xI a_cut_upright a_cut_level))):
  aJ P w K mg base "slices" ["sheet","cut","size","first","last"] 8 (aL K 5 (xJ a_cut_upright a_cut_level)):=by
 refine di (lv:=7) F jC rfl (fun f cdv A outer s H E ak=>⟨_,(a8 (eM (fu (f:=fun i j=>decide (i=j)) jh (e8 (ae 4) (ae 3)) az (dv _)) (bJ (cw (dQ (fv (aR (ae 0) bR))))) eX) (a8 (cz (i:=5) jC.nd rfl (Sz rfl) (dF (eC (ae 3) (ae 4)) az)) (a8 (hL (BQ 1 pS jb ub ja ak (aw (ae 0) (aw (a3 hk ak (by rfl) (aw (ae 2) (aw (cY (aR (ae 5) (aR az bR))) aV))) aV))) (gz (n:=2) rfl (c' (cq (i:=6) jC.nd rfl (Sz rfl)) (c' (cq (i:=7) jC.nd rfl (Sz rfl)) gc)))) (bJ (cw (dQ (jR (a3 ke ak (by rfl) (aw (ae 6) (aw (ae 1) (aw (ae 2) (aw (ae 3) (aw (ae 5) aV)))))) (a3 ke ak (by rfl) (aw (ae 7) (aw (ae 1) (aw (ae 2) (aw (ae 5) (aw (ae 4) aV))))))))))))),?_⟩);rintro as k aj ⟨sh,c,w,x,y,bA,n,t,rfl,lw,aF,aH,xg,og,c3,aq,hm,aN,ah⟩;refine cZ (r:=[.val (dSh sh),.val (.kfn (if c=true then a_cut_level else a_cut_upright)),.val (dR w),.val (.int x),.val (.int y),.no,.no,.no]) rfl ?_;have cE:2<=sizeLine:=by decide
 have big:10000<=sizeLine:=by decide
 rw[fm]at ah;refine⟨_,rfl,_,rfl,_,_,rfl,rfl,_,_,rfl,rfl,_,rfl,fL (fun g=>?_) (fun g=>?_)⟩
 ·rw[if_pos (by omega)]at ah;exact⟨_,rfl,show 1<=sizeLine by decide,ah⟩
 rw[if_neg (by omega)]at ah;have c3:y-x<=2^0*2:=c3
 have kT:((x:Int)+(y:Int)).fdiv 2=(((x+y)/2:Nat):Int):=by
  rw[abB _ (by decide)];omega
 obtain⟨m,uc⟩:∃m,m=(x+y)/2:=⟨_,rfl⟩;rw[<-uc]at ah kT;have ow:x<m:=by omega
 have kZ:m<y:=by omega
 refine⟨_,rfl,_,rfl,_,_,rfl,rfl,_,_,rfl,rfl,⟨by decide,by decide⟩,?_⟩;dsimp only;rw[kT];obtain⟨eb,jy⟩:=gi (w:=w) lw.1 (m:Int);obtain⟨bN,b1⟩:=i9 (w:=w) (q:=70) lw.1 aF aH (k:=(m:Int)) (by omega);obtain⟨s1,s2⟩:=aq.cut (c:=c) eb bN b1 (by omega) (by omega);have bm:intBits (m:Int)<=4000:=Gg (lr (by omega) (by omega)) (by decide);have ox:aO (m:Int) 1:=⟨by decide,by simp⟩;have ag:∀s∈sh,∀c∈s.1,cj 1990 c/\aS c:=fun s dV p ag=>⟨((aq.1 s dV).rb.pts p ag).bp,((aq.1 s dV).rb.pts p ag).pt⟩;have l1:∀s∈sh,s.1.length<=1000:=fun s dV=>by have:=(aq.1 s dV).ln;omega
 have ls:=aq.2
 have fin:∀A B:List Piece,A=lowC c (cH w m) sh->B=highC c (cH w m) sh->vd (rX (vh (ku 5 (xI a_cut_upright a_cut_level) (eD (dA 6) (eD (dA 1) (eD (dA 2) (eD (dA 3) (eD (dA 5) ny)))))) (ku 5 (xI a_cut_upright a_cut_level) (eD (dA 7) (eD (dA 1) (eD (dA 2) (eD (dA 5) (eD (dA 4) ny)))))))) { nx:=fun x=>k (aI.val D.non),rt:=k } [.val (dSh sh),.val (.kfn (if c=true then a_cut_level else a_cut_upright)),.val (dR w),.val (.int x),.val (.int y),.val (.int m),.val (dSh A),.val (dSh B)]:=by
  rintro A B rfl rfl;refine⟨_,rfl,_,rfl,_,rfl,_,rfl,_,rfl,rfl,_,c,w,x,m,bA,n+1,t,rfl,lw,aF,aH,ow,by omega,by omega,s1,hm,by omega,?_⟩;dsimp only[bL];refine⟨_,rfl,_,rfl,_,rfl,_,rfl,_,rfl,rfl,_,c,w,m,y,bA,n+1,t,rfl,lw,aF,aH,kZ,og,by omega,s2,hm,by omega,?_⟩;dsimp only[bL];refine⟨_,_,rfl,rfl,?_,?_⟩
  ·rw[YL,YL,jz c w 0 _ _ _ ow (by omega),jz c w 0 _ _ _ kZ (by omega)];omega
  ·rw[<-ZD];exact ah
 cases c with
 | true =>
  refine .inr ⟨rfl,?_⟩;refine⟨_,rfl,_,rfl,_,rfl,cE,rfl,w.1,w.2,(m:Int),1,rfl,lw,ox,Gg aF (by decide),Gg aH (by decide),bm,by decide,?_⟩;dsimp only[bL];refine⟨rfl,sh,cH w m,rfl,eb,Gg bN (by decide),Gg b1 (by decide),ag,l1,by omega,?_⟩;dsimp only[bL];exact⟨_,rfl,rfl,_,_,rfl,_,_,rfl,rfl,fin _ _ rfl rfl⟩
 | false =>
  refine .inl ⟨rfl,?_⟩;refine⟨_,rfl,_,rfl,_,rfl,cE,rfl,w.1,w.2,(m:Int),1,rfl,lw,ox,Gg aF (by decide),Gg aH (by decide),bm,by decide,?_⟩;dsimp only[bL];refine⟨rfl,sh,cH w m,rfl,eb,Gg bN (by decide),Gg b1 (by decide),ag,l1,by omega,?_⟩;dsimp only[bL];exact⟨_,rfl,rfl,_,_,rfl,_,_,rfl,rfl,fin _ _ rfl rfl⟩
def xK(a_cut_upright a_cut_level:Addr):FS:=fun as k=>∃(sh:List Piece)(c:Bool)(w:bj)(x y bA n t:Nat),as=[.val (dSh sh),.val (.kfn (if c=true then a_cut_level else a_cut_upright)),.val (dR w),.val (.int x),.val (.int y)]/\(aO w.1 w.2)/\(intBits w.1<=70)/\(intBits w.2<=70)/\(x<y)/\(y<=8)/\(y-x<=2^2)/\(c4 1990 bA n t 400 sh)/\(153<=bA/\bA<=1800)/\(n<=998)/\k (.val (.lst ((fm c w 2 sh x y).map dSh)))
theorem U'(B:cU mg){a_cut_level:Addr}(ja:mg "cut_level"=some (.ref a_cut_level)){a_cut_upright:Addr}(jb:mg "cut_upright"=some (.ref a_cut_upright))(F:cG K mg "slices" pW ["sheet","cut","size","first","last"])(pS:aJ P w K mg base "cut_upright" ["sheet","place"] 7 (aL K 2 t9))(ub:aJ P w K mg base "cut_level" ["sheet","height"] 7 (aL K 2 xG))(hk:aJ P w K mg base "times" ["one","other"] 3 (aL K 2 l0))(ke:aJ P w K mg base "slices" ["sheet","cut","size","first","last"] 8 (aL K 5 (xJ a_cut_upright a_cut_level))):
  aJ P w K mg base "slices" ["sheet","cut","size","first","last"] 9 (aL K 5 (xK a_cut_upright a_cut_level)):=by
 refine di (lv:=8) F jC rfl (fun f cdv A outer s H E ak=>⟨_,(a8 (eM (fu (f:=fun i j=>decide (i=j)) jh (e8 (ae 4) (ae 3)) az (dv _)) (bJ (cw (dQ (fv (aR (ae 0) bR))))) eX) (a8 (cz (i:=5) jC.nd rfl (Sz rfl) (dF (eC (ae 3) (ae 4)) az)) (a8 (hL (BQ 1 pS jb ub ja ak (aw (ae 0) (aw (a3 hk ak (by rfl) (aw (ae 2) (aw (cY (aR (ae 5) (aR az bR))) aV))) aV))) (gz (n:=2) rfl (c' (cq (i:=6) jC.nd rfl (Sz rfl)) (c' (cq (i:=7) jC.nd rfl (Sz rfl)) gc)))) (bJ (cw (dQ (jR (a3 ke ak (by rfl) (aw (ae 6) (aw (ae 1) (aw (ae 2) (aw (ae 3) (aw (ae 5) aV)))))) (a3 ke ak (by rfl) (aw (ae 7) (aw (ae 1) (aw (ae 2) (aw (ae 5) (aw (ae 4) aV))))))))))))),?_⟩);rintro as k aj ⟨sh,c,w,x,y,bA,n,t,rfl,lw,aF,aH,xg,og,c3,aq,hm,aN,ah⟩;refine cZ (r:=[.val (dSh sh),.val (.kfn (if c=true then a_cut_level else a_cut_upright)),.val (dR w),.val (.int x),.val (.int y),.no,.no,.no]) rfl ?_;have cE:2<=sizeLine:=by decide
 have big:10000<=sizeLine:=by decide
 rw[fm]at ah;refine⟨_,rfl,_,rfl,_,_,rfl,rfl,_,_,rfl,rfl,_,rfl,fL (fun g=>?_) (fun g=>?_)⟩
 ·rw[if_pos (by omega)]at ah;exact⟨_,rfl,show 1<=sizeLine by decide,ah⟩
 rw[if_neg (by omega)]at ah;have c3:y-x<=2^1*2:=c3
 have kT:((x:Int)+(y:Int)).fdiv 2=(((x+y)/2:Nat):Int):=by
  rw[abB _ (by decide)];omega
 obtain⟨m,uc⟩:∃m,m=(x+y)/2:=⟨_,rfl⟩;rw[<-uc]at ah kT;have ow:x<m:=by omega
 have kZ:m<y:=by omega
 refine⟨_,rfl,_,rfl,_,_,rfl,rfl,_,_,rfl,rfl,⟨by decide,by decide⟩,?_⟩;dsimp only;rw[kT];obtain⟨eb,jy⟩:=gi (w:=w) lw.1 (m:Int);obtain⟨bN,b1⟩:=i9 (w:=w) (q:=70) lw.1 aF aH (k:=(m:Int)) (by omega);obtain⟨s1,s2⟩:=aq.cut (c:=c) eb bN b1 (by omega) (by omega);have bm:intBits (m:Int)<=4000:=Gg (lr (by omega) (by omega)) (by decide);have ox:aO (m:Int) 1:=⟨by decide,by simp⟩;have ag:∀s∈sh,∀c∈s.1,cj 1990 c/\aS c:=fun s dV p ag=>⟨((aq.1 s dV).rb.pts p ag).bp,((aq.1 s dV).rb.pts p ag).pt⟩;have l1:∀s∈sh,s.1.length<=1000:=fun s dV=>by have:=(aq.1 s dV).ln;omega
 have ls:=aq.2
 have fin:∀A B:List Piece,A=lowC c (cH w m) sh->B=highC c (cH w m) sh->vd (rX (vh (ku 5 (xJ a_cut_upright a_cut_level) (eD (dA 6) (eD (dA 1) (eD (dA 2) (eD (dA 3) (eD (dA 5) ny)))))) (ku 5 (xJ a_cut_upright a_cut_level) (eD (dA 7) (eD (dA 1) (eD (dA 2) (eD (dA 5) (eD (dA 4) ny)))))))) { nx:=fun x=>k (aI.val D.non),rt:=k } [.val (dSh sh),.val (.kfn (if c=true then a_cut_level else a_cut_upright)),.val (dR w),.val (.int x),.val (.int y),.val (.int m),.val (dSh A),.val (dSh B)]:=by
  rintro A B rfl rfl;refine⟨_,rfl,_,rfl,_,rfl,_,rfl,_,rfl,rfl,_,c,w,x,m,bA,n+1,t,rfl,lw,aF,aH,ow,by omega,by omega,s1,hm,by omega,?_⟩;dsimp only[bL];refine⟨_,rfl,_,rfl,_,rfl,_,rfl,_,rfl,rfl,_,c,w,m,y,bA,n+1,t,rfl,lw,aF,aH,kZ,og,by omega,s2,hm,by omega,?_⟩;dsimp only[bL];refine⟨_,_,rfl,rfl,?_,?_⟩
  ·rw[YL,YL,jz c w 1 _ _ _ ow (by omega),jz c w 1 _ _ _ kZ (by omega)];omega
  ·rw[<-ZD];exact ah
 cases c with
 | true =>
  refine .inr ⟨rfl,?_⟩;refine⟨_,rfl,_,rfl,_,rfl,cE,rfl,w.1,w.2,(m:Int),1,rfl,lw,ox,Gg aF (by decide),Gg aH (by decide),bm,by decide,?_⟩;dsimp only[bL];refine⟨rfl,sh,cH w m,rfl,eb,Gg bN (by decide),Gg b1 (by decide),ag,l1,by omega,?_⟩;dsimp only[bL];exact⟨_,rfl,rfl,_,_,rfl,_,_,rfl,rfl,fin _ _ rfl rfl⟩
 | false =>
  refine .inl ⟨rfl,?_⟩;refine⟨_,rfl,_,rfl,_,rfl,cE,rfl,w.1,w.2,(m:Int),1,rfl,lw,ox,Gg aF (by decide),Gg aH (by decide),bm,by decide,?_⟩;dsimp only[bL];refine⟨rfl,sh,cH w m,rfl,eb,Gg bN (by decide),Gg b1 (by decide),ag,l1,by omega,?_⟩;dsimp only[bL];exact⟨_,rfl,rfl,_,_,rfl,_,_,rfl,rfl,fin _ _ rfl rfl⟩
def CI(a_cut_upright a_cut_level:Addr):FS:=fun as k=>∃(sh:List Piece)(c:Bool)(w:bj)(x y bA n t:Nat),as=[.val (dSh sh),.val (.kfn (if c=true then a_cut_level else a_cut_upright)),.val (dR w),.val (.int x),.val (.int y)]/\(aO w.1 w.2)/\(intBits w.1<=70)/\(intBits w.2<=70)/\(x<y)/\(y<=8)/\(y-x<=2^3)/\(c4 1990 bA n t 400 sh)/\(153<=bA/\bA<=1800)/\(n<=997)/\k (.val (.lst ((fm c w 3 sh x y).map dSh)))
theorem Va(B:cU mg){a_cut_level:Addr}(ja:mg "cut_level"=some (.ref a_cut_level)){a_cut_upright:Addr}(jb:mg "cut_upright"=some (.ref a_cut_upright))(F:cG K mg "slices" pW ["sheet","cut","size","first","last"])(pS:aJ P w K mg base "cut_upright" ["sheet","place"] 7 (aL K 2 t9))(ub:aJ P w K mg base "cut_level" ["sheet","height"] 7 (aL K 2 xG))(hk:aJ P w K mg base "times" ["one","other"] 3 (aL K 2 l0))(ke:aJ P w K mg base "slices" ["sheet","cut","size","first","last"] 9 (aL K 5 (xK a_cut_upright a_cut_level))):
  aJ P w K mg base "slices" ["sheet","cut","size","first","last"] 10 (aL K 5 (CI a_cut_upright a_cut_level)):=by
 refine di (lv:=9) F jC rfl (fun f cdv A outer s H E ak=>⟨_,(a8 (eM (fu (f:=fun i j=>decide (i=j)) jh (e8 (ae 4) (ae 3)) az (dv _)) (bJ (cw (dQ (fv (aR (ae 0) bR))))) eX) (a8 (cz (i:=5) jC.nd rfl (Sz rfl) (dF (eC (ae 3) (ae 4)) az)) (a8 (hL (BQ 1 pS jb ub ja ak (aw (ae 0) (aw (a3 hk ak (by rfl) (aw (ae 2) (aw (cY (aR (ae 5) (aR az bR))) aV))) aV))) (gz (n:=2) rfl (c' (cq (i:=6) jC.nd rfl (Sz rfl)) (c' (cq (i:=7) jC.nd rfl (Sz rfl)) gc)))) (bJ (cw (dQ (jR (a3 ke ak (by rfl) (aw (ae 6) (aw (ae 1) (aw (ae 2) (aw (ae 3) (aw (ae 5) aV)))))) (a3 ke ak (by rfl) (aw (ae 7) (aw (ae 1) (aw (ae 2) (aw (ae 5) (aw (ae 4) aV))))))))))))),?_⟩);rintro as k aj ⟨sh,c,w,x,y,bA,n,t,rfl,lw,aF,aH,xg,og,c3,aq,hm,aN,ah⟩;refine cZ (r:=[.val (dSh sh),.val (.kfn (if c=true then a_cut_level else a_cut_upright)),.val (dR w),.val (.int x),.val (.int y),.no,.no,.no]) rfl ?_;have cE:2<=sizeLine:=by decide
 have big:10000<=sizeLine:=by decide
 rw[fm]at ah;refine⟨_,rfl,_,rfl,_,_,rfl,rfl,_,_,rfl,rfl,_,rfl,fL (fun g=>?_) (fun g=>?_)⟩
 ·rw[if_pos (by omega)]at ah;exact⟨_,rfl,show 1<=sizeLine by decide,ah⟩
 rw[if_neg (by omega)]at ah;have c3:y-x<=2^2*2:=c3
 have kT:((x:Int)+(y:Int)).fdiv 2=(((x+y)/2:Nat):Int):=by
  rw[abB _ (by decide)];omega
 obtain⟨m,uc⟩:∃m,m=(x+y)/2:=⟨_,rfl⟩;rw[<-uc]at ah kT;have ow:x<m:=by omega
 have kZ:m<y:=by omega
 refine⟨_,rfl,_,rfl,_,_,rfl,rfl,_,_,rfl,rfl,⟨by decide,by decide⟩,?_⟩;dsimp only;rw[kT];obtain⟨eb,jy⟩:=gi (w:=w) lw.1 (m:Int);obtain⟨bN,b1⟩:=i9 (w:=w) (q:=70) lw.1 aF aH (k:=(m:Int)) (by omega);obtain⟨s1,s2⟩:=aq.cut (c:=c) eb bN b1 (by omega) (by omega);have bm:intBits (m:Int)<=4000:=Gg (lr (by omega) (by omega)) (by decide);have ox:aO (m:Int) 1:=⟨by decide,by simp⟩;have ag:∀s∈sh,∀c∈s.1,cj 1990 c/\aS c:=fun s dV p ag=>⟨((aq.1 s dV).rb.pts p ag).bp,((aq.1 s dV).rb.pts p ag).pt⟩;have l1:∀s∈sh,s.1.length<=1000:=fun s dV=>by have:=(aq.1 s dV).ln;omega
 have ls:=aq.2
 have fin:∀A B:List Piece,A=lowC c (cH w m) sh->B=highC c (cH w m) sh->vd (rX (vh (ku 5 (xK a_cut_upright a_cut_level) (eD (dA 6) (eD (dA 1) (eD (dA 2) (eD (dA 3) (eD (dA 5) ny)))))) (ku 5 (xK a_cut_upright a_cut_level) (eD (dA 7) (eD (dA 1) (eD (dA 2) (eD (dA 5) (eD (dA 4) ny)))))))) { nx:=fun x=>k (aI.val D.non),rt:=k } [.val (dSh sh),.val (.kfn (if c=true then a_cut_level else a_cut_upright)),.val (dR w),.val (.int x),.val (.int y),.val (.int m),.val (dSh A),.val (dSh B)]:=by
  rintro A B rfl rfl;refine⟨_,rfl,_,rfl,_,rfl,_,rfl,_,rfl,rfl,_,c,w,x,m,bA,n+1,t,rfl,lw,aF,aH,ow,by omega,by omega,s1,hm,by omega,?_⟩;dsimp only[bL];refine⟨_,rfl,_,rfl,_,rfl,_,rfl,_,rfl,rfl,_,c,w,m,y,bA,n+1,t,rfl,lw,aF,aH,kZ,og,by omega,s2,hm,by omega,?_⟩;dsimp only[bL];refine⟨_,_,rfl,rfl,?_,?_⟩
  ·rw[YL,YL,jz c w 2 _ _ _ ow (by omega),jz c w 2 _ _ _ kZ (by omega)];omega
  ·rw[<-ZD];exact ah
 cases c with
 | true =>
  refine .inr ⟨rfl,?_⟩;refine⟨_,rfl,_,rfl,_,rfl,cE,rfl,w.1,w.2,(m:Int),1,rfl,lw,ox,Gg aF (by decide),Gg aH (by decide),bm,by decide,?_⟩;dsimp only[bL];refine⟨rfl,sh,cH w m,rfl,eb,Gg bN (by decide),Gg b1 (by decide),ag,l1,by omega,?_⟩;dsimp only[bL];exact⟨_,rfl,rfl,_,_,rfl,_,_,rfl,rfl,fin _ _ rfl rfl⟩
 | false =>
  refine .inl ⟨rfl,?_⟩;refine⟨_,rfl,_,rfl,_,rfl,cE,rfl,w.1,w.2,(m:Int),1,rfl,lw,ox,Gg aF (by decide),Gg aH (by decide),bm,by decide,?_⟩;dsimp only[bL];refine⟨rfl,sh,cH w m,rfl,eb,Gg bN (by decide),Gg b1 (by decide),ag,l1,by omega,?_⟩;dsimp only[bL];exact⟨_,rfl,rfl,_,_,rfl,_,_,rfl,rfl,fin _ _ rfl rfl⟩
theorem Vb:cK ["sheet","wide","many"] ["sheet","wide","many"] (b4 yd):=by walk_at "sc"
def Jg  : FS:=fun as k=>∃(sh:List Piece)(w:bj)(q:Int)(m bA n t:Nat),as=[.val (dSh sh),.val (dR w),.val (.int q)]/\(q+1=m)/\(aO w.1 w.2)/\(intBits w.1<=70)/\(intBits w.2<=70)/\(1<=m)/\(m<=8)/\(c4 1990 bA n t 400 sh)/\(153<=bA/\bA<=1800)/\(n<=70)/\(t<=2770)/\k (.own ((d3 false w sh m).map dSh))
theorem Vc(B:cU mg){a_cut_level:Addr}(ja:mg "cut_level"=some (.ref a_cut_level)){a_cut_upright:Addr}(jb:mg "cut_upright"=some (.ref a_cut_upright))(F:cG K mg "columns_of" yd ["sheet","wide","many"])(ke:aJ P w K mg base "slices" ["sheet","cut","size","first","last"] 10 (aL K 5 (CI a_cut_upright a_cut_level)))(l2:aJ P w K mg base "moved" ["sheet","step"] 4 (aL K 2 rp))(hC:aJ P w K mg base "at" ["x","y"] 3 (aL K 2 ou))(hk:aJ P w K mg base "times" ["one","other"] 3 (aL K 2 l0)):
  aJ P w K mg base "columns_of" ["sheet","wide","many"] 11 (aL K 3 Jg):=by
 refine di (lv:=10) F Vb rfl (fun f cdv A outer s H E ak=>⟨_,(bJ (Eg (Hu (ts:=["place","part"]) (fr:=["wide"]) (js:=[1]) (Hy (a3 ke ak (by rfl) (aw (ae 0) (aw (Hw jb (by rfl)) (aw (ae 1) (aw az (aw (eC (ae 2) az) aV)))))) (by rfl) B.enumerate_) (fun _ _ _ _=>(gz (n:=2) rfl (c' (cq (i:=0) (show ZZ (["place","part","wide"]:List Str) by decide +kernel) rfl (Sz rfl)) (c' (cq (i:=1) (show ZZ (["place","part","wide"]:List Str) by decide +kernel) rfl (Sz rfl)) gc)))) (fun _ _ _ _=>jT) (fun _ _ _ _=>(a3 l2 ak (by rfl) (aw (ae 1) (aw (a3 hC ak (by rfl) (aw (a3 hk ak (by rfl) (aw (ae 2) (aw (cY (aR (iq (ae 0)) (aR az bR))) aV))) (aw (cY (aR az (aR az bR))) aV))) aV)))) ⟨rfl,by decide +kernel,rfl,by decide +kernel,iw (aae.mpr ⟨rfl,(Z6 _)⟩),iV rfl,by walk_at "ffr",rfl⟩))),?_⟩);rintro as k aj ⟨sh,w,q,m,bA,n,t,rfl,aA,lw,aF,aH,bw,ri,aq,hm,aN,bt,ah⟩;refine cZ (r:=[.val (dSh sh),.val (dR w),.val (.int q)]) rfl ?_;have cE:2<=sizeLine:=by decide
 have big:10000<=sizeLine:=by decide
 have eG:aO 0 1:=⟨by decide,by decide⟩;have sz:=tO (c:=false) (w:=w) (b:=1990) (m:=bA) (t:=t) (N:=400) (q:=70) lw.1 aF aH (by omega) (by omega) 3 (n:=n) (sh:=sh) (x:=0) (y:=m) (by omega) ri aq;have sl:=jz false w 3 sh 0 m (by omega) (by omega);refine⟨_,rfl,_,rfl,_,rfl,_,_,rfl,rfl,rfl,sh,false,w,0,m,bA,n,t,by rw[<-aA];rfl,lw,aF,aH,by omega,ri,by omega,aq,hm,by omega,?_⟩;dsimp only[bL];refine⟨_,rfl,by rw[xf,YL,sl];omega,?_⟩;refine BW (f:=dSh) (h:=fun j S=>dSh (S.map (eg (jA false w j)))) (fun j S CJ k ah=>?_) (by rw[d3,BU]at ah;exact ah);obtain⟨_,eO,lM⟩:=BX CJ;rw[sl]at eO;have zs:=sz S lM;obtain⟨eb,_⟩:=gi (w:=w) lw.1 (-(j:Int));obtain⟨bN,b1⟩:=i9 (w:=w) (q:=70) lw.1 aF aH (k :=-(j:Int)) (by omega);have CK:aO (-(j:Int)) 1:=⟨by decide,by simp⟩;have CL:intBits (-(j:Int))<=4000:=Gg (lr (by omega) (by omega)) (by decide);have gp:=BY (c:=false) (w:=w) (q:=70) lw.1 aF aH (j:=j) (by omega);refine⟨_,rfl,_,rfl,_,rfl,_,rfl,cE,rfl,w.1,w.2,-(j:Int),1,rfl,lw,CK,Gg aF (by decide),Gg aH (by decide),CL,by decide,?_⟩;dsimp only[bL];refine⟨cE,rfl,_,_,(cH w (-(j:Int))).1,(cH w (-(j:Int))).2,0,1,rfl,rfl,rfl,eb,eG,Gg bN (by decide),Gg b1 (by decide),by decide,by decide,?_⟩;dsimp only[bL];refine⟨rfl,S,jA false w j,rfl,zs.2,fun s dV=>(zs.1 s dV).gm (by decide) (by omega) bt,gp.mono (by decide),?_⟩;exact ah
theorem Vd:cK ["sheet","high","many"] ["sheet","high","many"] (b4 ye):=by walk_at "sc"
def Jh  : FS:=fun as k=>∃(sh:List Piece)(w:bj)(q:Int)(m bA n t:Nat),as=[.val (dSh sh),.val (dR w),.val (.int q)]/\(q+1=m)/\(aO w.1 w.2)/\(intBits w.1<=70)/\(intBits w.2<=70)/\(1<=m)/\(m<=8)/\(c4 1990 bA n t 400 sh)/\(153<=bA/\bA<=1800)/\(n<=70)/\(t<=2770)/\k (.own ((d3 true w sh m).map dSh))
theorem Ve(B:cU mg){a_cut_level:Addr}(ja:mg "cut_level"=some (.ref a_cut_level)){a_cut_upright:Addr}(jb:mg "cut_upright"=some (.ref a_cut_upright))(F:cG K mg "layers_of" ye ["sheet","high","many"])(ke:aJ P w K mg base "slices" ["sheet","cut","size","first","last"] 10 (aL K 5 (CI a_cut_upright a_cut_level)))(l2:aJ P w K mg base "moved" ["sheet","step"] 4 (aL K 2 rp))(hC:aJ P w K mg base "at" ["x","y"] 3 (aL K 2 ou))(hk:aJ P w K mg base "times" ["one","other"] 3 (aL K 2 l0)):
  aJ P w K mg base "layers_of" ["sheet","high","many"] 11 (aL K 3 Jh):=by
 refine di (lv:=10) F Vd rfl (fun f cdv A outer s H E ak=>⟨_,(bJ (Eg (Hu (ts:=["place","part"]) (fr:=["high"]) (js:=[1]) (Hy (a3 ke ak (by rfl) (aw (ae 0) (aw (Hw ja (by rfl)) (aw (ae 1) (aw az (aw (eC (ae 2) az) aV)))))) (by rfl) B.enumerate_) (fun _ _ _ _=>(gz (n:=2) rfl (c' (cq (i:=0) (show ZZ (["place","part","high"]:List Str) by decide +kernel) rfl (Sz rfl)) (c' (cq (i:=1) (show ZZ (["place","part","high"]:List Str) by decide +kernel) rfl (Sz rfl)) gc)))) (fun _ _ _ _=>jT) (fun _ _ _ _=>(a3 l2 ak (by rfl) (aw (ae 1) (aw (a3 hC ak (by rfl) (aw (cY (aR az (aR az bR))) (aw (a3 hk ak (by rfl) (aw (ae 2) (aw (cY (aR (iq (ae 0)) (aR az bR))) aV))) aV))) aV)))) ⟨rfl,by decide +kernel,rfl,by decide +kernel,iw (aae.mpr ⟨rfl,(Z6 _)⟩),iV rfl,by walk_at "ffr",rfl⟩))),?_⟩);rintro as k aj ⟨sh,w,q,m,bA,n,t,rfl,aA,lw,aF,aH,bw,ri,aq,hm,aN,bt,ah⟩;refine cZ (r:=[.val (dSh sh),.val (dR w),.val (.int q)]) rfl ?_;have cE:2<=sizeLine:=by decide
 have big:10000<=sizeLine:=by decide
 have eG:aO 0 1:=⟨by decide,by decide⟩;have sz:=tO (c:=true) (w:=w) (b:=1990) (m:=bA) (t:=t) (N:=400) (q:=70) lw.1 aF aH (by omega) (by omega) 3 (n:=n) (sh:=sh) (x:=0) (y:=m) (by omega) ri aq;have sl:=jz true w 3 sh 0 m (by omega) (by omega);refine⟨_,rfl,_,rfl,_,rfl,_,_,rfl,rfl,rfl,sh,true,w,0,m,bA,n,t,by rw[<-aA];rfl,lw,aF,aH,by omega,ri,by omega,aq,hm,by omega,?_⟩;dsimp only[bL];refine⟨_,rfl,by rw[xf,YL,sl];omega,?_⟩;refine BW (f:=dSh) (h:=fun j S=>dSh (S.map (eg (jA true w j)))) (fun j S CJ k ah=>?_) (by rw[d3,BU]at ah;exact ah);obtain⟨_,eO,lM⟩:=BX CJ;rw[sl]at eO;have zs:=sz S lM;obtain⟨eb,_⟩:=gi (w:=w) lw.1 (-(j:Int));obtain⟨bN,b1⟩:=i9 (w:=w) (q:=70) lw.1 aF aH (k :=-(j:Int)) (by omega);have CK:aO (-(j:Int)) 1:=⟨by decide,by simp⟩;have CL:intBits (-(j:Int))<=4000:=Gg (lr (by omega) (by omega)) (by decide);have gp:=BY (c:=true) (w:=w) (q:=70) lw.1 aF aH (j:=j) (by omega);refine⟨_,rfl,cE,_,rfl,_,rfl,_,rfl,cE,rfl,w.1,w.2,-(j:Int),1,rfl,lw,CK,Gg aF (by decide),Gg aH (by decide),CL,by decide,?_⟩;dsimp only[bL];refine⟨rfl,_,_,0,1,(cH w (-(j:Int))).1,(cH w (-(j:Int))).2,rfl,rfl,rfl,eG,eb,by decide,by decide,Gg bN (by decide),Gg b1 (by decide),?_⟩;dsimp only[bL];refine⟨rfl,S,jA true w j,rfl,zs.2,fun s dV=>(zs.1 s dV).gm (by decide) (by omega) bt,gp.mono (by decide),?_⟩;exact ah
def Ji  : FS:=fun as k=>∃(d5:D)(x y u v:Int),as=[.val d5,.val (dR (u,v))]/\(sv d5=some [.int x,.int y])/\(aO x y)/\(aO u v)/\(intBits x<=4000)/\(intBits y<=4000)/\(intBits u<=4000)/\(intBits v<=4000)/\k (.val (dR (cA (x*v+u*y) (y*v))))
theorem Vf(B:cU mg)(F:cG K mg "plus" um ["one","other"])(hW:aJ P w K mg base "greatest_divisor" ["one","other"] 2 (aL K 2 pQ)):
  aJ P w K mg base "plus" ["one","other"] 3 (aL K 2 Ji):=by
 refine di (lv:=2) F ov rfl (fun f cdv A outer s H E ak=>⟨_,(a8 (cz (i:=2) ov.nd rfl (Sz rfl) (a3 hW ak (by rfl) (aw (h5 (ae 0) az (fun _ _=>rfl)) (aw (h5 (ae 1) az (fun _ _=>rfl)) aV)))) (a8 (cz (i:=3) ov.nd rfl (Sz rfl) (eC (cy (h5 (ae 0) az (fun _ _=>rfl)) (dF (h5 (ae 1) az (fun _ _=>rfl)) (ae 2))) (cy (h5 (ae 1) az (fun _ _=>rfl)) (dF (h5 (ae 0) az (fun _ _=>rfl)) (ae 2))))) (a8 (cz (i:=4) ov.nd rfl (Sz rfl) (a3 hW ak (by rfl) (aw (ae 2) (aw (ae 3) aV)))) (bJ (cw (cY (aR (dF (ae 3) (ae 4)) (aR (cy (dF (h5 (ae 0) az (fun _ _=>rfl)) (ae 2)) (dF (h5 (ae 1) az (fun _ _=>rfl)) (ae 4))) bR)))))))),?_⟩);rintro as k aj ⟨d5,x,y,u,v,rfl,aC,bx,bB,i6,hb,iA,bv,ah⟩;refine cZ (r:=[.val d5,.val (dR (u,v)),.no,.no,.no]) rfl ?_;have v0:v≠0:=YM bB.1;have sp:=nk (t:=y) (b:=v) v0;have f6:=kG (a:=y) (b:=v) v0 bv;have c1:=fun top d=>Fc bx bB (s:=((YJ y v:Nat):Int)) (top:=top) (d:=d) rfl;refine⟨_,rfl,_,_,_,aC,rfl,rfl,_,rfl,_,_,_,rfl,rfl,rfl,rfl,_,_,rfl,?_⟩;dsimp only[bL];generalize((YJ y v:Nat):Int)=s at *;have a9:intBits (v.fdiv s)<=4000:=d6 (natAbs_fdiv_le _ _) bv;have ba:intBits (y.fdiv s)<=4000:=d6 (natAbs_fdiv_le _ _) hb;have tb:intBits (x*v.fdiv s+u*y.fdiv s)<=8001:=intBits_add_le (intBits_mul_le i6 a9) (intBits_mul_le iA ba);have hd:∀z:Int,qf z s:=fun z=>⟨by omega,Gg f6 (by decide)⟩;have c1:=fun d=>c1 _ d rfl;refine⟨_,rfl,_,_,_,aC,rfl,rfl,_,rfl,_,_,_,rfl,rfl,rfl,_,rfl,_,_,rfl,rfl,hd _,_,_,rfl,rfl,⟨by walk_at "bits",by walk_at "bits"⟩,?_⟩;refine⟨_,rfl,_,_,_,rfl,rfl,rfl,_,rfl,_,_,_,aC,rfl,rfl,_,rfl,_,_,rfl,rfl,hd _,_,_,rfl,rfl,⟨by walk_at "bits",by walk_at "bits"⟩,_,_,rfl,rfl,?_⟩;dsimp only;generalize x*v.fdiv s+u*y.fdiv s=top at *;refine⟨_,rfl,_,rfl,rfl,_,_,rfl,?_⟩;dsimp only[bL];have c1:=c1 _ rfl;have dp:=kH (a:=s) (b:=top) (.inl (YM sp))
 have db:intBits ((YJ s top:Nat):Int)<=4000:=by
  rw[aam];exact kG (YM sp) f6
 generalize((YJ s top:Nat):Int)=d at *;have dG:intBits (v.fdiv d)<=4000:=d6 (natAbs_fdiv_le _ _) bv;have hd2:∀z:Int,qf z d:=fun z=>⟨by omega,Gg db (by decide)⟩;rw[<-c1]at ah;refine⟨_,rfl,_,rfl,_,_,rfl,rfl,hd2 _,?_⟩;refine⟨_,rfl,_,_,_,aC,rfl,rfl,_,rfl,_,_,rfl,rfl,hd _,_,rfl,_,_,_,rfl,rfl,rfl,_,rfl,_,_,rfl,rfl,hd2 _,_,_,rfl,rfl,⟨by walk_at "bits",by walk_at "bits"⟩,show 2<=sizeLine by decide,?_⟩;exact ah
theorem pT:cK ["boxes","height","pile","wide","high","sheet"] ["boxes"] (b4 yf):=by walk_at "sc"
def Jj  : FS:=fun as k=>∃(dr:BoxD)(bs:List BoxD),as=[.val (.lst ((dr::bs).map dBx))]/\(∀b∈dr::bs,aO b.2.1.1 b.2.1.2/\intBits b.2.1.1<=350/\intBits b.2.1.2<=350/\∀s∈b.2.2,GM s)/\(∀pre b rest,dr::bs=pre++b::rest->intBits (du pre (0,1)).1<=350/\intBits (du pre (0,1)).2<=350)/\(((dr::bs).map fun b=>b.2.2.length).sum<=400)/\k (.new (.tup [dR dr.1,dR (du (dr::bs) (0,1)),dSh (ey (dr::bs) (0,1))]))
theorem Vg(B:cU mg)(k5:qG K mg "NOTHING" [0,1])(F:cG K mg "piled" yf ["boxes"])(l2:aJ P w K mg base "moved" ["sheet","step"] 4 (aL K 2 rp))(hC:aJ P w K mg base "at" ["x","y"] 3 (aL K 2 ou))(CF:aJ P w K mg base "plus" ["one","other"] 3 (aL K 2 Ji)):
  aJ P w K mg base "piled" ["boxes"] 5 (aL K 1 Jj):=by
 refine sW (lv:=4) [true] F pT rfl (fun f cdv A outer s H E ak=>⟨_,(a8 (cz (i:=1) pT.nd rfl (Sz rfl) (sx k5 (by rfl))) (a8 (lD (i:=2) pT.nd rfl (Sz rfl) (fv bR)) (a8 (F6 0 PassesOwn.never rfl (F5 (n:=3) rfl (qL (v9 (i:=3) pT.nd rfl (Sz rfl)) (qL (v9 (i:=4) pT.nd rfl (Sz rfl)) (qL (F3 (i:=5) pT.nd rfl (Sz rfl)) F4)))) (a8 (EO 2 (v7 (v5 (su l2 ak (by rfl) (aw (ae 5) (aw (a3 hC ak (by rfl) (aw (sx k5 (by rfl)) (aw (ae 1) aV))) aV)))))) (bJ (cz (i:=1) pT.nd rfl (Sz rfl) (a3 CF ak (by rfl) (aw (ae 1) (aw (ae 4) aV))))))) (lC 2 (bJ (cw (cY (aR (AL (a0 (a0 (ae 0) az (fun _ _=>rfl)) az (fun _ _=>rfl))) (aR (ae 1) (aR (ae 2) bR)))))))))),?_⟩);rintro as k aj ⟨dr,bs,rfl,et,ag,aj,ah⟩;refine⟨⟨trivial,trivial⟩,cZ (r:=[.new (.lst ((dr::bs).map dBx)),.no,.no,.no,.no,.no]) rfl ?_⟩;have t3:3<=sizeLine:=by decide
 have big:10000<=sizeLine:=by decide
 have eG:aO 0 1:=⟨by decide,by decide⟩;refine eF (fun ρ=>ρ=[.new (.lst ((dr::bs).map dBx)),.val (.ktup [.int 0,.int 1]),.no,.no,.no,.no]) ?_ (fun N aY=>aY _ rfl);rintro ρ rfl;refine eF (fun ρ=>ρ=[.new (.lst ((dr::bs).map dBx)),.val (.ktup [.int 0,.int 1]),.own (.l ((ey [] (0,1)).map dS)),.no,.no,.no]) ?_ (fun N aY=>⟨aaa _,aY _ rfl⟩);rintro ρ rfl;refine eF (fun ρ=>∃ae v4 hA:aI,ρ=[.new (.lst ((dr::bs).map dBx)),.val (dR (du (dr::bs) (0,1))),.own (.l ((ey (dr::bs) (0,1)).map dS)),ae,v4,hA]) ?_ (fun N aY=>?_)
 ·rintro ρ ⟨ae,v4,hA,rfl⟩;refine⟨_,rfl,?_⟩;refine⟨_,rfl,(dr::bs).map dBx,0,dBx dr,.inr rfl,rfl,SV _ _,[dR dr.1,dR dr.2.1,dSh dr.2.2],0,dR dr.1,.inl rfl,rfl,rfl,rfl,?_⟩;exact⟨_,rfl,_,rfl,t3,ah⟩
 refine⟨_,rfl,?_⟩;refine HN (done:=[]) (bs:=dr::bs) (fun pre ρ=>∃(rq:D)(ae v4 hA:aI),ρ=[.new (.lst ((dr::bs).map dBx)),.val rq,.own (.l ((ey pre (0,1)).map dS)),ae,v4,hA]/\sv rq=some [.int (du pre (0,1)).1,.int (du pre (0,1)).2]/\(pre≠[]->rq=dR (du pre (0,1)))) ⟨_,_,_,_,rfl,rfl,fun z=>absurd rfl z⟩ ?_ (fun ρ h=>?_);rotate_left
 ·obtain⟨rq,ae,v4,hA,rfl,_,e⟩:=h;rw[e (by simp)];exact aY _ ⟨_,_,_,rfl⟩
 rintro pre x rest ρ he ⟨rq,ae,v4,hA,rfl,aB,_⟩ xy mV;rw[Z5]at he;obtain⟨lh,aF,aH,gm⟩:=et x (by rw[he];simp);obtain⟨ai,av⟩:=ag pre x rest he;have b2:aO (du pre (0,1)).1 (du pre (0,1)).2:=B0 eG fun b af=>(et b (by rw[he];simp[af])).1.1
 have BR:((pre.map fun b=>b.2.2.length).sum+(x.2.2.length+(rest.map fun b=>b.2.2.length).sum))<=400:=by
  rw[he]at aj;simpa using aj
 have gp:da 400 (b8 (0,1) (du pre (0,1))):=⟨(iz (n:=1*(du pre (0,1)).2) (YM (Ze (by decide) b2.1))).1,(j3 (x:=0) (y:=1) (m:=2) (by decide) (by decide) ai av eG b2).mono (by decide)⟩;dsimp only;refine⟨_,rfl,_,rfl,_,rfl,rfl,_,_,0,1,(du pre (0,1)).1,(du pre (0,1)).2,rfl,rfl,aB,eG,b2,by decide,by decide,Gg ai (by decide),Gg av (by decide),?_⟩;dsimp only[bL];refine⟨rfl,x.2.2,b8 (0,1) (du pre (0,1)),rfl,by omega,gm,gp,_,rfl,?_⟩;refine⟨_,rfl,by rw[YL,YL,YL,xh];omega,?_⟩
 have es:(ey pre (0,1)).map dS++(x.2.2.map (eg (b8 (0,1) (du pre (0,1))))).map dS=(ey (pre++[x]) (0,1)).map dS:=by
  rw[HL,ZD];show _=_++(x.2.2.map (eg (b8 (0,1) (du pre (0,1))))++[]).map dS
  rw[ZF]
 have n8:du (pre++[x]) (0,1)=h8 (du pre (0,1)) x.2.1:=by rw[BZ];rfl
 rw[es];refine⟨_,rfl,_,rfl,rfl,rq,(du pre (0,1)).1,(du pre (0,1)).2,x.2.1.1,x.2.1.2,rfl,aB,b2,lh,Gg ai (by decide),Gg av (by decide),Gg aF (by decide),Gg aH (by decide),?_⟩;exact mV _ ⟨dR (h8 (du pre (0,1)) x.2.1),_,_,_,rfl,by rw[n8];rfl,fun _=>by rw[n8]⟩
theorem pU:cK ["box","wide","broad","high","sheet","many","sheets","last"] ["box","wide"] (b4 yg):=by walk_at "sc"
def Jk  : FS:=fun as k=>∃(w h g:bj)(sh:List Piece)(N bA n t:Nat),as=[.val (dBx (w,h,sh)),.val (dR g)]/\(aO w.1 w.2)/\(aO h.1 h.2)/\(aO g.1 g.2)/\(0<w.1)/\(0<h.1)/\(0<g.1)/\(intBits w.1<=30)/\(intBits w.2<=30)/\(intBits h.1<=60)/\(intBits h.2<=60)/\(intBits g.1<=30)/\(intBits g.2<=30)/\((dY w g).1.fdiv (dY w g).2=N)/\(1<=N)/\(N<=8)/\(c4 1990 bA n t 130 sh)/\(153<=bA/\bA<=1500)/\(n<=40)/\(t<=2000)/\∀Ss Z,d3 false g sh N=Ss++[Z]->k (.val (.lst ((Ss.map (fun S=>((g,h,S):BoxD))++[(hi w g N,h,Z)]).map dBx)))
theorem Vh(B:cU mg)(F:cG K mg "in_columns" yg ["box","wide"])(Vi:aJ P w K mg base "most_whole" ["one"] 2 (aL K 1 Je))(rr:aJ P w K mg base "over" ["one","other"] 4 (aL K 2 xH))(Vj:aJ P w K mg base "columns_of" ["sheet","wide","many"] 11 (aL K 3 Jg))(xM:aJ P w K mg base "minus" ["one","other"] 4 (aL K 2 CE))(hk:aJ P w K mg base "times" ["one","other"] 3 (aL K 2 l0)):
  aJ P w K mg base "in_columns" ["box","wide"] 12 (aL K 2 Jk):=by
 refine di (lv:=11) F pU rfl (fun f cdv A outer s H E ak=>⟨_,(a8 (hL (ae 0) (gz (n:=3) rfl (c' (cq (i:=2) pU.nd rfl (Sz rfl)) (c' (cq (i:=3) pU.nd rfl (Zh rfl)) (c' (cq (i:=4) pU.nd rfl (Sz rfl)) gc))))) (a8 (cz (i:=5) pU.nd rfl (Sz rfl) (e8 (a3 Vi ak (by rfl) (aw (a3 rr ak (by rfl) (aw (ae 2) (aw (ae 1) aV))) aV)) az)) (a8 (lD (i:=6) pU.nd rfl (Sz rfl) (MW Vj ak (by rfl) (aw (ae 4) (aw (ae 1) (aw (ae 5) aV))))) (a8 (SG 7 6 (a3 xM ak (by rfl) (aw (ae 2) (aw (a3 hk ak (by rfl) (aw (ae 1) (aw (cY (aR (ae 5) (aR az bR))) aV))) aV))) (ae 3) pU.nd rfl (Sz rfl)) (lC 6 (bJ (cw (dQ (jR (dQ (o6 (ts:=["one"]) (fr:=["wide","high"]) (js:=[1,3]) (jQ (ae 6)) (fun _ _ _ _=>(cq (i:=0) (show ZZ (["one","wide","high"]:List Str) by decide +kernel) rfl (Sz rfl))) (fun _ _ _ _=>jT) (fun _ _ _ _=>(cY (aR (ae 1) (aR (ae 2) (aR (ae 0) bR))))) ⟨rfl,by decide +kernel,rfl,by decide +kernel,iw (aae.mpr ⟨rfl,(aae.mpr ⟨rfl,(Z6 _)⟩)⟩),iV rfl,by walk_at "ffr",rfl⟩)) (dQ (fv (aR (ae 7) bR)))))))))))),?_⟩);rintro as k aj ⟨w,h,g,sh,N,bA,n,t,rfl,lw,lh,aQ,w0,h0,a7,aF,aH,bV,bP,b5,b6,bI,gC,pE,aq,hm,aN,bt,ah⟩;refine cZ (r:=[.val (dBx (w,h,sh)),.val (dR g),.no,.no,.no,.no,.no,.no]) rfl ?_;have cE:2<=sizeLine:=by decide
 have t3:3<=sizeLine:=by decide
 have big:10000<=sizeLine:=by decide
 refine eF (fun ρ=>ρ=[.val (dBx (w,h,sh)),.val (dR g),.val (dR w),.val (dR h),.val (dSh sh),.no,.no,.no]) ?_ (fun N aY=>⟨_,rfl,_,rfl,rfl,_,_,rfl,_,_,rfl,_,_,rfl,rfl,aY _ rfl⟩);rintro ρ rfl;obtain⟨lo,z4⟩:=mR (a:=w) (b:=g) lw.1 a7 aQ.1;obtain⟨kK,kL⟩:=q3 (a:=w) (b:=g) (p:=30) (q:=30) lw.1 a7 aF aH b5 b6;refine eF (fun ρ=>ρ=[.val (dBx (w,h,sh)),.val (dR g),.val (dR w),.val (dR h),.val (dSh sh),.val (.int ((N:Int)-1)),.no,.no]) ?_ (fun N' aY=>?_);rotate_left
 ·refine⟨_,rfl,_,rfl,rfl,w.1,w.2,g.1,g.2,rfl,lw,aQ,Gg aF (by decide),Gg aH (by decide),Gg b5 (by decide),Gg b6 (by decide),by omega,?_⟩;dsimp only[bL];refine⟨rfl,(dY w g).1,(dY w g).2,rfl,lo.1,Gg kL (by decide),?_⟩;dsimp only[bL];rw[bI];exact⟨_,_,rfl,rfl,aY _ rfl⟩
 rintro ρ rfl;have cl:=lV (c:=false) (w:=g) (sh:=sh) gC pE
 obtain⟨Ss,Z,fY⟩:∃Ss Z,d3 false g sh N=Ss++[Z]:=by
  rcases abl (d3 false g sh N)with z|⟨Ss,Z,z⟩
  ·rw[z]at cl;simp at cl;omega
  ·exact⟨Ss,Z,by rw[z,abm]⟩
 refine eF (fun ρ=>ρ=[.val (dBx (w,h,sh)),.val (dR g),.val (dR w),.val (dR h),.val (dSh sh),.val (.int ((N:Int)-1)),.own (.l (Ss.map dSh++[dSh Z])),.no]) ?_ (fun N' aY=>?_);rotate_left
 ·refine⟨_,rfl,_,rfl,_,rfl,rfl,sh,g,(N:Int)-1,N,bA,n,t,rfl,by omega,aQ,Gg b5 (by decide),Gg b6 (by decide),gC,pE,aq.mono (YK _) (YK _) (YK _) (YK _) (by decide),by omega,by omega,by omega,?_⟩;refine⟨_,rfl,aY _ ?_⟩;rw[fY,ZD];rfl
 rintro ρ rfl;obtain⟨iI,_⟩:=gi (w:=g) aQ.1 ((N:Int)-1);obtain⟨bw,b3⟩:=i9 (w:=g) (q:=30) aQ.1 b5 b6 (k:=(N:Int)-1) (by omega);have pF:intBits ((N:Int)-1)<=4000:=Gg (lr (by omega) (by omega)) (by decide);have xN:aO ((N:Int)-1) 1:=⟨by decide,by simp⟩;refine eF (fun ρ=>ρ=[.val (dBx (w,h,sh)),.val (dR g),.val (dR w),.val (dR h),.val (dSh sh),.val (.int ((N:Int)-1)),.own (.l (Ss.map dSh)),.val (.tup [dR (hi w g N),dR h,dSh Z])]) ?_ (fun N' aY=>?_);rotate_left
 ·refine⟨Ss.map dSh,dSh Z,rfl,?_⟩;refine⟨_,rfl,_,rfl,_,rfl,cE,rfl,g.1,g.2,(N:Int)-1,1,rfl,aQ,xN,Gg b5 (by decide),Gg b6 (by decide),pF,by decide,?_⟩;dsimp only[bL];refine⟨rfl,w.1,w.2,(cH g ((N:Int)-1)).1,(cH g ((N:Int)-1)).2,rfl,lw,iI,Gg aF (by decide),Gg aH (by decide),Gg bw (by decide),Gg b3 (by decide),?_⟩;exact⟨_,rfl,aY _ rfl⟩
 rintro ρ rfl
 have ll:Ss.length<=8:=by
  have:=congrArg ZS fY;rw[cl,Zg]at this;simp at this;omega
 refine⟨_,rfl,?_⟩;refine⟨_,rfl,_,rfl,by rw[YL];omega,?_⟩;refine lG (f:=dSh) (h:=fun S=>D.tup [dR g,dR h,dSh S]) (fun S cp k ah=>⟨_,rfl,_,rfl,_,rfl,t3,ah⟩) ?_;refine⟨_,rfl,show 1<=sizeLine by decide,_,_,rfl,rfl,by rw[YL,aal];omega,?_⟩;have:=ah Ss Z fY;rw[ZD,ZV]at this;exact this
theorem mY:cK ["box","wide","narrow","high","sheet","many","low","row","place","layer"] ["box","wide"] (b4 yh):=by walk_at "sc"
def Jl  : FS:=fun as k=>∃(w h g:bj)(sh:List Piece)(N bA n t:Nat),as=[.val (dBx (w,h,sh)),.val (dR g)]/\(aO w.1 w.2)/\(aO h.1 h.2)/\(aO g.1 g.2)/\(0<w.1)/\(0<h.1)/\(0<g.1)/\(intBits w.1<=30)/\(intBits w.2<=30)/\(intBits h.1<=60)/\(intBits h.2<=60)/\(intBits g.1<=30)/\(intBits g.2<=30)/\(-((-(dY g w).1).fdiv (dY g w).2)=N)/\(1<=N)/\(N<=8)/\(c4 1990 bA n t 130 sh)/\(153<=bA/\bA<=1500)/\(n<=40)/\(t<=2000)/\k (.val (dBx (cH w N,fi h N,fe w 0 (d3 true (fi h N) sh N))))
theorem Vk(B:cU mg)(k5:qG K mg "NOTHING" [0,1])(F:cG K mg "in_layers" yh ["box","wide"])(Vl:aJ P w K mg base "least_whole" ["one"] 2 (aL K 1 Jd))(rr:aJ P w K mg base "over" ["one","other"] 4 (aL K 2 xH))(Vm:aJ P w K mg base "layers_of" ["sheet","high","many"] 11 (aL K 3 Jh))(l2:aJ P w K mg base "moved" ["sheet","step"] 4 (aL K 2 rp))(hC:aJ P w K mg base "at" ["x","y"] 3 (aL K 2 ou))(hk:aJ P w K mg base "times" ["one","other"] 3 (aL K 2 l0)):
  aJ P w K mg base "in_layers" ["box","wide"] 12 (aL K 2 Jl):=by
 refine di (lv:=11) F mY rfl (fun f cdv A outer s H E ak=>⟨_,(a8 (hL (ae 0) (gz (n:=3) rfl (c' (cq (i:=2) mY.nd rfl (Sz rfl)) (c' (cq (i:=3) mY.nd rfl (Sz rfl)) (c' (cq (i:=4) mY.nd rfl (Sz rfl)) gc))))) (a8 (cz (i:=5) mY.nd rfl (Sz rfl) (a3 Vl ak (by rfl) (aw (a3 rr ak (by rfl) (aw (ae 1) (aw (ae 2) aV))) aV))) (a8 (cz (i:=6) mY.nd rfl (Sz rfl) (a3 rr ak (by rfl) (aw (ae 3) (aw (cY (aR (ae 5) (aR az bR))) aV)))) (a8 (lD (i:=7) mY.nd rfl (Sz rfl) (fv bR)) (a8 (Qb PassesOwn.never rfl (a3 Vm ak (by rfl) (aw (ae 4) (aw (ae 6) (aw (e8 (ae 5) az) aV)))) (by rfl) B.enumerate_ (gz (n:=2) rfl (c' (cq (i:=8) mY.nd rfl (Sz rfl)) (c' (cq (i:=9) mY.nd rfl (Sz rfl)) gc))) (bJ (EO 7 (a3 l2 ak (by rfl) (aw (ae 9) (aw (a3 hC ak (by rfl) (aw (a3 hk ak (by rfl) (aw (ae 2) (aw (cY (aR (ae 8) (aR az bR))) aV))) (aw (sx k5 (by rfl)) aV))) aV)))))) (lC 7 (bJ (cw (cY (aR (a3 hk ak (by rfl) (aw (ae 2) (aw (cY (aR (ae 5) (aR az bR))) aV))) (aR (ae 6) (aR (ae 7) bR)))))))))))),?_⟩);rintro as k aj ⟨w,h,g,sh,N,bA,n,t,rfl,lw,lh,aQ,w0,h0,a7,aF,aH,bV,bP,b5,b6,bI,gC,pE,aq,hm,aN,bt,ah⟩;refine cZ (r:=[.val (dBx (w,h,sh)),.val (dR g),.no,.no,.no,.no,.no,.no,.no,.no]) rfl ?_;have cE:2<=sizeLine:=by decide
 have t3:3<=sizeLine:=by decide
 have big:10000<=sizeLine:=by decide
 have eG:aO 0 1:=⟨by decide,by decide⟩;refine eF (fun ρ=>ρ=[.val (dBx (w,h,sh)),.val (dR g),.val (dR w),.val (dR h),.val (dSh sh),.no,.no,.no,.no,.no]) ?_ (fun N aY=>⟨_,rfl,_,rfl,rfl,_,_,rfl,_,_,rfl,_,_,rfl,rfl,aY _ rfl⟩);rintro ρ rfl;obtain⟨lo,z4⟩:=mR (a:=g) (b:=w) aQ.1 w0 lw.1;obtain⟨kK,kL⟩:=q3 (a:=g) (b:=w) (p:=30) (q:=30) aQ.1 w0 b5 b6 aF aH;refine eF (fun ρ=>ρ=[.val (dBx (w,h,sh)),.val (dR g),.val (dR w),.val (dR h),.val (dSh sh),.val (.int N),.no,.no,.no,.no]) ?_ (fun N' aY=>?_);rotate_left
 ·refine⟨_,rfl,_,rfl,rfl,g.1,g.2,w.1,w.2,rfl,aQ,lw,Gg b5 (by decide),Gg b6 (by decide),Gg aF (by decide),Gg aH (by decide),by omega,?_⟩;dsimp only[bL];refine⟨rfl,(dY g w).1,(dY g w).2,rfl,lo.1,Gg kL (by decide),?_⟩;dsimp only[bL];rw[bI];exact aY _ rfl
 rintro ρ rfl;have pF:intBits (N:Int)<=4:=d6 (t:=8) (by omega) (by decide);have xN:aO (N:Int) 1:=⟨by decide,by simp⟩;obtain⟨eR,gU⟩:=mR (a:=h) (b:=((N:Int),1)) lh.1 (by show(0:Int)<N;omega) (show(0:Int)<1 by decide);obtain⟨bx,bB⟩:=q3 (a:=h) (b:=((N:Int),1)) (p:=60) (q:=4) lh.1 (by show(0:Int)<N;omega) bV bP pF (show intBits 1<=4 by decide);have Vn:dY h ((N:Int),1)=fi h N:=rfl;rw[Vn]at eR bx bB;refine eF (fun ρ=>ρ=[.val (dBx (w,h,sh)),.val (dR g),.val (dR w),.val (dR h),.val (dSh sh),.val (.int N),.val (dR (fi h N)),.no,.no,.no]) ?_ (fun N' aY=>?_);rotate_left
 ·refine⟨_,rfl,_,rfl,cE,rfl,h.1,h.2,(N:Int),1,rfl,lh,xN,Gg bV (by decide),Gg bP (by decide),Gg pF (by decide),by decide,by omega,?_⟩;exact aY _ rfl
 rintro ρ rfl;refine eF (fun ρ=>ρ=[.val (dBx (w,h,sh)),.val (dR g),.val (dR w),.val (dR h),.val (dSh sh),.val (.int N),.val (dR (fi h N)),.own (.l ((fe w 0 []).map dS)),.no,.no]) ?_ (fun N aY=>⟨aaa _,aY _ rfl⟩);rintro ρ rfl;obtain⟨L,eT⟩:∃L,L=fi h N:=⟨_,rfl⟩;rw[<-eT]at eR bx bB ah ⊢;have cl:=lV (c:=true) (w:=L) (sh:=sh) gC pE;have i':=xj (c:=true) (w:=L) (b:=1990) (m:=bA) (t:=t) (N:=130) (q:=64) eR.1 bx bB (by omega) (by omega) gC pE aq;obtain⟨Zs,_⟩:=gi (w:=w) lw.1 (N:Int);obtain⟨w1,c7⟩:=i9 (w:=w) (q:=30) lw.1 aF aH (k:=(N:Int)) (by omega);refine eF (fun ρ=>∃fZ hB:aI,ρ=[.val (dBx (w,h,sh)),.val (dR g),.val (dR w),.val (dR h),.val (dSh sh),.val (.int N),.val (dR L),.own (.l ((fe w 0 (d3 true L sh N)).map dS)),fZ,hB]) ?_ (fun N' aY=>?_)
 ·rintro ρ ⟨fZ,hB,rfl⟩;refine⟨_,rfl,?_⟩;refine⟨_,rfl,_,rfl,cE,rfl,w.1,w.2,(N:Int),1,rfl,lw,xN,Gg aF (by decide),Gg aH (by decide),Gg pF (by decide),by decide,?_⟩;exact⟨_,rfl,_,rfl,t3,ah⟩
 refine⟨_,rfl,_,rfl,_,rfl,_,_,rfl,rfl,rfl,sh,L,(N:Int)-1,N,bA,n,t,rfl,by omega,eR,Gg bx (by decide),Gg bB (by decide),gC,pE,aq.mono (YK _) (YK _) (YK _) (YK _) (by decide),by omega,by omega,by omega,?_⟩;dsimp only[bL];refine⟨_,rfl,?_⟩;generalize uZ:d3 true L sh N=B9 at cl i' ah aY;refine AI (f:=dSh) (rs:=B9) (done:=[]) (fun pre ρ=>∃fZ hB:aI,ρ=[.val (dBx (w,h,sh)),.val (dR g),.val (dR w),.val (dR h),.val (dSh sh),.val (.int N),.val (dR L),.own (.l ((fe w 0 pre).map dS)),fZ,hB]/\(fe w 0 pre).length<=130*pre.length) ⟨_,_,rfl,by simp[fe,e1]⟩ ?_ (fun ρ h=>?_);rotate_left
 ·obtain⟨fZ,hB,rfl,_⟩:=h;exact aY _ ⟨fZ,hB,rfl⟩
 rintro pre S rest ρ he ⟨fZ,hB,rfl,Cc⟩ xy mV;rw[Z5]at he
 have c1:pre.length<8:=by
  have:=congrArg ZS he;rw[cl]at this;simp at this;omega
 have Jm:=i' S (by rw[he];simp);have qT:=Jm.2;obtain⟨eb,_⟩:=gi (w:=w) lw.1 (pre.length:Int);obtain⟨bK,ew⟩:=i9 (w:=w) (q:=30) lw.1 aF aH (k:=(pre.length:Int)) (by omega);have bp:intBits (pre.length:Int)<=4000:=Gg (lr (by omega) (by omega)) (by decide);have Vo:aO (pre.length:Int) 1:=⟨by decide,by simp⟩;have gp:=j9 (a:=cH w (pre.length:Int)) (b:=(0,1)) (p:=34) (q:=2) eb eG bK ew (by decide) (by decide);dsimp only;refine⟨_,rfl,_,rfl,_,rfl,_,rfl,cE,rfl,w.1,w.2,(pre.length:Int),1,rfl,lw,Vo,Gg aF (by decide),Gg aH (by decide),bp,by decide,?_⟩;dsimp only[bL];refine⟨rfl,_,_,(cH w (pre.length:Int)).1,(cH w (pre.length:Int)).2,0,1,rfl,rfl,rfl,eb,eG,Gg bK (by decide),Gg ew (by decide),by decide,by decide,?_⟩;dsimp only[bL];refine⟨rfl,S,b8 (cH w (pre.length:Int)) (0,1),rfl,by omega,fun s dV=>(Jm.1 s dV).gm (by decide) (by omega) (by omega),gp.mono (by decide),?_⟩;dsimp only[bL];have es:(fe w 0 pre).map dS++(S.map (eg (b8 (cH w (pre.length:Int)) (0,1)))).map dS=(fe w 0 (pre++[S])).map dS:=by rw[B1,ZD,aav]
 refine⟨_,rfl,by rw[YL,YL,YL];omega,mV _ ⟨.val (.int pre.length),.val (dSh S),by rw[es];rfl,?_⟩⟩;rw[B1,Zg,YL,Zg,aal];omega
theorem k6:cK ["box","wide","broad","low","sheet","high","below","above","kept","beyond","onto","back"] ["box","wide"] (b4 yi):=by walk_at "sc"
def Jn  : FS:=fun as k=>∃(w h g:bj)(sh:List Piece)(bA n t:Nat),as=[.val (dBx (w,h,sh)),.val (dR g)]/\(aO w.1 w.2)/\(aO h.1 h.2)/\(aO g.1 g.2)/\(0<w.1)/\(0<h.1)/\(0<g.1)/\(intBits w.1<=70)/\(intBits w.2<=70)/\(intBits h.1<=70)/\(intBits h.2<=70)/\(intBits g.1<=30)/\(intBits g.2<=30)/\(c4 1990 bA n t 130 sh)/\(350<=bA/\bA<=1600)/\(n<=60)/\(t<=2000)/\k (.val (dBx (if w=g then(w,h,sh)else(g,dH w h g,kX w h g sh))))
theorem Vp(B:cU mg)(k5:qG K mg "NOTHING" [0,1])(F:cG K mg "in_three" yi ["box","wide"])(rr:aJ P w K mg base "over" ["one","other"] 4 (aL K 2 xH))(hk:aJ P w K mg base "times" ["one","other"] 3 (aL K 2 l0))(ua:aJ P w K mg base "cut_sheet" ["sheet","p","q"] 6 (aL K 3 xE))(hC:aJ P w K mg base "at" ["x","y"] 3 (aL K 2 ou))(pS:aJ P w K mg base "cut_upright" ["sheet","place"] 7 (aL K 2 t9))(l2:aJ P w K mg base "moved" ["sheet","step"] 4 (aL K 2 rp))(CG:aJ P w K mg base "against" ["one"] 2 (aL K 1 CD))(xM:aJ P w K mg base "minus" ["one","other"] 4 (aL K 2 CE)):
  aJ P w K mg base "in_three" ["box","wide"] 8 (aL K 2 Jn):=by
 refine di (lv:=7) F k6 rfl (fun f cdv A outer s H E ak=>⟨_,(a8 (hL (ae 0) (gz (n:=3) rfl (c' (cq (i:=2) k6.nd rfl (Sz rfl)) (c' (cq (i:=3) k6.nd rfl (Sz rfl)) (c' (cq (i:=4) k6.nd rfl (Sz rfl)) gc))))) (a8 (eM (zV (ak.units) (ae 2) (ae 1) (dv _)) (bJ (cw (ae 0))) eX) (a8 (cz (i:=5) k6.nd rfl (Sz rfl) (a3 rr ak (by rfl) (aw (a3 hk ak (by rfl) (aw (ae 2) (aw (ae 3) aV))) (aw (ae 1) aV)))) (a8 (hL (a3 ua ak (by rfl) (aw (ae 4) (aw (a3 hC ak (by rfl) (aw (ae 2) (aw (sx k5 (by rfl)) aV))) (aw (a3 hC ak (by rfl) (aw (sx k5 (by rfl)) (aw (ae 5) aV))) aV)))) (gz (n:=2) rfl (c' (cq (i:=6) k6.nd rfl (Sz rfl)) (c' (cq (i:=7) k6.nd rfl (Sz rfl)) gc)))) (a8 (hL (a3 pS ak (by rfl) (aw (ae 6) (aw (ae 1) aV))) (gz (n:=2) rfl (c' (cq (i:=8) k6.nd rfl (Sz rfl)) (c' (cq (i:=9) k6.nd rfl (Sz rfl)) gc)))) (a8 (cz (i:=10) k6.nd rfl (Sz rfl) (a3 l2 ak (by rfl) (aw (ae 9) (aw (a3 hC ak (by rfl) (aw (a3 CG ak (by rfl) (aw (ae 1) aV)) (aw (ae 3) aV))) aV)))) (a8 (cz (i:=11) k6.nd rfl (Sz rfl) (a3 l2 ak (by rfl) (aw (ae 7) (aw (a3 hC ak (by rfl) (aw (a3 xM ak (by rfl) (aw (ae 1) (aw (ae 2) aV))) (aw (a3 xM ak (by rfl) (aw (ae 5) (aw (ae 3) aV))) aV))) aV)))) (bJ (cw (cY (aR (ae 1) (aR (ae 5) (aR (dQ (jR (dQ (jR (ae 8) (ae 10))) (ae 11))) bR))))))))))))),?_⟩);rintro as k aj ⟨w,h,g,sh,bA,n,t,rfl,lw,lh,aQ,w0,h0,a7,aF,aH,bV,bP,b5,b6,aq,hm,aN,bt,ah⟩;refine cZ (r:=[.val (dBx (w,h,sh)),.val (dR g),.no,.no,.no,.no,.no,.no,.no,.no,.no,.no]) rfl ?_;have cE:2<=sizeLine:=by decide
 have t3:3<=sizeLine:=by decide
 have big:10000<=sizeLine:=by decide
 have eG:aO 0 1:=⟨by decide,by decide⟩;refine eF (fun ρ=>ρ=[.val (dBx (w,h,sh)),.val (dR g),.val (dR w),.val (dR h),.val (dSh sh),.no,.no,.no,.no,.no,.no,.no]) ?_ (fun N aY=>⟨_,rfl,_,rfl,rfl,_,_,rfl,_,_,rfl,_,_,rfl,rfl,aY _ rfl⟩);rintro ρ rfl;by_cases ho:w=g
 ·rw[if_pos ho]at ah;subst ho;refine⟨_,rfl,_,rfl,.T [.I,.I],rfl,rfl,by decide,_,rfl,?_⟩;change (if eqD (dR w) (dR w)=true then _ else _);rw[mv];exact qt rfl ⟨_,rfl,ah⟩
 rw[if_neg ho]at ah
 have ne:eqD (dR w) (dR g)=false:=mw (by
  constructor
  ·intro z;cases z
  ·intro z;exact absurd (ET z) ho)
 refine mx (fun N aY=>?_) ?_
 ·refine⟨_,rfl,_,rfl,.T [.I,.I],rfl,rfl,by decide,_,rfl,?_⟩;change (if eqD (dR w) (dR g)=true then _ else _);rw[ne];exact qu rfl aY
 have lt:=(g6 (t:=w.1*h.1) (b:=w.2*h.2) (YM (Ze lw.1 lh.1)));have hQ:intBits (cA (w.1*h.1) (w.2*h.2)).1<=140/\intBits (cA (w.1*h.1) (w.2*h.2)).2<=140:=⟨d6 lt.2.2.1 (intBits_mul_le aF bV),d6 lt.2.2.2 (intBits_mul_le aH bP)⟩;obtain⟨b2,gT⟩:=mR (a:=cA (w.1*h.1) (w.2*h.2)) (b:=g) lt.1.1 a7 aQ.1;obtain⟨bN,b1⟩:=q3 (a:=cA (w.1*h.1) (w.2*h.2)) (b:=g) (p:=140) (q:=30) lt.1.1 a7 hQ.1 hQ.2 b5 b6;have Vq:dY (cA (w.1*h.1) (w.2*h.2)) g=dH w h g:=rfl;rw[Vq]at b2 bN b1;obtain⟨H,dw⟩:∃H,H=dH w h g:=⟨_,rfl⟩;refine eF (fun ρ=>ρ=[.val (dBx (w,h,sh)),.val (dR g),.val (dR w),.val (dR h),.val (dSh sh),.val (dR H),.no,.no,.no,.no,.no,.no]) ?_ (fun N aY=>?_);rotate_left
 ·refine⟨_,rfl,_,rfl,rfl,w.1,w.2,h.1,h.2,rfl,lw,lh,Gg aF (by decide),Gg aH (by decide),Gg bV (by decide),Gg bP (by decide),?_⟩;dsimp only[bL];refine⟨_,rfl,rfl,(cA (w.1*h.1) (w.2*h.2)).1,(cA (w.1*h.1) (w.2*h.2)).2,g.1,g.2,rfl,lt.1,aQ,Gg hQ.1 (by decide),Gg hQ.2 (by decide),Gg b5 (by decide),Gg b6 (by decide),by omega,?_⟩;exact aY _ (by rw[dw];rfl)
 rintro ρ rfl;rw[<-dw]at b2 bN b1;have vW:kX w h g sh=cL g true (cf (ln (bO w H)) (aX (bO w H)) sh)++(cL g false (cf (ln (bO w H)) (aX (bO w H)) sh)).map (eg (b8 (-g.1,g.2) h))++(cf (fun c => -ln (bO w H) c) (aX (bO w H)) sh).map (eg (b8 (fc g w) (fc H h))):=by rw[dw];rfl
 rw[vW,<-dw]at ah;have cN:=j9 (a:=w) (b:=(0,1)) (p:=70) (q:=2) lw eG aF aH (by decide) (by decide);have c2:=j9 (a:=(0,1)) (b:=H) (p:=2) (q:=170) eG b2 (by decide) (by decide) bN b1;have bl:cj 260 (bO w H):=(cN.bp.crs c2.bp).mono (by decide);have ag:∀s∈sh,∀c∈s.1,cj 1990 c/\aS c:=fun s dV p ag=>⟨((aq.1 s dV).rb.pts p ag).bp,((aq.1 s dV).rb.pts p ag).pt⟩;have l1:∀s∈sh,s.1.length<=1000:=fun s dV=>by have:=(aq.1 s dV).ln;omega
 have ls:=aq.2;have mT:(bO w H).1≠0∨(bO w H).2.1≠0:=tR lw w0 b2 (tQ lw w0 lh h0 aQ a7 dw);have e:(fun c => -ln (bO w H) c)=ln (kO (bO w H)):=funext fun c=>(lQ _ _).symm;have z1:c4 1990 bA (n+1) t 130 (cf (ln (bO w H)) (aX (bO w H)) sh):=⟨ob aq.1 bl (by omega) mT (n0 _ _) (by omega) _ (.inl rfl),Gg (kP sh) aq.2⟩
 have aT:c4 1990 bA (n+1) t 130 (cf (fun c => -ln (bO w H) c) (aX (bO w H)) sh):=by
  rw[e];exact⟨ob aq.1 bl (by omega) mT (n0 _ _) (by omega) _ (.inr rfl),Gg (kP sh) aq.2⟩
 generalize Vr:cf (ln (bO w H)) (aX (bO w H)) sh=lo at z1 ah;generalize Vs:cf (fun c => -ln (bO w H) c) (aX (bO w H)) sh=up at aT ah;refine eF (fun ρ=>ρ=[.val (dBx (w,h,sh)),.val (dR g),.val (dR w),.val (dR h),.val (dSh sh),.val (dR H),.val (dSh lo),.val (dSh up),.no,.no,.no,.no]) ?_ (fun N aY=>?_);rotate_left
 ·refine⟨_,rfl,_,rfl,rfl,_,_,w.1,w.2,0,1,rfl,rfl,rfl,lw,eG,Gg aF (by decide),Gg aH (by decide),by decide,by decide,?_⟩;dsimp only[bL];refine⟨_,rfl,rfl,_,_,0,1,H.1,H.2,rfl,rfl,rfl,eG,b2,by decide,by decide,Gg bN (by decide),Gg b1 (by decide),?_⟩;dsimp only[bL];refine⟨rfl,sh,b8 w (0,1),b8 (0,1) H,rfl,cN.bp.mono (by decide),c2.bp.mono (by decide),ag,l1,by omega,?_⟩;dsimp only[bL];exact⟨_,rfl,rfl,_,_,rfl,_,_,rfl,rfl,aY _ (by rw[<-Vr,<-Vs];rfl)⟩
 rintro ρ rfl;have lO:∀s∈lo,∀c∈s.1,cj 1990 c/\aS c:=fun s dV p ag=>⟨((z1.1 s dV).rb.pts p ag).bp,((z1.1 s dV).rb.pts p ag).pt⟩;have uU:∀s∈lo,s.1.length<=1000:=fun s dV=>by have:=(z1.1 s dV).ln;omega
 have bx:=z1.2;have bU:=z1.cL (X:=g) (q:=30) true aQ b5 b6 (by omega) (by omega);have cn:=z1.cL (X:=g) (q:=30) false aQ b5 b6 (by omega) (by omega);refine eF (fun ρ=>ρ=[.val (dBx (w,h,sh)),.val (dR g),.val (dR w),.val (dR h),.val (dSh sh),.val (dR H),.val (dSh lo),.val (dSh up),.val (dSh (cL g true lo)),.val (dSh (cL g false lo)),.no,.no]) ?_ (fun N aY=>?_);rotate_left
 ·refine⟨_,rfl,_,rfl,rfl,lo,g,rfl,aQ,Gg b5 (by decide),Gg b6 (by decide),lO,uU,by omega,?_⟩;dsimp only[bL];exact⟨_,rfl,rfl,_,_,rfl,_,_,rfl,rfl,aY _ rfl⟩
 rintro ρ rfl;have aW:=j9 (a:=(-g.1,g.2)) (b:=h) (p:=30) (q:=70) ⟨aQ.1,by rw[abD];exact aQ.2⟩ lh (intBits_neg_le b5) b6 bV bP;refine eF (fun ρ=>ρ=[.val (dBx (w,h,sh)),.val (dR g),.val (dR w),.val (dR h),.val (dSh sh),.val (dR H),.val (dSh lo),.val (dSh up),.val (dSh (cL g true lo)),.val (dSh (cL g false lo)),.val (dSh ((cL g false lo).map (eg (b8 (-g.1,g.2) h)))),.no]) ?_ (fun N aY=>?_);rotate_left
 ·refine⟨_,rfl,_,rfl,rfl,g.1,g.2,rfl,?_⟩;dsimp only[bL];refine⟨_,rfl,rfl,_,_,-g.1,g.2,h.1,h.2,rfl,rfl,rfl,⟨aQ.1,by rw[abD];exact aQ.2⟩,lh,Gg (intBits_neg_le b5) (by decide),Gg b6 (by decide),Gg bV (by decide),Gg bP (by decide),?_⟩;dsimp only[bL];refine⟨rfl,cL g false lo,b8 (-g.1,g.2) h,rfl,by have:=cn.2;omega,fun s dV=>(cn.1 s dV).gm (by decide) (by omega) (by omega),aW.mono (by decide),?_⟩;exact aY _ rfl
 rintro ρ rfl;obtain⟨q9,_⟩:=mS (a:=g) (b:=w) aQ.1 lw.1;obtain⟨q',_⟩:=mS (a:=H) (b:=h) b2.1 lh.1;obtain⟨bK,ew⟩:=tP (a:=g) (b:=w) (p:=30) (q:=70) aQ.1 lw.1 b5 b6 aF aH;obtain⟨mL,j0⟩:=tP (a:=H) (b:=h) (p:=170) (q:=70) b2.1 lh.1 bN b1 bV bP;have bS:=j9 (a:=fc g w) (b:=fc H h) (p:=101) (q:=241) q9 q' bK ew mL j0;refine eF (fun ρ=>ρ=[.val (dBx (w,h,sh)),.val (dR g),.val (dR w),.val (dR h),.val (dSh sh),.val (dR H),.val (dSh lo),.val (dSh up),.val (dSh (cL g true lo)),.val (dSh (cL g false lo)),.val (dSh ((cL g false lo).map (eg (b8 (-g.1,g.2) h)))),.val (dSh (up.map (eg (b8 (fc g w) (fc H h)))))]) ?_ (fun N aY=>?_);rotate_left
 ·refine⟨_,rfl,_,rfl,_,rfl,rfl,g.1,g.2,w.1,w.2,rfl,aQ,lw,Gg b5 (by decide),Gg b6 (by decide),Gg aF (by decide),Gg aH (by decide),?_⟩;dsimp only[bL];refine⟨_,rfl,_,rfl,rfl,H.1,H.2,h.1,h.2,rfl,b2,lh,Gg bN (by decide),Gg b1 (by decide),Gg bV (by decide),Gg bP (by decide),?_⟩;dsimp only[bL];refine⟨rfl,_,_,(fc g w).1,(fc g w).2,(fc H h).1,(fc H h).2,rfl,rfl,rfl,q9,q',Gg bK (by decide),Gg ew (by decide),Gg mL (by decide),Gg j0 (by decide),?_⟩;dsimp only[bL];refine⟨rfl,up,b8 (fc g w) (fc H h),rfl,by have:=aT.2;omega,fun s dV=>(aT.1 s dV).gm (by decide) (by omega) (by omega),bS.mono (by decide),?_⟩;exact aY _ rfl
 rintro ρ rfl;have qR:=bU.2;have vv:=cn.2;have Zt:=aT.2;refine⟨_,rfl,_,rfl,_,rfl,_,rfl,_,_,rfl,rfl,by rw[YL,YL,YL];omega,_,rfl,_,_,rfl,rfl,by rw[Zg,YL,YL,YL,YL,YL];omega,t3,?_⟩;rw[<-ZD,<-ZD];exact ah
theorem CM:cK ["box","wide","boxes"] ["box","wide"] (b4 yj):=by walk_at "sc"
def Jo  : FS:=fun as k=>∃(w h g:bj)(sh:List Piece)(B bA n t:Nat),as=[.val (dBx (w,h,sh)),.val (dR g)]/\(aO w.1 w.2)/\(aO h.1 h.2)/\(aO g.1 g.2)/\(0<w.1)/\(0<h.1)/\(0<g.1)/\(intBits w.1<=30)/\(intBits w.2<=30)/\(intBits h.1<=60)/\(intBits h.2<=60)/\(intBits g.1<=30)/\(intBits g.2<=30)/\(w.1*g.2<=8*(g.1*w.2))/\(g.1*w.2<=8*(w.1*g.2))/\(c4 B bA n t 16 sh)/\(270+bA<=B/\B<=1500)/\(240<=bA)/\(n<=30)/\(t<=1400)/\k (.new (.tup [dR g,dR (du (eQ w h g sh) (0,1)),dSh (ey (eQ w h g sh) (0,1))]))
theorem Vt(B:cU mg)(F:cG K mg "widened" yj ["box","wide"])(Vu:aJ P w K mg base "under" ["one","other"] 2 (aL K 2 Jc))(Vv:aJ P w K mg base "in_layers" ["box","wide"] 12 (aL K 2 Jl))(Vw:aJ P w K mg base "in_columns" ["box","wide"] 12 (aL K 2 Jk))(Vx:aJ P w K mg base "piled" ["boxes"] 5 (aL K 1 Jj))(Vy:aJ P w K mg base "in_three" ["box","wide"] 8 (aL K 2 Jn)):
  aJ P w K mg base "widened" ["box","wide"] 13 (aL K 2 Jo):=by
 refine di (lv:=12) F CM rfl (fun f cdv A outer s H E ak=>⟨_,(a8 (eM (gY (a3 Vu ak (by rfl) (aw (a0 (ae 0) az (fun _ _=>rfl)) (aw (ae 1) aV)))) (bJ (cz (i:=2) CM.nd rfl (Sz rfl) (dQ (fv (aR (a3 Vv ak (by rfl) (aw (ae 0) (aw (ae 1) aV))) bR))))) (bJ (cz (i:=2) CM.nd rfl (Sz rfl) (a3 Vw ak (by rfl) (aw (ae 0) (aw (ae 1) aV)))))) (bJ (EZ (su Vx ak (by rfl) (aw (dQ (jR (dQ (vg (ae 2) vf (qr (iq az)))) (dQ (fv (aR (a3 Vy ak (by rfl) (aw (a0 (ae 2) (iq az) (fun _ _=>rfl)) (aw (ae 1) aV))) bR))))) aV))))),?_⟩);rintro as k aj ⟨w,h,g,sh,B,bA,n,t,rfl,lw,lh,aQ,w0,h0,a7,aF,aH,bV,bP,b5,b6,au,aG,aq,ed,hm,aN,bt,ah⟩;refine cZ (r:=[.val (dBx (w,h,sh)),.val (dR g),.no]) rfl ?_;have big:10000<=sizeLine:=by decide
 obtain⟨bU,cn,fN,iu⟩:=B3 lw w0 lh h0 aQ a7 aF aH bV bP b5 b6 aq ed.1 hm au aG;have all1:=SY (w:=w) (h:=h) (g:=g) (sh:=sh)
 have ag:∀bs:List BoxD,bs=eQ w h g sh->bs≠[]->∃dr r,bs=dr::r/\(∀b∈dr::r,aO b.2.1.1 b.2.1.2/\intBits b.2.1.1<=350/\intBits b.2.1.2<=350/\∀s∈b.2.2,GM s)/\(∀pre b rest,dr::r=pre++b::rest->intBits (du pre (0,1)).1<=350/\intBits (du pre (0,1)).2<=350)/\((dr::r).map fun b=>b.2.2.length).sum<=400/\dr.1=g:=by
  intro bs e ne;cases bs with
  | nil=>exact absurd rfl ne
  | cons dr r =>
   rw[<-e]at bU cn fN all1;exact⟨dr,r,rfl,fun b af=>⟨(bU b af).1,Gg (bU b af).2.1 (by decide),Gg (bU b af).2.2.1 (by decide),fun s dV=>((bU b af).2.2.2.1 s dV).gm (by omega) (by omega) (by omega)⟩,fun pre b rest aU=>⟨Gg (cn pre b rest aU).2.1 (by decide),Gg (cn pre b rest aU).2.2 (by decide)⟩,by omega,all1 dr Zd⟩
 have ho:eqD (dR w) (dR w)=true:=mv _;refine eF (fun ρ=>∃(bs:List BoxD)(b:BoxD)(ud n' t':Nat),ρ=[.val (dBx (w,h,sh)),.val (dR g),.val (.lst ((bs++[b]).map dBx))]/\bs++[lastB g b]=eQ w h g sh/\bs.length<=8/\aO b.1.1 b.1.2/\aO b.2.1.1 b.2.1.2/\0<b.1.1/\0<b.2.1.1/\intBits b.1.1<=70/\intBits b.1.2<=70/\intBits b.2.1.1<=70/\intBits b.2.1.2<=70/\c4 1990 ud n' t' 130 b.2.2/\(350<=ud/\ud<=1600)/\n'<=60/\t'<=2000) ?_ (fun N aY=>?_)
 ·rintro ρ ⟨bs,b,ud,n',t',rfl,ep,bl,aW,bS,fC,p5,tI,yZ,k9,r9,qA,Vz,VA,VB⟩;have ne:bs++[lastB g b]≠[]:=by simp
  obtain⟨dr,r,d8,f1,f2,bQ,f4⟩:=ag _ ep ne;have VC:dO ((bs++[b]).map dBx) (-1)=some (dBx b):=by rw[ZD];exact L2.atI_last _ _
  have kW:fU ((bs++[b]).map dBx) none (some (-1))=bs.map dBx:=by rw[ZD];exact S3 _ _
  refine⟨_,rfl,_,rfl,_,rfl,_,rfl,?_⟩;dsimp only;rw[kW];refine⟨_,rfl,_,rfl,_,_,_,.inr rfl,rfl,VC,_,rfl,rfl,b.1,b.2.1,g,b.2.2,ud,n',t',rfl,aW,bS,aQ,fC,p5,a7,tI,yZ,k9,r9,b5,b6,qA,Vz,VA,VB,?_⟩;dsimp only[bL];refine⟨show 1<=sizeLine by decide,_,_,rfl,rfl,by rw[YL,aal];omega,?_⟩
  have o1:bs.map dBx++[dBx (if b.1=g then(b.1,b.2.1,b.2.2)else(g,dH b.1 b.2.1 g,kX b.1 b.2.1 g b.2.2))]=(bs++[lastB g b]).map dBx:=by
   rw[ZD];rfl
  rw[o1,d8];refine⟨rfl,dr,r,rfl,f1,f2,bQ,?_⟩;refine⟨_,rfl,?_⟩;rw[f4,<-d8,ep];exact ah
 by_cases c:w.1*g.2<g.1*w.2
 ·obtain⟨bI,cc,dI,_,_⟩:=tS lw w0 aQ a7 c aG;obtain⟨eR,hz,bx,bB,gU,iI,mC,bw,b3,j'⟩:=tU lw w0 lh h0 aF aH bV bP cc dI;have qT:=HW lw w0 lh h0 aQ a7 aF aH bV bP b5 b6 aq ed.1 hm cc dI;refine⟨_,rfl,_,_,_,.inl rfl,rfl,rfl,_,rfl,rfl,w.1,w.2,g.1,g.2,rfl,Gg aF (by decide),Gg aH (by decide),Gg b5 (by decide),Gg b6 (by decide),?_⟩;dsimp only[bL];refine⟨_,rfl,?_⟩;rw[if_pos (decide_eq_true c)];refine⟨_,rfl,_,rfl,rfl,w,h,g,sh,cT w g,bA,n,t,rfl,lw,lh,aQ,w0,h0,a7,aF,aH,bV,bP,b5,b6,bI,cc,dI,aq.mono (by omega) (YK _) (YK _) (YK _) (by decide),by omega,by omega,by omega,?_⟩;dsimp only[bL];refine⟨show 1<=sizeLine by decide,?_⟩;exact aY _ ⟨[],layB w h g sh,bA+110,n+3,t+108,rfl,(tT c).symm,by simp,iI,eR,mC,hz,Gg bw (by decide),Gg b3 (by decide),Gg bx (by decide),Gg bB (by decide),qT.mono (by omega) (YK _) (YK _) (YK _) (by omega),by omega,by omega,by omega⟩
 ·obtain⟨bI,cc,dI,_,_⟩:=q5 lw w0 aQ a7 (by omega) au;obtain⟨eR,hz,bx,bB,gU⟩:=xk lw w0 aQ a7 aF aH b5 b6 (by omega) au;have i':=xj (c:=false) (w:=g) (b:=B) (m:=bA) (t:=t) (N:=16) (q:=30) aQ.1 b5 b6 (by omega) (by omega) cc dI aq;have cl:=lV (c:=false) (w:=g) (sh:=sh) cc dI
  obtain⟨Ss,Z,fY⟩:∃Ss Z,d3 false g sh (dh w g)=Ss++[Z]:=by
   rcases abl (d3 false g sh (dh w g))with z|⟨Ss,Z,z⟩
   ·rw[z]at cl;simp at cl;omega
   ·exact⟨Ss,Z,by rw[z,abm]⟩
  have ll:Ss.length<=8:=by
   have:=congrArg ZS fY;rw[cl,Zg]at this;simp at this;omega
  refine⟨_,rfl,_,_,_,.inl rfl,rfl,rfl,_,rfl,rfl,w.1,w.2,g.1,g.2,rfl,Gg aF (by decide),Gg aH (by decide),Gg b5 (by decide),Gg b6 (by decide),?_⟩;dsimp only[bL];refine⟨_,rfl,?_⟩;rw[if_neg (by simp only[decide_eq_true_eq];exact c)];refine⟨_,rfl,_,rfl,rfl,w,h,g,sh,dh w g,bA,n,t,rfl,lw,lh,aQ,w0,h0,a7,aF,aH,bV,bP,b5,b6,bI,cc,dI,aq.mono (by omega) (YK _) (YK _) (YK _) (by decide),by omega,by omega,by omega,?_⟩;intro Zu Zv VD;dsimp only[bL];have kA:=fY.symm.trans VD;obtain⟨dm,gB⟩:=List.append_inj' kA rfl;cases dm;cases gB;exact aY _ ⟨Ss.map (fun S=>((g,h,S):BoxD)),(hi w g (dh w g),h,Z),bA+110,n+3,t+108,rfl,(q8 c fY).symm,by rw[YL];exact ll,eR,lh,hz,h0,Gg bx (by decide),Gg bB (by decide),Gg bV (by decide),Gg bP (by decide),(i' Z (by rw[fY];simp)).mono (by omega) (by omega) (by omega) (by omega) (by omega),by omega,by omega,by omega⟩
theorem l3:cK ["_law_script","_law_bag_here","_law_wide","_law_high","_law_sheet_here","_law_parts","_law_other","_law_found","_law_third","_law_last"] ["_law_script"] (b4 yM):=by walk_at "sc"
theorem VE{P:Program}{w:World}{K:PySem.W.Frag}{mg:Str->Option Value}{base:Heap}{f:Addr}{fd:FuncData}(B:cU mg)(F:lq K "law" "law" yM f fd)(VF:aJ P w K mg base "_law_bag" ["_law_cell_here"] 1 (aL K 1 zX))(VG:aJ P w K mg base "_law_cell" ["_law_script","_law_k"] 1 (aL K 2 zW))(Jp:aJ P w K mg base "_law_size" ["_law_bag_here"] 4 (aL K 1 IY))(VH:aJ P w K mg base "_law_sheet" ["_law_bag_here","_law_ring","_law_cuts"] 6 (aL K 3 IM))(Cw:aJ P w K mg base "_law_box" ["_law_wide","_law_high"] 5 (aL K 2 Cu))(t6:aJ P w K mg base "_law_product" ["_law_one","_law_other"] 4 (aL K 2 Ct))(gE:aJ P w K mg base "_law_draw" ["_law_bag_here","_law_many"] 1 (aL K 2 (qs 400)))(Jq:aJ P w K mg base "widened" ["box","wide"] 13 (aL K 2 Jo))(Jr:aJ P w K mg base "_law_is_due" ["_law_found","_law_wide","_law_high","_law_goal","_law_sheet_here"] 8 (aL K 5 I0)):
  iO P w K mg base jg 14 f fd ["_law_script"] (vq K):=by
 refine iO.imp (sp:=aL K 1 Ey) ?_ (fun vs H Q E h=>NJ h);refine NI (lv:=13) F l3 rfl (fun cdv A outer s H E ak=>⟨_,(a8 (Nu (i:=1) l3.nd rfl (Sz rfl) (Nr VF ak (by rfl) (aw (a3 VG ak (by rfl) (aw (ae 0) (aw az aV))) aV))) (a8 (cz (i:=2) l3.nd rfl (Sz rfl) (a3 Jp ak (by rfl) (gx 1 aV))) (a8 (cz (i:=3) l3.nd rfl (Sz rfl) (a3 Jp ak (by rfl) (gx 1 aV))) (a8 (cz (i:=4) l3.nd rfl (Sz rfl) (a3 VH ak (by rfl) (gx 1 (aw (a3 Cw ak (by rfl) (aw (ae 2) (aw (ae 3) aV))) (aw az aV))))) (a8 (cz (i:=5) l3.nd rfl (Sz rfl) (cY (aR (cY (aR az (aR az bR))) (aR (cY (aR az (aR az bR))) (aR (cY (aR az (aR az bR))) (aR (cY (aR az (aR az bR))) (aR (cY (aR az (aR az bR))) (aR (cY (aR az (aR az bR))) (aR (cY (aR az (aR az bR))) (aR (cY (aR az (aR az bR))) bR)))))))))) (a8 (cz (i:=6) l3.nd rfl (Sz rfl) (a3 t6 ak (by rfl) (aw (ae 2) (aw (a0 (ae 5) (a3 gE ak (by rfl) (gx 1 (aw az aV))) (fun _ _=>rfl)) aV)))) (a8 (cz (i:=7) l3.nd rfl (Sz rfl) (a3 Jq ak (by rfl) (aw (cY (aR (ae 2) (aR (ae 3) (aR (ae 4) bR)))) (aw (ae 6) aV)))) (a8 (eM (hq (gY (a3 Jr ak (by rfl) (aw (ae 7) (aw (ae 2) (aw (ae 3) (aw (ae 6) (aw (ae 4) aV)))))))) (bJ (cw ip)) eX) (a8 (cz (i:=8) l3.nd rfl (Sz rfl) (a0 (dQ (fv (aR (ae 2) (aR (a3 t6 ak (by rfl) (aw (ae 2) (aw (a0 (ae 5) (a3 gE ak (by rfl) (gx 1 (aw az aV))) (fun _ _=>rfl)) aV))) bR)))) (a3 gE ak (by rfl) (gx 1 (aw az aV))) (fun _ _=>rfl))) (a8 (cz (i:=9) l3.nd rfl (Sz rfl) (a3 Jq ak (by rfl) (aw (ae 7) (aw (ae 8) aV)))) (a8 (eM (hq (gY (a3 Jr ak (by rfl) (aw (ae 9) (aw (ae 2) (aw (ae 3) (aw (ae 8) (aw (ae 4) aV)))))))) (bJ (cw ip)) eX) (bJ (cw (ML (NH (ak.units) (ae 8) (ae 2) (dv _)) (qo (Eu (ak.units) (a0 (ae 9) az (fun _ _=>rfl)) (ae 3) (dv _))))))))))))))))),?_⟩);rintro as k aj ⟨ns,rfl,Zw,ah⟩;refine cZ (r:=[.val (.scr ns),.no,.no,.no,.no,.no,.no,.no,.no,.no]) rfl ?_;have m:∀{z:Int}{a b:Nat},intBits z<=a->a<=b->intBits z<=b:=fun h g=>Gg h g;walk_at "w";refine⟨ns,0,rfl,by decide,fun z=>?_⟩;refine⟨rfl,z,rfl,rfl,?_⟩;refine⟨rfl,rfl,rfl,fun w lw w0 aF aH=>?_⟩;dsimp only[bL];refine⟨rfl,rfl,rfl,fun h lh h0 bV bP=>?_⟩;dsimp only[bL];have VI:=TB lw lh aF aH bV bP;refine⟨rfl,_,rfl,_,rfl,rfl,w,h,rfl,lw,lh,m aF (by decide),m aH (by decide),m bV (by decide),m bP (by decide),?_⟩;dsimp only[bL];refine⟨rfl,iC w h,rfl,(ht.cvx ⟨lw,lh,w0,h0⟩),VI,(by show 4<=4;decide),fun sh aq aj bal=>?_⟩;dsimp only[bL];have lI:iJ 22 1=47:=rfl;rw[lI]at aq;have cE:2<=sizeLine:=by decide
 have t3:3<=sizeLine:=by decide
 have VJ:8<=sizeLine:=by decide
 refine eF (fun ρ=>ρ=[.val (.scr ns),.bag,.val (dR w),.val (dR h),.val (.lst (sh.map dS)),.val (.tup [dR (1,2),dR (2,3),dR (3,4),dR (5,7),dR (7,5),dR (4,3),dR (3,2),dR (2,1)]),.no,.no,.no,.no]) ?_ (fun N aY=>⟨cE,cE,cE,cE,cE,cE,cE,cE,VJ,aY _ rfl⟩);rintro ρ rfl
 have pt:∀d:Int,0<=d->d<8->∃p q:Int,dO [dR (1,2),dR (2,3),dR (3,4),dR (5,7),dR (7,5),dR (4,3),dR (3,2),dR (2,1)] d=some (dR (p,q))/\0<p/\0<q/\p<=7/\q<=7/\q<=2*p/\p<=2*q:=by
  intro d gP bN;obtain rfl|rfl|rfl|rfl|rfl|rfl|rfl|rfl:d=0∨d=1∨d=2∨d=3∨d=4∨d=5∨d=6∨d=7:=by omega
  ·exact⟨1,2,rfl,by decide⟩
  ·exact⟨2,3,rfl,by decide⟩
  ·exact⟨3,4,rfl,by decide⟩
  ·exact⟨5,7,rfl,by decide⟩
  ·exact⟨7,5,rfl,by decide⟩
  ·exact⟨4,3,rfl,by decide⟩
  ·exact⟨3,2,rfl,by decide⟩
  ·exact⟨2,1,rfl,by decide⟩
 have dG:∀z:Int,0<z->z<=7->intBits z<=1000:=fun z z0 z1=>Gg (intBits_le_iff.mpr (show z.natAbs<2^3 by show z.natAbs<8;omega)) (by decide);have W:=d2 w0 lw.1;have L:=d2 h0 lh.1;have cc:=m (b:=30) aF (by decide);have dk:=m (b:=30) aH (by decide);have kh:=m (b:=60) bV (by decide);have ue:=m (b:=60) bP (by decide);have q6:((8:Nat):Rat)=8:=rfl;have vt:((2:Nat):Rat)=2:=rfl;have Js:((4:Nat):Rat)=4:=rfl;walk_at "w";intro d gP bN;obtain⟨p,q,eE,lS,fF,cN,aW,aa,ab⟩:=pt d gP bN;refine⟨_,_,_,.inl rfl,rfl,eE,rfl,w,(p,q),rfl,lw.1,fF,m aF (by decide),m aH (by decide),dG p lS cN,dG q fF aW,?_⟩;dsimp only[bL];obtain⟨aQ,a7,a9,ba,au,aG⟩:=Iw lw w0 aF aH lS fF cN aW aa ab;generalize cA (w.1*p) (w.2*q)=g at aQ a7 a9 ba au aG ⊢;have G:=d2 a7 aQ.1;have ru:=m (b:=30) a9 (by decide);have rv:=m (b:=30) ba (by decide);have bK:w.1*g.2<=8*(g.1*w.2):=xw (M:=8) lw.1 aQ.1 (by rw[q6];grind);have ew:g.1*w.2<=8*(w.1*g.2):=xw (M:=8) aQ.1 lw.1 (by rw[q6];grind);have z1:c4 511 241 5 20 2 sh:=⟨fun s h=>((aq s h).px (b:=511) (by decide)).mono (YK _) (by decide) (YK _) (YK _),aj⟩;obtain⟨gT,s1,xO,bU⟩:=It lw w0 lh h0 aQ a7 cc dk kh ue ru rv bK ew z1 (by decide) (by decide) bal;have CN:=Ir lw w0 aQ a7 (h:=h) (sh:=sh) (M:=2) (N:=2) (by decide) (by decide) (by rw[vt];exact au) (by rw[vt];exact aG) bK ew aj;obtain⟨b2,Jt,Ju,tZ⟩:=oh lw w0 lh h0 aQ a7 aF aH bV bP a9 ba;have fo:=tQ lw w0 lh h0 aQ a7 rfl;have ps:∀s∈sh,hV s:=fun s h=>(z1.1 s h).pcu (by decide) (by decide) (by decide);walk_at "w";refine⟨w,h,g,sh,511,241,5,20,rfl,lw,lh,aQ,w0,h0,a7,cc,dk,kh,ue,ru,rv,bK,ew,z1.mono (YK _) (YK _) (YK _) (YK _) (by decide),by decide,by decide,by decide,by decide,?_⟩;dsimp only[bL];rw[gT];generalize ey (eQ w h g sh) (0,1)=S at s1 xO bU CN ⊢;have CO:c4 1033 763 10 538 12 S:=⟨fun s h=>(s1.1 s h).mono (by decide) (by decide) (by decide) (by decide),CN⟩;generalize dw:dH w h g=H at b2 Jt Ju tZ fo xO ⊢;refine mx (fun N aY=>?_) ?_
 ·refine⟨_,rfl,_,rfl,_,rfl,_,rfl,_,rfl,rfl,w,h,g,H,sh,S,rfl,lw,lh,aQ,w0,h0,a7,cc,dk,kh,ue,ru,rv,dw.symm,by omega,ps,by omega,fun s h=>(CO.1 s h).pcu (by decide) (by decide) (by decide),xO,fun b φ=>bU φ b,?_⟩;dsimp only[bL];exact⟨_,rfl,f' aY⟩
 walk_at "w";intro d' VK VL;obtain⟨ma,gk,VM,Jv,CP,Jw,Jx,o2,o3⟩:=pt d' VK VL;refine⟨_,_,_,.inl rfl,rfl,VM,rfl,w,(ma,gk),rfl,lw.1,CP,m aF (by decide),m aH (by decide),dG ma Jv Jw,dG gk CP Jx,?_⟩;dsimp only[bL];obtain⟨lf,f0,dg,dB,fO,Jy⟩:=Iw lw w0 aF aH Jv CP Jw Jx o2 o3;generalize cA (w.1*ma) (w.2*gk)=f at lf f0 dg dB fO Jy ⊢;walk_at "w";intro e d8 ai
 obtain⟨v,ev,lv,v0,v1,v2,Zx,Zy⟩:∃v:bj,dO [dR w,dR f] e=some (dR v)/\aO v.1 v.2/\0<v.1/\intBits v.1<=13/\intBits v.2<=13/\ar w<=2*ar v/\ar v<=2*ar w:=by
  obtain rfl|rfl:e=0∨e=1:=by omega
  ·exact⟨w,rfl,lw,w0,m aF (by decide),m aH (by decide),by grind,by grind⟩
  ·exact⟨f,rfl,lf,f0,dg,dB,fO,Jy⟩
 refine⟨_,_,_,.inr rfl,rfl,ev,?_⟩;have V:=d2 v0 lv.1;have kj:=m (b:=30) v1 (by decide);have dI:=m (b:=30) v2 (by decide);have bw:=m (b:=60) Jt (by decide);have b3:=m (b:=60) Ju (by decide);have bE:g.1*v.2<=8*(v.1*g.2):=xw (M:=8) aQ.1 lv.1 (by rw[q6];grind);have c3:v.1*g.2<=8*(g.1*v.2):=xw (M:=8) lv.1 aQ.1 (by rw[q6];grind);obtain⟨Jz,s2,CQ,cn⟩:=It aQ a7 b2 fo lv v0 ru rv bw b3 kj dI bE c3 CO (by decide) (by decide) xO;have VN:=Ir aQ a7 lv v0 (h:=H) (sh:=S) (M:=4) (N:=12) (by decide) (by decide) (by rw[Js];grind) (by rw[Js];grind) bE c3 CN;obtain⟨VO,_,_,VP⟩:=oh aQ a7 b2 fo lv v0 ru rv bw b3 kj dI;obtain⟨JA,_,_,JB⟩:=oh lw w0 lh h0 lv v0 cc dk kh ue kj dI;have VQ:dH g H v=dH w h v:=q4 VO JA (by rw[VP,JB,tZ];grind);rw[VQ]at Jz CQ;walk_at "w";refine⟨g,H,v,S,1033,763,10,538,rfl,aQ,b2,lv,a7,fo,v0,ru,rv,bw,b3,kj,dI,bE,c3,CO.mono (YK _) (YK _) (YK _) (YK _) (by decide),by decide,by decide,by decide,by decide,?_⟩;dsimp only[bL];rw[Jz];generalize ey (eQ g H v S) (0,1)=VR at s2 CQ cn VN ⊢;refine mx (fun N aY=>?_) ?_
 ·refine⟨_,rfl,_,rfl,_,rfl,_,rfl,_,rfl,rfl,w,h,v,dH w h v,sh,VR,rfl,lw,lh,lv,w0,h0,v0,cc,dk,kh,ue,kj,dI,rfl,by omega,ps,by omega,fun s h=>(s2.1 s h).pcu (by decide) (by decide) (by decide),CQ,fun b φ=>(cn φ b).trans (bU φ b),?_⟩;dsimp only[bL];exact⟨_,rfl,f' aY⟩
 refine⟨_,rfl,_,rfl,.T [.I,.I],rfl,rfl,by decide,_,rfl,?_⟩;by_cases ho:v=w
 ·have CR:(if true=true then !eqD (dR v) (dR w)else eqD (dR v) (dR w))=false:=by
   rw[if_pos rfl,ho,mv];rfl
  rw[CR,if_neg (by decide)]
  have n8:dH w h v=h:=by
   refine q4 JA lh ?_;rw[JB,ho];grind
  rw[n8];refine⟨_,rfl,_,_,_,.inl rfl,rfl,rfl,_,rfl,.T [.I,.I],rfl,rfl,by decide,?_⟩;have VS:(if false=true then !eqD (dR h) (dR h)else eqD (dR h) (dR h))=true:=by rw[if_neg (by decide)];exact mv _
  dsimp only;rw[VS];exact ah
 ·have ne:eqD (dR v) (dR w)=false:=mw (by
   constructor
   ·intro z;cases z
   ·intro z;exact absurd (ET z) ho)
  have CR:(if true=true then !eqD (dR v) (dR w)else eqD (dR v) (dR w))=true:=by
   rw[if_pos rfl,ne];rfl
  rw[CR,if_pos rfl];exact ah
theorem all_mk{l:PySem.W.OpenLaw}{w:World}{K:PySem.W.Frag}{h:Heap}{mg:Str->Option Value}{gs:Addr}(Y:Tab tabs K)(X:K.In h)(G:h.Ns mainGlobals mg)(VT:mg "law"=some (.ref gs))
  : ∃fd:FuncData,(∀(s:Shared)(v:Value),BindsTo s fd ⟨[v],[]⟩ [("_law_script",v)])/\∀base:Heap,K.In base->base.Ns mainGlobals mg->iO l.prog w K mg base jg 14 gs fd ["_law_script"] (vq K):=by
 obtain⟨⟨VU,VV,VW,VX,VY,VZ,V0,V1,V2,x_point,x_at,V3,V4,V5,V6,V7,V8,V9,V',Wa,Wb,Wc,We,Wf,Wg,Wh,Wi,Wj,Wk,Wl,Wm,Wn,Wo,Wq,Wr,Ws,Wt,Wu,Wv,Ww,Wx,Wy,Wz,WA,WB,WC,WD,WE,WG,WH,WI,WJ,WK,WL,WM,WN,_⟩,⟨WO,WQ,WR,WS,WT,WU,WV,WW,WX,WY,WZ,W0,W2,W3,W4,W5,W6,W7,W8,_⟩,⟨W9,_⟩,⟨_⟩⟩:=Y;have W':=VU.fnd (ps:=["one","other"]) X G (by walk_at "b2")
 have JC:=VV.fnd (ps:=["one","other"]) X G (by walk_at "b2")
 have Xa:=VW.fnd (ps:=["one","other"]) X G (by walk_at "b2")
 have Xb:=VX.fnd (ps:=["one","other"]) X G (by walk_at "b2")
 have Xc:=VY.fnd (ps:=["one","other"]) X G (by walk_at "b2")
 have Xd:=VZ.fnd (ps:=["one","other"]) X G (by walk_at "b2")
 have Xe:=V0.fnd (ps:=["one"]) X G (by walk_at "b1")
 have Xf:=V1.fnd (ps:=["one"]) X G (by walk_at "b1")
 have Xg:=V2.fnd (ps:=["one"]) X G (by walk_at "b1")
 have Xh:=x_point.fnd (ps:=["a","b","n"]) X G (by walk_at "b3")
 have Xi:=x_at.fnd (ps:=["x","y"]) X G (by walk_at "b2")
 have Xj:=V3.fnd (ps:=["p","step"]) X G (by walk_at "b2")
 have Xk:=V4.fnd (ps:=["one","other"]) X G (by walk_at "b2")
 have Xl:=V5.fnd (ps:=["line","p"]) X G (by walk_at "b2")
 have Xm:=V6.fnd (ps:=["p","q","r","s"]) X G (by walk_at "b4")
 have Xn:=V7.fnd (ps:=["ring","p","q"]) X G (by walk_at "b3")
 have Xo:=V8.fnd (ps:=["sheet","p","q"]) X G (by walk_at "b3")
 have JD:=V9.fnd (ps:=["sheet","place"]) X G (by walk_at "b2")
 have JE:=V'.fnd (ps:=["sheet","height"]) X G (by walk_at "b2")
 have Xp:=Wa.fnd (ps:=["sheet","step"]) X G (by walk_at "b2")
 have xP:=Wb.fnd (ps:=["sheet","cut","size","first","last"]) X G (by walk_at "b5")
 have Xq:=Wc.fnd (ps:=["sheet","wide","many"]) X G (by walk_at "b3")
 have Xr:=We.fnd (ps:=["sheet","high","many"]) X G (by walk_at "b3")
 have Xu:=Wf.fnd (ps:=["boxes"]) X G (by walk_at "b1")
 have Xv:=Wg.fnd (ps:=["box","wide"]) X G (by walk_at "b2")
 have Xw:=Wh.fnd (ps:=["box","wide"]) X G (by walk_at "b2")
 have Xx:=Wi.fnd (ps:=["box","wide"]) X G (by walk_at "b2")
 have Xy:=Wj.fnd (ps:=["box","wide"]) X G (by walk_at "b2")
 have Xz:=Wk.fnd (ps:=["_law_script","_law_k"]) X G (by walk_at "b2")
 have XA:=Wl.fnd (ps:=["_law_cell_here"]) X G (by walk_at "b1")
 have XB:=Wm.fnd (ps:=["_law_bag_here","_law_many"]) X G (by walk_at "b2")
 have XC:=Wn.fnd (ps:=["_law_one","_law_other"]) X G (by walk_at "b2")
 have XD:=Wo.fnd (ps:=["_law_top","_law_bottom"]) X G (by walk_at "b2")
 have XE:=Wq.fnd (ps:=["_law_x","_law_y","_law_bottom"]) X G (by walk_at "b3")
 have XF:=Wr.fnd (ps:=["_law_found"]) X G (by walk_at "b1")
 have XG:=Ws.fnd (ps:=["_law_p","_law_q"]) X G (by walk_at "b2")
 have XH:=Wt.fnd (ps:=["_law_tally","_law_rings","_law_number"]) X G (by walk_at "b3")
 have XI:=Wu.fnd (ps:=["_law_rings","_law_others"]) X G (by walk_at "b2")
 have XJ:=Wv.fnd (ps:=["_law_p","_law_q","_law_r"]) X G (by walk_at "b3")
 have XK:=Ww.fnd (ps:=["_law_p"]) X G (by walk_at "b1")
 have XM:=Wx.fnd (ps:=["_law_ring"]) X G (by walk_at "b1")
 have XN:=Wy.fnd (ps:=["_law_p","_law_q","_law_part_here","_law_many"]) X G (by walk_at "b4")
 have XO:=Wz.fnd (ps:=["_law_bag_here","_law_ring"]) X G (by walk_at "b2")
 have XQ:=WA.fnd (ps:=["_law_bag_here","_law_ring","_law_cuts"]) X G (by walk_at "b3")
 have XR:=WB.fnd (ps:=["_law_piece"]) X G (by walk_at "b1")
 have XS:=WC.fnd (ps:=["_law_olds","_law_news"]) X G (by walk_at "b2")
 have XT:=WD.fnd (ps:=["_law_sheet_here","_law_ring"]) X G (by walk_at "b2")
 have XU:=WE.fnd (ps:=["_law_one","_law_other"]) X G (by walk_at "b2")
 have XW:=WG.fnd (ps:=["_law_one","_law_other"]) X G (by walk_at "b2")
 have XX:=WH.fnd (ps:=["_law_x","_law_y"]) X G (by walk_at "b2")
 have XY:=WI.fnd (ps:=["_law_wide","_law_high"]) X G (by walk_at "b2")
 have XZ:=WJ.fnd (ps:=["_law_found"]) X G (by walk_at "b1")
 have X0:=WK.fnd (ps:=["_law_found"]) X G (by walk_at "b1")
 have X1:=WL.fnd (ps:=["_law_bag_here"]) X G (by walk_at "b1")
 have X2:=WM.fnd (ps:=["_law_found","_law_wide","_law_high","_law_goal","_law_sheet_here"]) X G (by walk_at "b5")
 obtain⟨f0,X3,m0,JF⟩:=WN;have e:=VT.symm.trans (PySem.W.mg_of X G m0);cases e;have B:cU mg:=⟨PySem.W.mg_none_of X G WO,PySem.W.mg_none_of X G WQ,PySem.W.mg_none_of X G WR,PySem.W.mg_none_of X G WS,PySem.W.mg_none_of X G WT,PySem.W.mg_none_of X G WU,PySem.W.mg_none_of X G WV,PySem.W.mg_none_of X G WW,PySem.W.mg_none_of X G WX,PySem.W.mg_none_of X G WY,PySem.W.mg_none_of X G WZ,PySem.W.mg_none_of X G W0,PySem.W.mg_none_of X G W2,PySem.W.mg_none_of X G W3,PySem.W.mg_none_of X G W4,PySem.W.mg_none_of X G W5,PySem.W.mg_none_of X G W6,PySem.W.mg_none_of X G W7,PySem.W.mg_none_of X G W8⟩;have k5:=W9.gtup X G;obtain⟨a_cut_level,_,ja,_,_⟩:=id JE.ex;obtain⟨a_cut_upright,_,jb,_,_⟩:=id JD.ex;refine⟨X3,fun s v=>?_,fun base _ _=>?_⟩
 ·obtain⟨_,_,_,_,_,_,_,_,_,rfl,_⟩:=JF.ex;exact .of_eq rfl
 have X4:=TF (P:=l.prog) (w:=w) (base:=base) B  Xz;have X5:=TH (P:=l.prog) (w:=w) (base:=base) B  XA;have xQ:=TJ (P:=l.prog) (w:=w) (base:=base) B  XB;have uf:=TK (P:=l.prog) (w:=w) (base:=base) B  XC;have CS:=TL (P:=l.prog) (w:=w) (base:=base) B  XD uf;have xR:=TM (P:=l.prog) (w:=w) (base:=base) B  XE uf;have JG:=TO (P:=l.prog) (w:=w) (base:=base) B  XF;have X6:=TP (P:=l.prog) (w:=w) (base:=base) B  XG uf;have X7:=TQ (P:=l.prog) (w:=w) (base:=base) B  XH X6;have JH:=TV (P:=l.prog) (w:=w) (base:=base) B  XI X7;have X8:=TX (P:=l.prog) (w:=w) (base:=base) B  XJ;have JI:=TZ (P:=l.prog) (w:=w) (base:=base) B  XK JG uf;have X9:=T3 (P:=l.prog) (w:=w) (base:=base) B  XM JI X8;have X':=T4 (P:=l.prog) (w:=w) (base:=base) B  XN xR;have Yb:=T5 (P:=l.prog) (w:=w) (base:=base) B  XO xQ X';have Yc:=T6 (P:=l.prog) (w:=w) (base:=base) B  XQ xQ Yb xR;have Yd:=T8 (P:=l.prog) (w:=w) (base:=base) B  XR xR;have Ye:=T' (P:=l.prog) (w:=w) (base:=base) B  XS Yd JH;have Yg:=Ua (P:=l.prog) (w:=w) (base:=base) B  XT X9 JI JH;have JJ:=Ud (P:=l.prog) (w:=w) (base:=base) B  XU CS;have Zz:=Uh (P:=l.prog) (w:=w) (base:=base) B  XW CS;have Yh:=Uj (P:=l.prog) (w:=w) (base:=base) B  XX xR;have JK:=Ul (P:=l.prog) (w:=w) (base:=base) B  XY Yh;have Yi:=Un (P:=l.prog) (w:=w) (base:=base) B  X0 JG uf;have Yj:=Up (P:=l.prog) (w:=w) (base:=base) B  XZ Yi Yg JK;have Yk:=Us (P:=l.prog) (w:=w) (base:=base) B  X1 xQ CS;have Yl:=Ut (P:=l.prog) (w:=w) (base:=base) B  X2 JJ Yj Ye;have rx:=Uw (P:=l.prog) (w:=w) (base:=base) B  W';have JL:=Ux (P:=l.prog) (w:=w) (base:=base) B  Xk;have Ym:=Uy (P:=l.prog) (w:=w) (base:=base) B  Xl;have Yn:=Uz (P:=l.prog) (w:=w) (base:=base) B  Xh rx;have Yo:=UA (P:=l.prog) (w:=w) (base:=base) B  Xm JL Yn;have Yp:=UD (P:=l.prog) (w:=w) (base:=base) B  Xn JL Ym Yo;have CT:=UJ (P:=l.prog) (w:=w) (base:=base) B  Xo Yp;have pV:=UL (P:=l.prog) (w:=w) (base:=base) B  Xi rx;have xS:=UN (P:=l.prog) (w:=w) (base:=base) B  JD CT pV;have CU:=UO (P:=l.prog) (w:=w) (base:=base) B  JE CT pV;have Yq:=UP (P:=l.prog) (w:=w) (base:=base) B  Xj rx;have ug:=UR (P:=l.prog) (w:=w) (base:=base) B  Xp Yq;have Yr:=UU (P:=l.prog) (w:=w) (base:=base) B  Xd;have Ys:=UX (P:=l.prog) (w:=w) (base:=base) B  Xf;have Yt:=UZ (P:=l.prog) (w:=w) (base:=base) B  Xg;have JM:=U1 (P:=l.prog) (w:=w) (base:=base) B  Xe;have Yu:=U2 (P:=l.prog) (w:=w) (base:=base) B  JC rx;have JN:=U4 (P:=l.prog) (w:=w) (base:=base) B  Xa Yu JM;have mZ:=U5 (P:=l.prog) (w:=w) (base:=base) B  Xb rx;have CV:=U7 (P:=l.prog) (w:=w) (base:=base) B  Xc mZ;have Yv:=U8 (a_cut_upright:=a_cut_upright) (a_cut_level:=a_cut_level) (P:=l.prog) (w:=w) (base:=base) B  xP;have Yw:=U9 (P:=l.prog) (w:=w) (base:=base) B ja jb xP xS CU mZ Yv;have Yx:=U' (P:=l.prog) (w:=w) (base:=base) B ja jb xP xS CU mZ Yw;have JO:=Va (P:=l.prog) (w:=w) (base:=base) B ja jb xP xS CU mZ Yx;have Yy:=Vc (P:=l.prog) (w:=w) (base:=base) B ja jb Xq JO ug pV mZ;have Yz:=Ve (P:=l.prog) (w:=w) (base:=base) B ja jb Xr JO ug pV mZ;have YA:=Vf (P:=l.prog) (w:=w) (base:=base) B  JC rx;have YB:=Vg (P:=l.prog) (w:=w) (base:=base) B k5 Xu ug pV YA;have YC:=Vh (P:=l.prog) (w:=w) (base:=base) B  Xv Yt CV Yy JN mZ;have YD:=Vk (P:=l.prog) (w:=w) (base:=base) B k5 Xw Ys CV Yz ug pV mZ;have YE:=Vp (P:=l.prog) (w:=w) (base:=base) B k5 Xx CV mZ CT pV xS ug JM JN;have YF:=Vt (P:=l.prog) (w:=w) (base:=base) B  Xy Yr YD YC YB YE;exact VE B JF X5 X4 Yk Yc JK JJ xQ YF Yl
end Cut
open PySem PySem.W PyProof.Rows
set_option maxRecDepth 100000 in
set_option maxHeartbeats 0 in
theorem PySem.Challenge.cw_slidecut_k46_whole_there_and_back_holds : PySem.Challenge.rw_slidecut_k46_whole_there_and_back.Holds := by
 refine holds_law Cut.said fun said => holds_open (XP := XL PySem.Challenge.pw_slidecut_k46_whole_there_and_back []) (YP := L3.saysH Cut.tabs) Cut.left (L3.ofH Cut.tabs) (L3.keepsH Cut.tabs) (fun s e => xl_of s (ado.mp e).1) XL.keeps (by rfl) (by rfl) (by rfl) (fun s e => recFacts_of (ado.mp e).2) (by rfl) said (by decide +kernel) ⟨rfl, rfl, rfl, rfl, rfl, by decide +kernel⟩ ?hw ?hc
 case hw => w_witness2
 case hc => exact L3.walkH (k := 14) rfl rfl ⟨rfl, by decide, by decide⟩ fun w K mg gs h Y X G rN => Cut.all_mk Y X G rN
#print axioms PySem.Challenge.cw_slidecut_k46_whole_there_and_back_holds