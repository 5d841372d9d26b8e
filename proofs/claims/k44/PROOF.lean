import PyProof.Rows.All
import Wide.All
import OpenK.AllK
import Wide.FinOn
import Lean
import PyProof.EqAt
import PyProof.EqKinds
import PyProof.TupleCall
import PyProof.AttrMissHeap
import PyProof.Cells
import PyProof.AutoListH
import PyProof.AutoSeq1
import PyProof.SeqI3
import PyProof.Rows.SortWalk
import KE.KSortTup
import PyProof.DictItemsLoops
import PyProof.Rows.Range3
import PyProof.DictRoadsH
import PyProof.DictKinds
import PyProof.DictIter
import PyProof.DictWalks
import PyProof.NeKinds
import PyProof.ExcBaseAll.ValueError
import PyProof.ZipIter
import PyProof.ListCopy
import PyProof.CollectWalk
import KE.KIntText
import KE.KxPart
import PyProof.SliceStr2
import PyProof.Rows.StrFirst
import PyProof.StrLawsFirst
import KE.KxText
import PyProof.StrLawsIn
import PyProof.StrBlockI
import PyProof.Rows.StrNews
import PyProof.EnumMake
import PyProof.EnumFor
import PyProof.EnumStmt
import PyProof.Rows.SetFrom
import PyProof.MinMaxWalk
import PyProof.WalkInts
import PyProof.FactsAll.tuple_1
import PyProof.FactsAll.tuple_2
import PySem.Challenge.RW_slidecut_k44_boxes_widened
open Nat renaming le_trans->Gq,le_refl->Zg,mod_eq_of_lt->aar,ne_of_lt->aat,gcd->aav,lt_of_lt_of_le->aaA,zero_le->aaE,zero_add->aa2,lt_irrefl->aa7,mod_lt->aby,le_succ->abE,add_mod_right->abO,gcd_dvd_left->abU,ne_of_gt->ab8,gcd_dvd_right->acf,dvd_trans->acg,gcd_mul_left->ach,lt_or_ge->acw,le_of_lt->acF,gcd_comm->acL,eq_of_mul_eq_mul_left->acN,le_of_dvd->acQ,le_of_ble_eq_true->acR,mod_self->ac1,add_assoc->ac6,max_self->ac',pow_succ->ada,mul_add->adg,le_max_left->adh,le_max_right->adi,gcd_mul_right->adu,lt_of_le_of_lt->adK,mul_le_mul_left->adS
open Or renaming inl->Sz,inr->ZN
open Int renaming gcd->Ze,ne_of_gt->Zh,mul_pos->ZK,mul_ne_zero->aah,mul_zero->aai,mul_neg_of_pos_of_neg->aaj,mul_comm->aak,le_of_lt->aas,dvd_trans->aaw,mul_eq_zero->aaG,mul_nonneg->aaH,eq_of_mul_eq_mul_right->aaN,gcd_comm->aaR,dvd_mul_of_dvd_right->aaT,natAbs_mul->aa1,zero_mul->aa3,lt_trichotomy->aa4,neg_mul_neg->aa5,emod_nonneg->aa6,pos_of_mul_pos_right->abb,mul_assoc->abc,mul_neg_of_neg_of_pos->abf,emod_lt_of_pos->abh,mul_pos_of_neg_of_neg->abA,neg_dvd->abF,mul_fdiv_cancel_left->abG,neg_mul->abH,ofNat_dvd_left->abI,mul_ediv_cancel'->abR,gcd_dvd_right->abT,natAbs_dvd_natAbs->abV,pos_of_mul_pos_left->abY,fdiv_eq_ediv_of_nonneg->ab2,neg_gcd->ab3,mul_one->ab9,gcd_pos_of_ne_zero_right->acd,gcd_dvd_left->ace,lt_or_eq_of_le->acr,mul_nonneg_of_nonpos_of_nonpos->acs,mul_neg->acv,toNat_of_nonneg->acx,toNat->acD,gcd_mul_left->acM,dvd_coe_gcd->acX,dvd_sub->acY,add_comm->acZ,one_mul->ac7,sub_zero->ac8,fdiv_eq_ediv_of_dvd->adj,eq_ofNat_of_zero_le->ads,gcd_zero_right->adt,eq_of_mul_eq_mul_left->adA,gcd_pos_of_ne_zero_left->adB,natAbs_natCast->adC,mul_ediv_cancel_left->adM,mul_le_mul_of_nonneg_left->adU,le_of_mul_le_mul_right->adV
open List renaming length_map->Zf,mem_cons_self->ZJ,mem_cons_of_mem->ZL,length_append->ZM,mem_cons->Z6,map_append->Z7,length_cons->Z8,mem_map->Z9,append_nil->Z',map_cons->aaa,mem_singleton->aac,replicate->aad,mem_append->aae,size_toArray->aaf,getElem?_map->aag,length->aam,getElem?_eq_getElem->aan,append_assoc->aao,map_map->aap,Nodup->aaq,range->aau,forall_mem_nil->aay,nil_append->aaz,mem_append_right->aaC,mem_of_getElem?->aaD,getElem?_eq_none->aaF,forall_mem_cons->aaI,getElem?_append_right->aaJ,sum_cons->aaK,cons_append->aaL,getElem?_append_left->aaM,length_singleton->aaQ,getElem?_set_ne->aaV,mem_range->aaY,length_take->aa0,getElem?_set_self->aa8,length_replicate->aa9,map_nil->aa',length_set->aba,drop_eq_getElem_cons->abd,map_congr_left->abg,mem_append_left->abj,getElem?_replicate->abk,getElem?_of_mem->abl,drop_length->abm,length_nil->abn,mem_filter->abt,length_drop->abv,set_set->abw,not_mem_nil->abz,getElem?_eq_some_iff->abD,ext_getElem?->abJ,singleton_sublist->abP,filter_append->abZ,flatten_cons->ab1,sum_nil->ab4,eq_nil_or_concat->ab5,concat_eq_append->ab6,sum_append->ab7,nodup_cons->aca,length_range->acj,getElem?_range->ack,all_eq_true->acm,mem_of_mem_take->acn,length_filter_le->acu,filter_cons->acy,map->acC,isEmpty_map->acE,filterMap_cons->acG,of_mem_zip->acJ,mem_of_mem_drop->acT,take_of_length_le->acU,take_succ_cons->acV,drop_zero->acW,getElem_mem->ac0,dropLast_concat_getLast->ac2,exists_mem_of_ne_nil->ac3,dropLast_concat->ac9,mem_filterMap->adk,eraseIdx_cons_succ->ado,eraseIdxIfInBounds_toArray->adp,getElem?_eq_none_iff->adw,eq_nil_of_length_eq_zero->adx,sublist_append_right->adE,length_pos_iff->adF,filter_cons_of_pos->adG,filter_cons_of_neg->adH,getElem?_cons_succ->adL,isEmpty_iff->adN,getElem_take->adQ,take_append_drop->adR,append_cancel_left->adW
open Option.some renaming inj->aab,injEq->acp
open Bool renaming false_ne_true->aal,false_eq_true->aaS,and_eq_true->abL,not_true->abQ,eq_iff_iff->acS,beq_eq_decide_eq->adq,and_eq_true_iff->adX
open Rat renaming mul_pos->aax,le_of_lt->aaX,intCast_mul->abe,mul_le_mul_of_nonneg_right->abp,div_def->abC,inv_pos->ab0,div_mul_cancel->acz,mul_lt_mul_of_pos_right->acA,intCast_neg->acB,intCast_add->ac4,div_lt_iff->adb,le_of_mul_le_mul_right->ade,neg_mul->adf,mul_le_mul_of_nonneg_left->adT
open Ne renaming symm->aaB
open PySem.Challenge renaming pw_slidecut_k44_boxes_widened->aaO,rw_slidecut_k44_boxes_widened->aaP
open Classical renaming byContradiction->aaU,propDecidable->abx
open PySem.W renaming kia_one->aaW,kitOne->acI,kitx_list->adl,kitx_dict->adm
open False renaming elim->aaZ
open Prod renaming ext->abi
open List.cons renaming inj->abo,injEq->abX
open Sum renaming inl->abq,inr->abr
open PySem renaming mem_of_lookup->abu,Env->abK,natAbs_fdiv_le->acO
open List.Sublist renaming append->abB,refl->acq,cons_cons->adD
open PySem.F renaming plainAttrs_list->abM,slot_list_extend->ady,type_list_extend->adz,slot_dict_get->adJ,slot_list_pop->adO,type_list_pop->adP
open Prod.mk renaming injEq->abN
open True renaming intro->abS
open Option renaming map_some->abW,getD_none->acb,isSome_iff_exists->adn,isNone_iff_eq_none->adv,isSome_map->adI
open PyProof.Rows renaming callWith_type1->ab',envOfC->aci
open ForInStep renaming yield->aco
open Array renaming length_toList->acH,getElem?_toList->acK,forIn_toList->ac5
open PySem.Builtin.Int renaming intBits->acP
set_option Elab.async false
set_option linter.all false
namespace L3
open PySem PySem.W
def oA(h:Heap)(name:Str):Option (Option Value):=match h.get? mainGlobals with
 | some ⟨_,_,.dict es _,_⟩=>(match es.toList.find? (·.key.isStr name)with
   | some e=>some (some e.val)
   | none=>if es.toList.any (·.refKey)then none else some none)
 | _=>none
def xW(h:Heap)(cd:Value)(q:Str):Bool:=match cd with
 | .ref c=>(match h.get? c with
   | some ⟨_,_,.fields vs,_⟩=>(match vs.toList with|_::.str n _::_=>n==q|_=>false)
   | _=>false)
 | _=>false
def uy(h:Heap)(x:Str):Option (Str×Str×Arguments×FuncBody×Scope×Addr×List (Str×Addr)×Value×Addr×Bool):=match oA h x with
 | some (some (.ref f))=>(match h.get? f with
  | some ⟨_,_,.func fd,_⟩=>some (fd.name,fd.qualname,fd.params,fd.body,fd.scope,fd.globals,fd.closure,fd.defaults,fd.builtins,xW h fd.code x)
  | _=>none)
 | _=>none
def uz(x:Str)(st:Stmt):Option (Str×Str×Arguments×FuncBody×Scope×Addr×List (Str×Addr)×Value×Addr×Bool):=match st with
 | .FunctionDef _ a b _ _ _ sc _ _ _=>some (x,x,a,.stmts b,sc,mainGlobals,[],.none,builtinsNs,true)
 | _=>some (x,x,⟨[],[],none,[],[],none,[]⟩,.stmts [],{ kind:=.function,names:=[],isGenerator:=false,isCoroutine:=false },mainGlobals,[],.none,builtinsNs,true)
def uA(h:Heap)(x:Str):Option (Str×Int×Int):=match oA h x with
 | some (some (.ref p))=>(match h.get? p with
  | some ⟨.type "tuple",_,.seq its _,_⟩=>(match its.toList with|[.int i _,.int j _]=>some (x,i,j)|_=>none)
  | _=>none)
 | _=>none
def uB(h:Heap)(x:Str):Option (Str×(Int ⊕ Str)):=match oA h x with
 | some (some (.int i _))=>some (x,.inl i)
 | some (some (.str s _))=>some (x,.inr s)
 | _=>none
abbrev cX(x:Str)(s:Stmt):Str×Stmt:=(x,s)
abbrev JN(x:Str)(i j:Int):Str×Int×Int:=(x,i,j)
structure m3 where
 fs:List (Str×Stmt)
 bs:List Str
 ts:List (Str×Int×Int)
 cs:List (Str×(Int ⊕ Str))
abbrev Seen:Type:=List (Option (Str×Str×Arguments×FuncBody×Scope×Addr×List (Str×Addr)×Value×Addr×Bool))×List (Option (Option Value))×List (Option (Str×Int×Int))×List (Option (Str×(Int ⊕ Str)))
def rB(t:m3)(s:Shared):Seen:=(t.fs.map fun p=>uy s.heap p.1,t.bs.map fun b=>oA s.heap b,t.ts.map fun p=>uA s.heap p.1,t.cs.map fun p=>uB s.heap p.1)
def rC(t:m3)(_:World):Seen:=(t.fs.map fun p=>uz p.1 p.2,t.bs.map fun _=>some none,t.ts.map fun p=>some p,t.cs.map fun p=>some p)
theorem map_two{α β γ:Type}{E:Option α}{F:α->β×γ}{a:β×γ}(aa:E.map (fun s=>(F s).1)=some a.1)(ab:E.map (fun s=>(F s).2)=some a.2):E.map F=some a:=by
 cases E with
 | none=>cases aa
 | some x =>
  have ai:=aab aa;have av:=aab ab;exact congrArg some (abi ai av)
theorem JO{p q:Program}{loose:List Str}{Xt:Shared->Bool}{α:Type}{Yf:Shared->α}{Ya:World->α}{N:Nat}(aa:∀w:World,(openEnds treeTable p w N).map (fun s=>(openSeen q loose (importedModules p.main.body) Xt true s).1)=some (openGood q loose).1)(ab:∀w:World,(openEnds treeTable p w N).map (fun s=>(openSeen q loose (importedModules p.main.body) Xt true s).2)=some (openGood q loose).2)(aL:∀w:World,(openEnds treeTable p w N).map Yf=some (Ya w)):LeftO p q loose Xt Yf Ya N :=
 fun w=>map_two (F:=fun s=>(openSeen q loose (importedModules p.main.body) Xt true s,Yf s)) (a:=(openGood q loose,Ya w)) (map_two (aa w) (ab w)) (aL w)
end L3
namespace Cut
open PySem L3
def top(i:Nat):Stmt:=aaO.main.body.getD i (.Pass ⟨0,0,0,0⟩)
abbrev xX:Stmt:=top 6
abbrev uC:Stmt:=top 7
abbrev xY:Stmt:=top 8
abbrev xZ:Stmt:=top 9
abbrev x1:Stmt:=top 10
abbrev x2:Stmt:=top 11
abbrev x3:Stmt:=top 12
abbrev x4:Stmt:=top 13
abbrev x5:Stmt:=top 14
abbrev x6:Stmt:=top 16
abbrev x7:Stmt:=top 17
abbrev x8:Stmt:=top 18
abbrev x9:Stmt:=top 19
abbrev x':Stmt:=top 20
abbrev ya:Stmt:=top 21
abbrev yb:Stmt:=top 23
abbrev yc:Stmt:=top 24
abbrev yd:Stmt:=top 25
abbrev ye:Stmt:=top 26
abbrev yf:Stmt:=top 27
abbrev p0:Stmt:=top 28
abbrev yg:Stmt:=top 29
abbrev yh:Stmt:=top 30
abbrev yi:Stmt:=top 32
abbrev yj:Stmt:=top 33
abbrev yk:Stmt:=top 34
abbrev yl:Stmt:=top 35
abbrev ym:Stmt:=top 36
abbrev yn:Stmt:=top 38
abbrev yo:Stmt:=top 39
abbrev yp:Stmt:=top 40
abbrev yq:Stmt:=top 41
abbrev yr:Stmt:=top 42
abbrev yt:Stmt:=top 43
abbrev yu:Stmt:=top 44
abbrev yv:Stmt:=top 45
abbrev yw:Stmt:=top 46
abbrev yx:Stmt:=top 47
abbrev yy:Stmt:=top 48
abbrev yz:Stmt:=top 49
abbrev yA:Stmt:=top 50
abbrev yB:Stmt:=top 51
abbrev yC:Stmt:=top 52
abbrev yD:Stmt:=top 53
abbrev yE:Stmt:=top 54
abbrev yF:Stmt:=top 55
abbrev yG:Stmt:=top 56
abbrev yH:Stmt:=top 57
abbrev yI:Stmt:=top 58
abbrev yJ:Stmt:=top 59
abbrev yK:Stmt:=top 60
abbrev yL:Stmt:=top 61
abbrev yM:Stmt:=top 62
abbrev yN:Stmt:=top 63
abbrev yO:Stmt:=top 64
abbrev yP:Stmt:=top 65
abbrev yQ:Stmt:=top 66
abbrev yR:Stmt:=top 67
def tabs:m3:=⟨[cX "greatest_divisor" xX,cX "plus" uC,cX "minus" xY,cX "times" xZ,cX "over" x1,cX "under" x2,cX "against" x3,cX "least_whole" x4,cX "most_whole" x5,cX "point" x6,cX "at" x7,cX "slid" x8,cX "crossed" x9,cX "hand_of" x',cX "meet" ya,cX "cut_ring" yb,cX "cut_sheet" yc,cX "cut_upright" yd,cX "cut_level" ye,cX "moved" yf,cX "slices" p0,cX "columns_of" yg,cX "layers_of" yh,cX "piled" yi,cX "in_columns" yj,cX "in_layers" yk,cX "in_three" yl,cX "widened" ym,cX "_law_cell" yn,cX "_law_bag" yo,cX "_law_draw" yp,cX "_law_measure" yq,cX "_law_low" yr,cX "_law_spot" yt,cX "_law_whole" yu,cX "_law_line" yv,cX "_law_count" yw,cX "_law_part" yx,cX "_law_left" yy,cX "_law_is_spot" yz,cX "_law_is_bulging" yA,cX "_law_between" yB,cX "_law_cut" yC,cX "_law_sheet" yD,cX "_law_first" yE,cX "_law_kept" yF,cX "_law_lies" yG,cX "_law_copied" yH,cX "_law_product" yI,cX "_law_less" yJ,cX "_law_pin" yK,cX "_law_box" yL,cX "_law_is_box" yM,cX "_law_is_low" yN,cX "_law_size" yO,cX "_law_width" yP,cX "_law_right" yQ,cX "law" yR],["len","abs","int","bool","tuple","isinstance","range","all","sum","list","ValueError","zip","str","enumerate","set","max","min","sorted","dict"],[JN "NOTHING" 0 1],[]⟩
open PySem.W in
set_option maxRecDepth 100000 in
set_option maxHeartbeats 0 in
theorem said:(aaP).wellSaid=true:=by kernel_rfl
open PySem.W in
set_option maxRecDepth 100000 in
set_option maxHeartbeats 0 in
theorem JP:∀w:World,(openEnds treeTable (aaP).row.prog w 20000).map (fun s=>(openSeen aaO [] (importedModules (aaP).row.prog.main.body) (fun s=>xlAt aaO [] s&&recOk (RowW.records (OpenRow.toRowW (aaP).row)) s) true s).1)=some (openGood aaO []).1:=fun w=>by kernel_rfl
open PySem.W in
set_option maxRecDepth 100000 in
set_option maxHeartbeats 0 in
theorem JQ:∀w:World,(openEnds treeTable (aaP).row.prog w 20000).map (fun s=>(openSeen aaO [] (importedModules (aaP).row.prog.main.body) (fun s=>xlAt aaO [] s&&recOk (RowW.records (OpenRow.toRowW (aaP).row)) s) true s).2)=some (openGood aaO []).2:=fun w=>by kernel_rfl
open PySem.W in
set_option maxRecDepth 100000 in
set_option maxHeartbeats 0 in
theorem JR:∀w:World,(openEnds treeTable (aaP).row.prog w 20000).map (rB tabs)=some (rC tabs w):=fun w=>by kernel_rfl
open PySem.W in
set_option maxRecDepth 100000 in
set_option maxHeartbeats 0 in
theorem left:LeftO (aaP).row.prog aaO [] (fun s=>xlAt aaO [] s&&recOk (RowW.records (OpenRow.toRowW (aaP).row)) s) (rB tabs) (rC tabs) 20000:=JO (p:=(aaP).row.prog) (q:=aaO) (loose:=[]) (Xt:=(fun s=>xlAt aaO [] s&&recOk (RowW.records (OpenRow.toRowW (aaP).row)) s)) (Yf:=rB tabs) (Ya:=rC tabs) (N:=20000) JP JQ JR
end Cut
set_option Elab.async false
set_option linter.all false
set_option maxRecDepth 100000
namespace L2
open PySem PySem.Spec PyProof.Rows
abbrev Key:=Sum Int Str
def C8:Key->Value->Bool
 | .inl k,v=>Value.isInt k v
 | .inr x,v=>Value.isStrOf x v
def JS(w:World):Key->Int
 | .inl k=>hashInt k
 | .inr x=>hashStr w x
theorem l':∀{k:Key}{v:Value},C8 k v=true->(∃i t,k=abq i/\v=Value.int i t)∨(∃x t,k=abr x/\v=Value.str x t)
 | .inl i,v,h=>by
  obtain⟨t,e⟩:=Value.isInt_shape (k:=i) (v:=v) h;exact .inl ⟨i,t,rfl,e⟩
 | .inr x,v,h=>by
  obtain⟨t,e⟩:=Value.isStrOf_shape (x:=x) (v:=v) h;exact .inr ⟨x,t,rfl,e⟩
theorem JT(a b:Int):decide ((abq a:Key)=abq b)=(a==b):=by
 by_cases e:a=b
 ·subst e;simp
 ·have h:¬(abq a:Key)=abq b:=fun q=>e (Sum.inl.inj q);rw[decide_eq_false h];exact(beq_eq_false_iff_ne.mpr e).symm
theorem JU(a b:Str):decide ((abr a:Key)=abr b)=decide (a=b):=by
 by_cases e:a=b
 ·subst e;simp
 ·have h:¬(abr a:Key)=abr b:=fun q=>e (Sum.inr.inj q);rw[decide_eq_false h,decide_eq_false e]
theorem JV(a:Int)(b:Str):decide ((abq a:Key)=abr b)=false:=decide_eq_false (fun q=>nomatch q)
theorem JW(a:Str)(b:Int):decide ((abr a:Key)=abq b)=false:=decide_eq_false (fun q=>nomatch q)
def yS(prog:Program)(w:World):PySem.KeyKind prog w Key where
 is:=C8
 hash:=JS w
 inj:=fun v a b ax af=>by
  rcases l' ax with⟨i,t,rfl,rfl⟩|⟨x,t,rfl,rfl⟩
  ·rcases l' af with⟨j,u,rfl,e⟩|⟨y,u,rfl,e⟩
   ·injection e with ai _;rw[ai]
   ·exact nomatch e
  ·rcases l' af with⟨j,u,rfl,e⟩|⟨y,u,rfl,e⟩
   ·exact nomatch e
   ·injection e with ai _;rw[ai]
 byValue:=fun k v h=>by
  rcases l' h with⟨i,t,rfl,rfl⟩|⟨x,t,rfl,rfl⟩<;>rfl
 pyHash:=fun aP h=>by
  rcases l' aP with⟨i,t,rfl,rfl⟩|⟨x,t,rfl,rfl⟩
  ·exact wpAny_pyHash_int h
  ·exact wpAny_pyHash_str h
 eqBool:=fun bA aP h=>by
  rcases l' bA with⟨i,t,rfl,rfl⟩|⟨x,t,rfl,rfl⟩
  ·rcases l' aP with⟨j,u,rfl,rfl⟩|⟨y,u,rfl,rfl⟩
   ·rw[JT]at h;exact wpAny_eqBool_int h
   ·rw[JV]at h;exact SeqAt.EqAt.int_str i t y u _ _ _ _ h
  ·rcases l' aP with⟨j,u,rfl,rfl⟩|⟨y,u,rfl,rfl⟩
   ·rw[JW]at h;exact SeqAt.EqAt.str_int x t j u _ _ _ _ h
   ·rw[JU]at h;exact wpAny_eqBool_str h
 «strs» :=fun k x t v h=>by
  rcases l' h with⟨i,u,rfl,e⟩|⟨y,u,rfl,e⟩
  ·exact nomatch e
  ·injection e with ai _
   subst ai
   cases v<;>rfl
inductive V where
 | non|bl (b:Bool)|int (i:Int)|str (x:Str)|byt (b:Array UInt8)|flt (b:UInt64)|ref (a:Addr)|ty (n:String)
 deriving DecidableEq
def RelV:V->Value->Prop
 | .non,u=>u=Value.none
 | .bl b,u=>u=Value.bool b
 | .int i,u=>∃t,u=Value.int i t
 | .str x,u=>∃t,u=Value.str x t
 | .byt b,u=>∃t,u=Value.bytes b t
 | .flt b,u=>∃t,u=Value.float b t
 | .ref a,u=>u=Value.ref a
 | .ty n,u=>u=Value.type n
abbrev Vals:List V->List Value->Prop:=Paired RelV
theorem Vals.length{xs:List V}{us:List Value}(r:Vals xs us):xs.length=us.length:=Paired.length r
theorem Vals.get:∀{xs:List V}{us:List Value}{i:Nat}{x:V},Vals xs us->xs[i]?=some x->∃u,us[i]?=some u/\RelV x u
 | _,_,_,_,.nil,e=>by simp at e
 | _,_,0,_,.cons r _,e=>by simp at e;subst e;exact⟨_,rfl,r⟩
 | _,_,i+1,x,.cons _ t,e=>by
  obtain⟨u,aa,ab⟩:=Vals.get (i:=i) (x:=x) t (by simpa using e);exact⟨u,by simpa using aa,ab⟩
theorem Vals.set{x:V}{u:Value}(r:RelV x u):∀{xs:List V}{us:List Value}(i:Nat),Vals xs us->Vals (xs.set i x) (us.set i u)
 | _,_,_,.nil=>.nil
 | _,_,0,.cons _ t=>.cons r t
 | _,_,i+1,.cons q t=>.cons q (Vals.set r i t)
theorem Vals.append:∀{xs ys:List V}{us ws:List Value},Vals xs us->Vals ys ws->Vals (xs++ys) (us++ws)
 | _,_,_,_,.nil,s=>s
 | _,_,_,_,.cons r t,s=>.cons r (Vals.append t s)
theorem Vals.take:∀{xs:List V}{us:List Value}(n:Nat),Vals xs us->Vals (xs.take n) (us.take n)
 | _,_,0,_=>.nil
 | _,_,_+1,.nil=>.nil
 | _,_,n+1,.cons r t=>.cons r (Vals.take n t)
theorem Vals.drop:∀{xs:List V}{us:List Value}(n:Nat),Vals xs us->Vals (xs.drop n) (us.drop n)
 | _,_,0,r=>r
 | _,_,_+1,.nil=>.nil
 | _,_,n+1,.cons _ t=>Vals.drop n t
def m4:Option V->Option Value->Prop
 | some v,some u=>RelV v u
 | none,none=>True
 | _,_=>False
def yT{κ:Type}:List (κ×V)->List (κ×Value)->Prop:=Paired fun(p:κ×V)(q:κ×Value)=>p.1=q.1/\RelV p.2 q.2
def kV:Key->V
 | .inl i=>.int i
 | .inr x=>.str x
inductive eV where
 | lst (xs:List V)
 | tup (xs:List V)
 | dK (kvs:List (Key×V))|dT (kvs:List (List Key×V))
 | set (S:Int->Bool) (n:Nat)
 | ins (C dM:Addr) (fs:List (Str×V))
 | own (x:Addr)
 | xd (fs:List (Str×V))
 | met (f x:Addr)
 | rng (lo aD:Int)
 | frz (o:Obj) (u:eV)
 | tbl (ps:Array Value)
 | ext (φ:Heap->Prop)
abbrev ao:=Addr->Option eV
def upd(H:ao)(a:Addr)(o:eV):ao:=fun b=>if b=a then some o else H b
theorem en{H:ao}{a:Addr}{o:eV}:upd H a o a=some o:=by unfold upd;rw[if_pos rfl]
theorem dz{H:ao}{a b:Addr}{o:eV}(h:b≠a):upd H a o b=H b:=by unfold upd;rw[if_neg h]
theorem m5{H:ao}{a b:Addr}{o:eV}(h:H a=some o)(h':H b=none):a≠b:=by
 intro e;subst e;rw[h]at h';cases h'
section
variable(P:Program)(w:World)
def fL(H:ao)(h:Heap)(a:Addr):eV->Prop
 | .lst xs=>xs.length<=sizeLine/\∃(its:List Value)(n:Nat),Vals xs its/\h.get? a=some { cls:=.type "list",data:=.seq its.toArray n }
 | .tup xs=>xs.length<=sizeLine/\∃its:List Value,Vals xs its/\IsTup h a its.toArray
 | .dK kvs=>kvs.length<=sizeLine/\(a==sysModules)=false/\∃vs,yT kvs vs/\h.DictOf (yS P w) a vs
 | .dT kvs=>kvs.length<=sizeLine/\(a==sysModules)=false/\∃xs:List (List Key×Addr×Value),
   Paired (fun(p:List Key×V)(q:List Key×Addr×Value)=>p.1=q.1/\H q.2.1=some (.tup (p.1.map kV))/\RelV p.2 q.2.2) kvs xs /\
   ∃o es bq,h.get? a=some o/\o.ExactDict/\o.data=.dict es bq/\es.toList=xs.map (entryOfKey (tupleKind (yS P w)))/\(xs.map (·.1)).Nodup
 | .set S n=>h.SetOf (intKind P w) a S n
 | .ins C dM fs=>H dM=some (.own a)/\fs.length<=1000/\dM≠a/\h.get? a=some (PySem.W.instObj C dM) /\
   ∃fq,h.Ns1 dM fq/\(∀f,m4 (fs.lookup f) (fq f))/\PySem.Within fq (fs.map (·.1))
 | .own _=>∃o,h.get? a=some o
 | .xd fs=>∃fq,h.Ns1 a fq/\∀f,m4 (fs.lookup f) (fq f)
 | .rng lo aD=>∃t u v,h.get? a=some { cls:=.type "range",data:=.fields #[.int lo t,.int aD u,.int 1 v] }
 | .frz o u=>h.get? a=some o/\fL H h a u
 | .tbl ps=>h.get? a=some { cls:=.none,data:=.fields ps }
 | .met f x=>h.get? a=some (PySem.W.methodObj (.ref f) (.ref x))
 | .ext φ=>φ h/\(∃o,h.get? a=some o)/\∀aa ab:Heap,φ aa->(∀o,aa.get? a=some o->ab.get? a=some o)->φ ab
def eo(H:ao)(h:Heap):Prop:=∀a o,H a=some o->fL P w H h a o
end
section
variable{P:Program}{w:World}{H H':ao}{h h':Heap}{a:Addr}{o:eV}
theorem fL.lt(x:fL P w H h a o):a<h.objs.size:=by
 cases o with
 | lst xs=>obtain⟨_,_,_,_,e⟩:=x;exact Heap.lt_size e
 | tup xs=>obtain⟨_,_,_,p⟩:=x;exact p.lt
 | dK kvs=>obtain⟨_,_,_,_,o,_,_,e,_⟩:=x;exact Heap.lt_size e
 | dT kvs=>obtain⟨_,_,_,_,o,_,_,e,_⟩:=x;exact Heap.lt_size e
 | set S n=>obtain⟨o,_,_,_,e,_⟩:=x;exact Heap.lt_size e
 | ins C dM fs=>obtain⟨_,_,_,e,_⟩:=x;exact Heap.lt_size e
 | own y=>obtain⟨_,e⟩:=x;exact Heap.lt_size e
 | xd fs=>obtain⟨_,⟨_,_,_,e,_⟩,_⟩:=x;exact Heap.lt_size e
 | rng lo aD=>obtain⟨_,_,_,e⟩:=x;exact Heap.lt_size e
 | frz cK u=>obtain⟨e,_⟩:=x;exact Heap.lt_size e
 | tbl ps=>exact Heap.lt_size (show h.get? a=some _ from x)
 | met f y=>exact Heap.lt_size (show h.get? a=some _ from x)
 | ext φ=>obtain⟨_,⟨_,e⟩,_⟩:=x;exact Heap.lt_size e
theorem Paired.mapP{α β:Type}{F G:α->β->Prop}:∀{C9:List α}{l₂:List β},Paired F C9 l₂->(∀a b,F a b->G a b)->Paired G C9 l₂
 | _,_,.nil,_=>.nil
 | _,_,.cons r t,f=>.cons (f _ _ r) (Paired.mapP t f)
theorem fL.stay(x:fL P w H h a o)(k:∀b u,(b=a∨H b=some (.own a))->h.get? b=some u->h'.get? b=some u)(aE:∀b,H b=some (.own a)->H' b=some (.own a))(bB:∀b xs,H b=some (.tup xs)->H' b=some (.tup xs)):fL P w H' h' a o:=by
 induction o with
 | lst xs=>obtain⟨z,its,n,r,e⟩:=x;exact⟨z,its,n,r,k _ _ (.inl rfl) e⟩
 | tup xs=>obtain⟨z,its,r,cK,e,c⟩:=x;exact⟨z,its,r,cK,k _ _ (.inl rfl) e,c⟩
 | dK kvs=>obtain⟨z,y,vs,r,cK,es,bq,e,c⟩:=x;exact⟨z,y,vs,r,cK,es,bq,k _ _ (.inl rfl) e,c⟩
 | dT kvs =>
  obtain⟨z,y,xs,r,cK,es,bq,e,c⟩:=x;exact⟨z,y,xs,Paired.mapP r fun p q z=>⟨z.1,bB _ _ z.2.1,z.2.2⟩,cK,es,bq,k _ _ (.inl rfl) e,c⟩
 | set S n=>obtain⟨cK,es,bq,t,e,c⟩:=x;exact⟨cK,es,bq,t,k _ _ (.inl rfl) e,c⟩
 | ins C dM fs =>
  obtain⟨d,z,ne,e,fq,⟨od,es,bq,av,c⟩,r⟩:=x;exact⟨aE _ d,z,ne,k _ _ (.inl rfl) e,fq,⟨od,es,bq,k _ _ (.inr d) av,c⟩,r⟩
 | own y=>obtain⟨cK,e⟩:=x;exact⟨cK,k _ _ (.inl rfl) e⟩
 | xd fs=>obtain⟨fq,⟨od,es,bq,e,c⟩,r⟩:=x;exact⟨fq,⟨od,es,bq,k _ _ (.inl rfl) e,c⟩,r⟩
 | rng lo aD=>obtain⟨t,u,v,e⟩:=x;exact⟨t,u,v,k _ _ (.inl rfl) e⟩
 | frz cK u c3=>obtain⟨e,q⟩:=x;exact⟨k _ _ (.inl rfl) e,c3 q⟩
 | tbl ps =>
  have e:h.get? a=some { cls:=.none,data:=.fields ps }:=x;show h'.get? a=some { cls:=.none,data:=.fields ps }
  exact k a _ (.inl rfl) e
 | met f y =>
  have e:h.get? a=some (PySem.W.methodObj (.ref f) (.ref y)):=x;show h'.get? a=some (PySem.W.methodObj (.ref f) (.ref y))
  exact k a _ (.inl rfl) e
 | ext φ=>obtain⟨p,⟨o,e⟩,st⟩:=x;exact⟨st _ _ p fun o q=>k _ _ (.inl rfl) q,⟨o,k _ _ (.inl rfl) e⟩,st⟩
theorem eo.lt(x:eo P w H h)(e:H a=some o):a<h.objs.size:=(x a o e).lt
theorem eo.fresh(x:eo P w H h)(e:h.objs.size<=a):H a=none:=by
 cases q:H a with
 | none=>rfl
 | some u=>exact absurd (aaA (x.lt q) e) (aa7 _)
theorem eo.kept(x:eo P w H h)(k:∀b u,h.get? b=some u->h'.get? b=some u):eo P w H h':=fun a o e =>
 (x a o e).stay (fun b u _ q=>k b u q) (fun _ q=>q) fun _ _ q=>q
theorem eo.laid(x:eo P w H h)(k:∀b u,h.get? b=some u->h'.get? b=some u)(ag:h.objs.size<=a)(new:fL P w (upd H a o) h' a o):eo P w (upd H a o) h':=fun b u e=>by
 have aN:=x.fresh ag;by_cases af:b=a
 ·subst af;rw[en]at e;cases e;exact new
 ·rw[dz af]at e;exact(x b u e).stay (fun c v _ q=>k c v q) (fun c q=>by rw[dz (m5 q aN)];exact q) fun c xs q=>by rw[dz (m5 q aN)];exact q
end
def uD(H:ao)(a:Addr)(u:eV):Prop:=H a=some u∨∃o,H a=some (.frz o u)
theorem uD.ok{P:Program}{w:World}{H:ao}{h:Heap}{a:Addr}{u:eV}(r:uD H a u)(x:eo P w H h):fL P w H h a u:=by
 rcases r with r|⟨o,r⟩
 ·exact x a u r
 ·obtain⟨_,q⟩:=x a _ r;exact q
def uE:Option eV->Prop
 | some (.lst _)=>True
 | some (.dK _)=>True
 | some (.dT _)=>True
 | some (.set _ _)=>True
 | some (.ins _ _ _)=>True
 | some (.ext _)=>True
 | _=>False
section
variable{P:Program}{w:World}{H:ao}{h h':Heap}{x e:Addr}{eA:eV}
theorem eo.write(ok:eo P w H h)(f':uE (H x))(he:e=x∨H e=some (.own x))(k:∀b u,b≠e->h.get? b=some u->h'.get? b=some u)(p1:∃u,h'.get? e=some u)(new:fL P w (upd H x eA) h' x eA):eo P w (upd H x eA) h':=fun b u q=>by
 have C':∀c y,H c=some (.own y)->c≠x:=fun c y r z=>by subst z;rw[r]at f';exact f'
 have JX:∀c xs,H c=some (.tup xs)->c≠x:=fun c xs r z=>by subst z;rw[r]at f';exact f'
 by_cases af:b=x
 ·subst af;rw[en]at q;cases q;exact new
 ·rw[dz af]at q;by_cases oB:b=e
  ·have hF:H b=some (.own x):=by
    rcases he with z|z
    ·exact absurd (oB.trans z) af
    ·rw[oB];exact z
   rw[q]at hF;cases hF;obtain⟨v,aP⟩:=p1;exact⟨v,by rw[oB];exact aP⟩
  ·refine(ok b u q).stay (fun c v hc r=>k c v ?_ r) (fun c r=>by rw[dz (C' c b r)];exact r) fun c xs r=>by rw[dz (JX c xs r)];exact r
   rcases hc with rfl|hc
   ·exact oB
   ·rintro rfl;rcases he with z|z
    ·exact C' c b hc z
    ·rw[hc]at z;cases z;exact af rfl
end
structure ft (fs ex:List Addr) (H H':ao) (h h':Heap):Prop where
 keep:∀b o,h.get? b=some o->H b=none->b∉fs->b∉ex->h'.get? b=some o
 slot:∀b o,h.get? b=some o->H b=none->b∈fs->b∉ex->∃sl,h'.get? b=some { o with slots:=sl }
 free:∀b o,h.get? b=some o->H b=none->b∉ex->H' b=none
 there:∀b o,h.get? b=some o->b∉ex->∃eA,h'.get? b=some eA
 tups:∀b xs,H b=some (.tup xs)->H' b=some (.tup xs)
 frzs:∀b o u,H b=some (.frz o u)->H' b=some (.frz o u)
 tbls:∀b ps,H b=some (.tbl ps)->∃more,H' b=some (.tbl (ps++more))
section
variable{fs JY ex Zb:List Addr}{H H1 a3:ao}{h aa ab h':Heap}{a x e:Addr}{o:eV}
theorem ft.any(u:ft fs ex H H1 h aa){b:Addr}{cK:Obj}(q:h.get? b=some cK)(n:H b=none)(aB:b∉ex):∃sl,aa.get? b=some { cK with slots:=sl }:=by
 by_cases af:b∈fs
 ·exact u.slot b cK q n af aB
 ·exact⟨cK.slots,u.keep b cK q n af aB⟩
theorem ft.kept(k:∀b u,h.get? b=some u->h'.get? b=some u):ft fs ex H H h h' :=
 ⟨fun b cK q _ _ _=>k b cK q,fun b cK q _ _ _=>⟨cK.slots,k b cK q⟩,fun _ _ _ n _=>n,fun b cK q _=>⟨cK,k b cK q⟩,fun _ _ q=>q,fun _ _ _ q=>q,fun _ ps q=>⟨#[],by rw[q];simp⟩⟩
theorem ft.refl:ft fs ex H H h h:=ft.kept fun _ _ q=>q
theorem ft.laid(k:∀b u,h.get? b=some u->h'.get? b=some u)(ag:h.objs.size<=a)(aN:H a=none):ft fs ex H (upd H a o) h h' where
 keep:=fun b u q _ _ _=>k b u q
 slot:=fun b u q _ _ _=>⟨u.slots,k b u q⟩
 free:=fun b u q n _=>by rw[dz (aat (aaA (Heap.lt_size q) ag))];exact n
 there:=fun b u q _=>⟨u,k b u q⟩
 tups:=fun b xs q=>by rw[dz (m5 q aN)];exact q
 frzs:=fun b u xs q=>by rw[dz (m5 q aN)];exact q
 tbls:=fun b ps q=>⟨#[],by rw[dz (m5 q aN),q];simp⟩
theorem ft.write(f':uE (H x))(he:e=x∨H e=some (.own x))(k:∀b u,b≠e->h.get? b=some u->h'.get? b=some u)(p1:∃u,h'.get? e=some u):ft fs ex H (upd H x o) h h':=by
 have aB:∀b,H b=none->b≠x:=fun b n z=>by subst z;rw[n]at f';exact f'
 have af:∀b,H b=none->b≠e:=fun b n z=>by
  subst z;rcases he with r|r
  ·exact aB b n r
  ·rw[n]at r;cases r
 have hm:∀b u,H b=some u->¬uE (some u)->b≠x:=fun b u q nm z=>by subst z;rw[q]at f';exact nm f'
 refine⟨fun b u q n _ _=>k b u (af b n) q,fun b u q n _ _=>⟨u.slots,k b u (af b n) q⟩,fun b u q n _=>by rw[dz (aB b n)];exact n,fun b u q _=>?_,
  fun b xs q=>by rw[dz (hm b _ q fun z=>z)];exact q,fun b u xs q=>by rw[dz (hm b _ q fun z=>z)];exact q,fun b ps q=>⟨#[],by rw[dz (hm b _ q fun z=>z),q];simp⟩⟩
 by_cases oB:b=e
 ·subst oB;exact p1
 ·exact⟨u,k b u oB q⟩
end
def uF(h:Heap)(H:ao):List Addr:=(aau h.objs.size).filter fun a=>(H a).isSome
def ma(h:Heap)(H:ao):Heap:=PySem.W.hideAll h (uF h H)
theorem JZ(h:Heap)(H:ao):(ma h H).objs.size=h.objs.size:=PySem.W.hideAll_size _ _
theorem J0{h:Heap}{H:ao}{b:Addr}{o:Obj}(e:h.get? b=some o)(n:H b=none):(ma h H).get? b=some o :=
 PySem.W.hideAll_get _ e fun hm=>by
  have q:(H b).isSome=true:=(abt.mp hm).2;rw[n]at q;simp at q
theorem J1{h:Heap}{H:ao}{b:Addr}{o:Obj}(e:(ma h H).get? b=some o):h.get? b=some o/\H b=none:=by
 have aT:h.get? b=some o:=PySem.W.of_hideAll (uF h H) e;refine⟨aT,?_⟩;cases q:H b with
 | none=>rfl
 | some x =>
  have hm:b∈uF h H:=abt.mpr ⟨aaY.mpr (Heap.lt_size aT),by simp[q]⟩;have z:(ma h H).get? b=none:=PySem.W.hideAll_none (uF h H) hm;rw[z]at e;cases e
structure Mod (K:PySem.W.Frag) (mg:Str->Option Value) (base:Heap):Prop where
 kin:K.In base
 glob:base.Ns mainGlobals mg
 blt:∃gB,base.Ns builtinsNs gB/\∀x:Str,x≠"__name__"->gB x=bootBuiltins x
 nolimit:base.NoLimit
structure aM where
 prog:Program
 w:World
 K:PySem.W.Frag
 mg:Str->Option Value
 base:Heap
 A:Around
 N:List Str
 s₀:Shared
 H₀:ao
 env:Env
 outer:List Env
 stack:List Env
 ex:List Addr
 fn:Str->Bool
 calm:Bool
 pn:List (Addr×Obj)
 xe:Value->Shared->Prop
def jG(l:List Env):List Addr:=l.filterMap (·.frame)
abbrev aM.fs(X:aM):List Addr:=jG X.outer
def gb(sc:Scope)(x:Str):Prop:=sc.names.lookup x=some .local∨sc.names.lookup x=some .cell∨sc.names.lookup x=some .free
def Loc(sc:Scope)(x:Str):Prop:=sc.names.lookup x=some .local∨sc.names.lookup x=some .cell
def Look(env:Env)(h:Heap)(m:Str->Option Value)(x:Str)(u:Value):Prop :=
 (env.kindOf x=some .local/\m x=some u)∨((env.kindOf x=some .cell∨env.kindOf x=some .free)/\∃c,env.cells.lookup x=some c/\h.IsCell c (some u))
structure aM.Ok (X:aM):Prop where
 mod:Mod X.K X.mg X.base
 kind:X.env.scope.kind=.function
 glob:X.env.globals=mainGlobals
 blt:X.env.builtins=builtinsNs
 above:X.s₀.heap.objs.size<=X.env.locals
 inj:∀x y c,X.env.cells.lookup x=some c->X.env.cells.lookup y=some c->x=y
 has:∀x,(X.env.kindOf x=some .cell∨X.env.kindOf x=some .free)->∃c,X.env.cells.lookup x=some c
 cab:∀x c,X.fn x=true->X.env.cells.lookup x=some c->X.s₀.heap.objs.size<=c
 hd:X.calm=true->X.A.handled=none
 frames:X.A.frames=some X.stack
 stk:X.stack=X.outer∨(X.stack=X.env::X.outer/\X.env.frame=some X.env.locals)
 exf:∀b∈X.ex,b≠X.env.locals/\∀x c,X.env.cells.lookup x=some c->c≠b
 bs:∀b o,X.base.get? b=some o->X.s₀.heap.get? b=some o/\X.H₀ b=none
 bsz:X.base.objs.size<=X.s₀.heap.objs.size
 noex:∀b o,X.base.get? b=some o->b∉X.ex
 exfs:∀b∈X.ex,b∉X.fs
 funs:X.s₀.heap.FunFrames X.base X.outer
 frf:∀b∈X.fs,X.H₀ b=none
structure Inv (X:aM) (pins:List (Addr×Obj)) (σ:List (Option V)) (H:ao) (s:Shared):Prop where
 ok:X.Ok
 os:s.os=X.s₀.os
 bare:AllBare s.gens
 base:ft X.fs X.ex X.H₀ H X.s₀.heap s.heap
 loc:∃m,s.heap.Ns X.env.locals m/\∀(i:Nat)(x:Str)(v:V),X.N[i]?=some x->σ[i]?=some (some v)->gb X.env.scope x->∃u,RelV v u/\Look X.env s.heap m x u
 cell:∀x c,X.env.cells.lookup x=some c->∃v,s.heap.IsCell c v
 free:H X.env.locals=none
 freeC:∀x c,X.env.cells.lookup x=some c->H c=none
 pin:∀p∈X.pn++pins,s.heap.get? p.1=some p.2/\H p.1=none/\p.1≠X.env.locals/\p.1∉X.fs/\∀v,p.2.data≠.cell v
 hok:eo X.prog X.w H s.heap
 len:σ.length=X.N.length
section
variable{X:aM}{pins:List (Addr×Obj)}{σ:List (Option V)}{H H':ao}{s:Shared}{h':Heap}
theorem aM.Ok.nofr(ok:X.Ok){b:Addr}{o:Obj}(e:X.base.get? b=some o):b∉X.fs:=fun af=>by
 have:=(ok.funs.mem af).1;rw[e]at this;cases this
theorem Inv.bs(I:Inv X pins σ H s):∀b o,X.base.get? b=some o->s.heap.get? b=some o/\H b=none:=fun b o e =>
 ⟨I.base.keep b o (I.ok.bs b o e).1 (I.ok.bs b o e).2 (I.ok.nofr e) (I.ok.noex b o e),I.base.free b o (I.ok.bs b o e).1 (I.ok.bs b o e).2 (I.ok.noex b o e)⟩
theorem Inv.bk(I:Inv X pins σ H s):∀b o,X.base.get? b=some o->s.heap.get? b=some o:=fun b o e=>(I.bs b o e).1
theorem Inv.mod(I:Inv X pins σ H s):Mod X.K X.mg X.base:=I.ok.mod
theorem Inv.kIn(I:Inv X pins σ H s):X.K.In s.heap:=I.ok.mod.kin.keeps I.bk
theorem Inv.lt(I:Inv X pins σ H s):X.env.locals<s.heap.objs.size:=let⟨_,aN,_⟩:=I.loc;aN.lt
theorem Inv.sz(I:Inv X pins σ H s):X.s₀.heap.objs.size<=s.heap.objs.size:=Gq I.ok.above (acF I.lt)
theorem Inv.nofs(I:Inv X pins σ H s){a:Addr}(h:s.heap.objs.size<=a):a∉X.fs:=fun af=>by
 obtain⟨_,o,aE,_⟩:=I.ok.funs.mem af;exact absurd (aaA (Heap.lt_size aE) (Gq I.sz h)) (aa7 _)
theorem Inv.cne(I:Inv X pins σ H s):∀x c,X.env.cells.lookup x=some c->c≠X.env.locals:=fun x c e z=>by
 obtain⟨v,o,aE,hd⟩:=I.cell x c e;obtain⟨m,⟨eA,es,bq,oC,m6,_⟩,_⟩:=I.loc;rw[z,oC]at aE;cases aE;rw[m6]at hd;cases hd
theorem Inv.funs(I:Inv X pins σ H s):s.heap.FunFrames X.base X.outer:=by
 have all:∀(l:List Env),(∀b∈jG l,b∈X.fs)->X.s₀.heap.FunFrames X.base l->s.heap.FunFrames X.base l:=by
  intro l;induction l with
  | nil=>intro _ _;trivial
  | cons env r c3 =>
   intro aq aj;obtain⟨ah,⟨L,o,hf,aN,aE,hd⟩,ak⟩:=aj;have eW:L∈X.fs:=aq L (by unfold jG;rw[acG,hf];exact ZJ);obtain⟨sl,e⟩:=I.base.slot L o aE (I.ok.frf L eW) eW fun z=>I.ok.exfs L z eW;exact⟨ah,⟨L,_,hf,aN,e,hd⟩,c3 (fun b af=>aq b (by unfold jG;rw[acG,hf];exact ZL _ af)) ak⟩
 exact all X.outer (fun _ af=>af) I.ok.funs
theorem Inv.stack(I:Inv X pins σ H s):s.heap.FunFrames X.base X.stack:=by
 rcases I.ok.stk with e|⟨e,hf⟩
 ·rw[e];exact I.funs
 ·rw[e];obtain⟨m,aN,_⟩:=I.loc;refine .cons (by rw[I.ok.kind];decide) hf aN ?_ I.funs;exact Heap.get?_none_of_le (Gq I.ok.bsz I.ok.above)
theorem Inv.stkSub(I:Inv X pins σ H s):∀b∈jG X.stack,b∈X.env.locals::X.fs:=fun b af=>by
 rcases I.ok.stk with e|⟨e,hf⟩
 ·rw[e]at af;exact ZL _ af
 ·rw[e]at af;unfold jG at af;rw[acG,hf]at af;exact af
theorem Inv.stkFree(I:Inv X pins σ H s):∀b∈jG X.stack,H b=none:=fun b af=>by
 rcases Z6.mp (I.stkSub b af)with e|af
 ·rw[e];exact I.free
 ·obtain⟨_,o,aE,_⟩:=I.ok.funs.mem af;exact I.base.free b o aE (I.ok.frf b af) fun z=>I.ok.exfs b z af
theorem Inv.step{g':Array GenState}{t':Nat}{d':Drawn}{ch:List Addr}(I:Inv X pins σ H s)(lx:∀b∈ch,(b∈X.ex∨X.s₀.heap.objs.size<=b)/\b≠X.env.locals/\(∀x c,X.env.cells.lookup x=some c->c≠b)/\∀p∈X.pn++pins,p.1≠b)(keep:∀b o,b≠X.env.locals->b∉X.fs->b∉ch->s.heap.get? b=some o->H b=none->h'.get? b=some o)(slot:∀b o,b≠X.env.locals->b∈X.fs->b∉ch->s.heap.get? b=some o->H b=none->∃sl,h'.get? b=some { o with slots:=sl })(free:∀b o,b∉ch->s.heap.get? b=some o->H b=none->H' b=none)(there:∀b o,b∉ch->s.heap.get? b=some o->∃eA,h'.get? b=some eA)(tups:∀b xs,H b=some (.tup xs)->H' b=some (.tup xs))(frzs:∀b o u,H b=some (.frz o u)->H' b=some (.frz o u))(tbls:∀b ps,H b=some (.tbl ps)->∃more,H' b=some (.tbl (ps++more)))(ns:∀m,s.heap.Ns X.env.locals m->h'.Ns X.env.locals m)(hok:eo X.prog X.w H' h')(aC:AllBare g'):
  Inv X pins σ H' { s with heap:=h',gens:=g',drawn:=d',toks:=t' }:=by
 have Dc:∀b o,X.s₀.heap.get? b=some o->b≠X.env.locals:=fun b o e=>aat (aaA (Heap.lt_size e) I.ok.above)
 have uG:∀b o,X.s₀.heap.get? b=some o->b∉X.ex->b∉ch:=fun b o e aB af=>by
  rcases(lx b af).1 with z|z
  ·exact aB z
  ·exact absurd (aaA (Heap.lt_size e) z) (aa7 _)
 have cellK:∀x c,X.env.cells.lookup x=some c->∀v,s.heap.IsCell c v->h'.IsCell c v:=fun x c e v ⟨o,aE,hd⟩=>by
  have rD:c∉ch:=fun z=>(lx c z).2.2.1 x c e rfl;by_cases hc:c∈X.fs
  ·obtain⟨sl,q⟩:=slot c o (I.cne x c e) hc rD aE (I.freeC x c e);exact⟨_,q,hd⟩
  ·exact⟨o,keep c o (I.cne x c e) hc rD aE (I.freeC x c e),hd⟩
 refine⟨I.ok,I.os,aC,⟨fun b o e n af aB=>?_,fun b o e n af aB=>?_,fun b o e n aB=>?_,fun b o e aB=>?_,fun b xs e=>tups b xs (I.base.tups b xs e),fun b o xs e=>frzs b o xs (I.base.frzs b o xs e),fun b ps e=>?_⟩,?_,fun x c e=>?_,?_,fun x c e=>?_,fun p ag=>?_,hok,I.len⟩
 ·exact keep b o (Dc b o e) af (uG b o e aB) (I.base.keep b o e n af aB) (I.base.free b o e n aB)
 ·obtain⟨sl,ai⟩:=I.base.slot b o e n af aB;obtain⟨J2,av⟩:=slot b _ (Dc b o e) af (uG b o e aB) ai (I.base.free b o e n aB);exact⟨J2,av⟩
 ·obtain⟨eA,ai⟩:=I.base.there b o e aB;exact free b eA (uG b o e aB) ai (I.base.free b o e n aB)
 ·obtain⟨eA,ai⟩:=I.base.there b o e aB;exact there b eA (uG b o e aB) ai
 ·obtain⟨bw,ai⟩:=I.base.tbls b ps e;obtain⟨b8,av⟩:=tbls b _ ai;exact⟨bw++b8,by rw[av,Array.append_assoc]⟩
 ·obtain⟨m,aN,aj⟩:=I.loc;refine⟨m,ns m aN,fun i x v ai av bG=>?_⟩;obtain⟨u,r,l⟩:=aj i x v ai av bG;refine⟨u,r,?_⟩;rcases l with l|⟨k,c,e,z⟩
  ·exact .inl l
  ·exact .inr ⟨k,c,e,cellK x c e _ z⟩
 ·obtain⟨v,z⟩:=I.cell x c e;exact⟨v,cellK x c e v z⟩
 ·obtain⟨m,⟨o,_,_,aE,_⟩,_⟩:=I.loc;exact free _ o (fun z=>(lx _ z).2.1 rfl) aE I.free
 ·obtain⟨v,o,aE,hd⟩:=I.cell x c e;exact free c o (fun z=>(lx c z).2.2.1 x c e rfl) aE (I.freeC x c e)
 ·obtain⟨e,n,ne,p2,d⟩:=I.pin p ag;have rD:p.1∉ch:=fun z=>(lx p.1 z).2.2.2 p ag rfl;exact⟨keep p.1 p.2 ne p2 rD e n,free p.1 p.2 rD e n,ne,p2,d⟩
theorem Inv.un{t':Nat}(I:Inv X pins σ H s)(u:ft X.fs [] H H' s.heap h')(hok:eo X.prog X.w H' h'):Inv X pins σ H' { s with heap:=h',toks:=t' }:=by
 obtain⟨m,⟨o,es,bq,aE,r⟩,_⟩:=id I.loc;obtain⟨sl,eW⟩:=u.any aE I.free (by simp)
 exact I.step (g':=s.gens) (d':=s.drawn) (ch:=[]) (fun _ z=>nomatch z) (fun b o _ af _ e n=>u.keep b o e n af (by simp)) (fun b o _ af _ e n=>u.slot b o e n af (by simp)) (fun b o _ e n=>u.free b o e n (by simp)) (fun b o _ e=>u.there b o e (by simp)) u.tups u.frzs u.tbls (fun m' hm=>by
  obtain⟨eA,oD,jf,oC,du⟩:=hm;rw[aE]at oC;cases oC
  exact⟨_,oD,jf,eW,du⟩) hok I.bare
theorem Inv.call{g':Array GenState}{t':Nat}{d':Drawn}{ch:List Addr}(I:Inv X pins σ H s)(u:ft (jG X.stack) ch H H' s.heap h')(hok:eo X.prog X.w H' h')(aC:AllBare g')(lx:∀b∈ch,(b∈X.ex∨X.s₀.heap.objs.size<=b)/\b≠X.env.locals/\(∀x c,X.env.cells.lookup x=some c->c≠b)/\∀p∈X.pn++pins,p.1≠b):
  Inv X pins σ H' { s with heap:=h',gens:=g',drawn:=d',toks:=t' }:=by
 obtain⟨m,⟨o,es,bq,aE,r⟩,_⟩:=id I.loc;obtain⟨sl,eW⟩:=u.any aE I.free fun z=>(lx _ z).2.1 rfl
 exact I.step (ch:=ch) lx (fun b o eW af hc e n=>u.keep b o e n (fun z=>(Z6.mp (I.stkSub b z)).elim eW af) hc) (fun b o _ _ hc e n=>u.any e n hc) (fun b o hc e n=>u.free b o e n hc) (fun b o hc e=>u.there b o e hc) u.tups u.frzs u.tbls (fun m' hm=>by
  obtain⟨eA,oD,jf,oC,du⟩:=hm;rw[aE]at oC;cases oC
  exact⟨_,oD,jf,eW,du⟩) hok aC
theorem Inv.turned{t':Nat}{it:Addr}(I:Inv X pins σ H s)(k:∀b o,b≠it->s.heap.get? b=some o->h'.get? b=some o)(aN:H it=none)(eW:it≠X.env.locals)(aa:it∈X.ex∨X.s₀.heap.objs.size<=it)(ab:∀x c,X.env.cells.lookup x=some c->c≠it)(aL:∀p∈X.pn++pins,p.1≠it):Inv X pins σ H { s with heap:=h',toks:=t' }:=by
 have oE:∀b u,H b=some u->b≠it:=fun b u e z=>by rw[z,aN]at e;cases e
 refine I.step (g':=s.gens) (d':=s.drawn) (ch:=[it]) (fun b af=>?_) (fun b o _ _ hc e _=>k b o (fun z=>hc (by simp[z])) e) (fun b o _ _ hc e _=>⟨o.slots,k b o (fun z=>hc (by simp[z])) e⟩) (fun _ _ _ _ n=>n)
  (fun b o hc e=>⟨o,k b o (fun z=>hc (by simp[z])) e⟩) (fun _ _ e=>e) (fun _ _ _ e=>e) (fun b ps e=>⟨#[],by rw[e];simp⟩) (fun m hm=>?_) (fun b u e=>?_) I.bare
 ·have e:b=it:=by simpa using af
  subst e;exact⟨aa,eW,ab,aL⟩
 ·obtain⟨o,es,bq,aE,r⟩:=hm;exact⟨o,es,bq,k _ o (aaB eW) aE,r⟩
 ·refine(I.hok b u e).stay (fun c v hc q=>k c v ?_ q) (fun _ q=>q) fun _ _ q=>q;rcases hc with z|z
  ·rw[z];exact oE b u e
  ·exact oE c _ z
theorem Inv.tok(I:Inv X pins σ H s)(t:Nat):Inv X pins σ H { s with toks:=t }:=I.un (h':=s.heap) (t':=t) ft.refl I.hok
theorem Inv.kept{t':Nat}(I:Inv X pins σ H s)(k:∀b u,s.heap.get? b=some u->h'.get? b=some u):Inv X pins σ H { s with heap:=h',toks:=t' }:=I.un (ft.kept k) (I.hok.kept k)
theorem Inv.laid{a:Addr}{o:eV}{t':Nat}(I:Inv X pins σ H s)(k:∀b u,s.heap.get? b=some u->h'.get? b=some u)(ag:s.heap.objs.size<=a)(new:fL X.prog X.w (upd H a o) h' a o):
  Inv X pins σ (upd H a o) { s with heap:=h',toks:=t' }:=I.un (ft.laid k ag (I.hok.fresh ag)) (I.hok.laid k ag new)
theorem Inv.write{x e:Addr}{o:eV}{t':Nat}(I:Inv X pins σ H s)(f':uE (H x))(he:e=x∨H e=some (.own x))(k:∀b u,b≠e->s.heap.get? b=some u->h'.get? b=some u)(p1:∃u,h'.get? e=some u)(new:fL X.prog X.w (upd H x o) h' x o):Inv X pins σ (upd H x o) { s with heap:=h',toks:=t' }:=I.un (ft.write f' he k p1) (I.hok.write f' he k p1 new)
theorem Inv.pins_of{Dd:List (Addr×Obj)}(I:Inv X pins σ H s)(h:∀p∈Dd,s.heap.get? p.1=some p.2/\H p.1=none/\p.1≠X.env.locals/\p.1∉X.fs/\∀v,p.2.data≠.cell v):Inv X Dd σ H s :=
 ⟨I.ok,I.os,I.bare,I.base,I.loc,I.cell,I.free,I.freeC,fun p ag=>(aae.mp ag).elim (fun z=>I.pin p (abj _ z)) (h p),I.hok,I.len⟩
theorem De{N:List Str}(bD:N.Nodup){i j:Nat}{x:Str}(a:N[i]?=some x)(b:N[j]?=some x):i=j:=by
 obtain⟨aa,ai⟩:=abD.mp a;obtain⟨ab,av⟩:=abD.mp b;exact(List.getElem_inj bD).mp (ai.trans av.symm)
theorem J3{M:Model}{A:Around}{E:Value->Shared->Prop}{i:Nat}{x:Str}{v:V}{u:Value}{Q:Unit->Shared->Prop}(I:Inv X pins σ H s)(bD:X.N.Nodup)(aD:X.N[i]?=some x)(aB:Loc X.env.scope x)(r:RelV v u)(h:∀s',Inv X pins (σ.set i (some v)) H s'->(∃a,Heap.SameBut a s.heap s'.heap/\(a=X.env.locals∨X.env.cells.lookup x=some a))->Q () s')(hf:X.fn x=true∨X.env.scope.names.lookup x=some .local:=by first|exact .inl rfl|exact .inr rfl|assumption):wpAny M A (storeName X.env x u) Q E s:=by
 obtain⟨m,aN,aj⟩:=id I.loc;have J4:(X.env.scope.kind==.class||(X.env.scope.kind==.module&&X.env.locals != X.env.globals))=false:=by rw[I.ok.kind];rfl
 have Df:i<σ.length:=by rw[I.len];exact(abD.mp aD).1
 have cne:=I.cne
 have tracked:∀{a:Addr}{h':Heap},(∃o,s.heap.get? a=some o/\H a=none)->Heap.SameBut a s.heap h'->eo X.prog X.w H h':=fun{a h'} ax aq b cK e=>by
  obtain⟨_,_,Dg⟩:=ax;refine(I.hok b cK e).stay (fun c ly hc q=>(aq.2 c ?_).trans q) (fun _ q=>q) fun _ _ q=>q;rintro rfl;rcases hc with rfl|hc
  ·rw[Dg]at e;cases e
  ·rw[Dg]at hc;cases hc
 rcases aB with ah|ah
 ·refine wpAny_storeName_local ah aN (fun h' J5 aq=>?_) J4;obtain⟨J6,_,_,J7,_⟩:=id aN;refine h _ ⟨I.ok,I.os,I.bare,⟨fun b o e n af aB=>?_,fun b o e n af aB=>?_,I.base.free,fun b o e aB=>?_,I.base.tups,I.base.frzs,I.base.tbls⟩,⟨_,J5,fun j y rE ai av bG=>?_⟩,fun y c e=>?_,I.free,I.freeC,fun p ag=>?_,tracked ⟨J6,J7,I.free⟩ aq,by simpa using I.len⟩ ⟨_,aq,.inl rfl⟩
  ·exact(aq.2 b (aat (aaA (Heap.lt_size e) I.ok.above))).trans (I.base.keep b o e n af aB)
  ·obtain⟨sl,ai⟩:=I.base.slot b o e n af aB;exact⟨sl,(aq.2 b (aat (aaA (Heap.lt_size e) I.ok.above))).trans ai⟩
  ·obtain⟨eA,ai⟩:=I.base.there b o e aB;exact⟨eA,(aq.2 b (aat (aaA (Heap.lt_size e) I.ok.above))).trans ai⟩
  ·by_cases bP:j=i
   ·subst bP;rw[aD]at ai;cases ai;rw[aa8 Df]at av;cases av;exact⟨u,r,.inl ⟨ah,by simp⟩⟩
   ·rw[aaV (aaB bP)]at av;obtain⟨ep,du,q⟩:=aj j y rE ai av bG;refine⟨ep,du,?_⟩;rcases q with⟨k,e⟩|⟨k,c,e,z⟩
    ·refine .inl ⟨k,?_⟩;have:y≠x:=fun e=>bP (De bD ai (e▸aD));simp[this,e]
    ·exact .inr ⟨k,c,e,z.sameBut aq (cne y c e)⟩
  ·obtain⟨ly,z⟩:=I.cell y c e;exact⟨ly,z.sameBut aq (cne y c e)⟩
  ·obtain⟨e,n,ne,p2,d⟩:=I.pin p ag;exact⟨(aq.2 p.1 ne).trans e,n,ne,p2,d⟩
 ·have yU:X.fn x=true:=by
   rcases hf with z|z
   ·exact z
   ·rw[z]at ah;cases ah
  obtain⟨c,hc⟩:=I.ok.has x (.inl ah);obtain⟨ly,z⟩:=I.cell x c hc;refine wpAny_storeName_cell I.ok.kind ah hc z (fun h' uH aq=>?_);obtain⟨oc,Dh,J8⟩:=id z;refine h { s with heap:=h' } ⟨I.ok,I.os,I.bare,⟨fun b o e n af aB=>?_,fun b o e n af aB=>?_,I.base.free,fun b o e aB=>?_,I.base.tups,I.base.frzs,I.base.tbls⟩,⟨m,aN.sameBut aq (aaB (cne x c hc)),fun j y rE ai av bG=>?_⟩,fun y d0 e=>?_,I.free,I.freeC,fun p ag=>?_,tracked ⟨oc,Dh,I.freeC x c hc⟩ aq,by simpa using I.len⟩ ⟨c,aq,.inr hc⟩
  ·exact(aq.2 b (aat (aaA (Heap.lt_size e) (I.ok.cab x c yU hc)))).trans (I.base.keep b o e n af aB)
  ·obtain⟨sl,ai⟩:=I.base.slot b o e n af aB;exact⟨sl,(aq.2 b (aat (aaA (Heap.lt_size e) (I.ok.cab x c yU hc)))).trans ai⟩
  ·obtain⟨eA,ai⟩:=I.base.there b o e aB;exact⟨eA,(aq.2 b (aat (aaA (Heap.lt_size e) (I.ok.cab x c yU hc)))).trans ai⟩
  ·by_cases bP:j=i
   ·subst bP;rw[aD]at ai;cases ai;rw[aa8 Df]at av;cases av;exact⟨u,r,.inr ⟨.inl ah,c,hc,uH⟩⟩
   ·rw[aaV (aaB bP)]at av;obtain⟨ep,du,q⟩:=aj j y rE ai av bG;refine⟨ep,du,?_⟩;rcases q with q|⟨k,d0,e,er⟩
    ·exact .inl q
    ·refine .inr ⟨k,d0,e,er.sameBut aq ?_⟩;rintro rfl;exact bP (De bD ai (I.ok.inj _ _ _ e hc▸aD))
  ·by_cases Di:d0=c
   ·subst Di;exact⟨_,uH⟩
   ·obtain⟨cZ,aQ⟩:=I.cell y d0 e;exact⟨cZ,aQ.sameBut aq Di⟩
  ·obtain⟨e,n,ne,p2,d⟩:=I.pin p ag;refine⟨(aq.2 p.1 ?_).trans e,n,ne,p2,d⟩;intro q;rw[q,Dh]at e;have hF:oc=p.2:=aab e;exact d ly (by rw[<-hF];exact J8)
theorem p3{M:Model}{A:Around}{E:Value->Shared->Prop}{i:Nat}{x:Str}{v:V}{u:Value}{Q:Unit->Shared->Prop}(I:Inv X pins σ H s)(bD:X.N.Nodup)(aD:X.N[i]?=some x)(aB:Loc X.env.scope x)(r:RelV v u)(h:∀s',Inv X pins (σ.set i (some v)) H s'->Q () s')(hf:X.fn x=true∨X.env.scope.names.lookup x=some .local:=by first|exact .inl rfl|exact .inr rfl|assumption):wpAny M A (storeName X.env x u) Q E s :=
 J3 I bD aD aB r (fun s' m7 _=>h s' m7) hf
theorem Inv.call'{s':Shared}{ch:List Addr}(I:Inv X pins σ H s)(aE:s'.os=s.os)(u:ft (jG X.stack) ch H H' s.heap s'.heap)(hok:eo X.prog X.w H' s'.heap)(aC:AllBare s'.gens)(lx:∀b∈ch,(b∈X.ex∨X.s₀.heap.objs.size<=b)/\b≠X.env.locals/\(∀x c,X.env.cells.lookup x=some c->c≠b)/\∀p∈X.pn++pins,p.1≠b):Inv X pins σ H' s':=by
 obtain⟨h',g',d',t',eA⟩:=s';have e:eA=s.os:=aE;subst e;exact I.call (g':=g') (t':=t') (d':=d') u hok aC lx
end
abbrev fB:=Value->Option Addr->ao->Prop
abbrev St:=List (Option V)
abbrev cN:=V->ao->Prop
abbrev TE:=St->ao->cN->Prop
abbrev TT:=St->ao->(Bool->ao->Prop)->Prop
abbrev eX:=St->ao->(List V->ao->Prop)->Prop
structure Ends where
 nx:St->ao->Prop
 rt:cN
 bk:St->ao->Prop:=fun _ _=>False
 ct:St->ao->Prop:=fun _ _=>False
abbrev fM:=Ends->St->ao->Prop
def gY(X:aM)(pins:List (Addr×Obj))(σ:St)(Q:cN)(u:Value)(s':Shared):Prop:=∃v H',Inv X pins σ H' s'/\RelV v u/\Q v H'
def uI(X:aM)(pins:List (Addr×Obj))(σ:St)(Q:Bool->ao->Prop)(b:Bool)(s':Shared):Prop:=∃H',Inv X pins σ H' s'/\Q b H'
def J9(X:aM)(pins:List (Addr×Obj))(σ:St)(Q:List V->ao->Prop)(us:List Value)(s':Shared):Prop:=∃vs H',Inv X pins σ H' s'/\Vals vs us/\Q vs H'
def p4(X:aM)(pins:List (Addr×Obj))(D:Ends)(f:Flow)(s':Shared):Prop :=
 match f with
 | .next=>∃a6 H',Inv X pins a6 H' s'/\D.nx a6 H'
 | .brk=>∃a6 H',Inv X pins a6 H' s'/\D.bk a6 H'
 | .cont=>∃a6 H',Inv X pins a6 H' s'/\D.ct a6 H'
 | .ret u=>∃v a6 H',Inv X pins a6 H' s'/\RelV v u/\D.rt v H'
def b2(X:aM)(e:Expr)(t:TE):Prop :=
 ∀(pins:List (Addr×Obj))(s:Shared)(σ:St)(H:ao)(Q:cN),Inv X pins σ H s->t σ H Q->wpAny (model X.prog X.w) X.A (eval e X.env) (gY X pins σ Q) X.xe s
def ik(X:aM)(e:Expr)(t:TT):Prop :=
 ∀(pins:List (Addr×Obj))(s:Shared)(σ:St)(H:ao)(Q:Bool->ao->Prop),Inv X pins σ H s->t σ H Q->wpAny (model X.prog X.w) X.A (isTrue e X.env (eval e X.env)) (uI X pins σ Q) X.xe s
def mb(X:aM)(e:Expr)(t:TT):Prop :=
 ∀(whole:Sem Value)(pins:List (Addr×Obj))(s:Shared)(σ:St)(H:ao)(Q:Bool->ao->Prop),Inv X pins σ H s->t σ H Q->wpAny (model X.prog X.w) X.A (isTrue e X.env whole) (uI X pins σ Q) X.xe s
theorem mb.pt{X:aM}{e:Expr}{t:TT}(h:mb X e t):ik X e t:=h _
def hq(X:aM)(es:List Expr)(t:eX):Prop :=
 ∀(pos:Pos)(pins:List (Addr×Obj))(s:Shared)(σ:St)(H:ao)(Q:List V->ao->Prop),Inv X pins σ H s->t σ H Q->wpAny (model X.prog X.w) X.A (spliced (backTo pos (starEach es X.env))) (J9 X pins σ Q) X.xe s
def il(X:aM)(st:Stmt)(t:fM):Prop :=
 ∀(pins:List (Addr×Obj))(s:Shared)(σ:St)(H:ao)(D:Ends),Inv X pins σ H s->t D σ H->wpAny (model X.prog X.w) X.A (exec st X.env) (p4 X pins D) X.xe s
def h4(X:aM)(st:List Stmt)(t:fM):Prop :=
 ∀(pins:List (Addr×Obj))(s:Shared)(σ:St)(H:ao)(D:Ends),Inv X pins σ H s->t D σ H->wpAny (model X.prog X.w) X.A (execs st X.env) (p4 X pins D) X.xe s
theorem cq{α:Type}{t:Sem α}{Q yV:α->Shared->Prop}{M:Model}{A:Around}{E:Value->Shared->Prop}{s:Shared}(h:wpAny M A t Q E s)(gZ:∀a s,Q a s->yV a s):wpAny M A t yV E s:=wpAny_mono h gZ fun _ _ x=>x
section
variable{X:aM}
def yW(i:Nat):TE:=fun σ H Q=>∃v,σ[i]?=some (some v)/\Q v H
def p5(v:V):TE:=fun _ H Q=>Q v H
theorem hG{i:Nat}{x:Str}{pos:Pos}(bD:X.N[i]?=some x)(aP:gb X.env.scope x)(hd:(x==("__debug__":Str))=false:=by decide)(dB:(x==("__classdict__":Str))=false:=by decide):b2 X (.Name x pos) (yW i):=by
 intro pins s σ H Q I h;obtain⟨v,e,h⟩:=h;obtain⟨m,aN,aj⟩:=I.loc;obtain⟨u,r,l⟩:=aj i x v bD e aP;have fin:gY X pins σ Q u s:=⟨v,H,I,r,h⟩;rcases l with⟨ah,hm⟩|⟨ah,c,hc,oF⟩
 ·exact wpAny_Name (wpAny_loadName_local I.ok.kind ah aN hm fin) hd
 ·rcases ah with ah|ah
  ·exact wpAny_Name (wpAny_loadName_cell I.ok.kind ah hc oF fin) hd
  ·exact wpAny_Name (wpAny_loadName_free I.ok.kind ah hc oF fin dB) hd
theorem et{i j pos}:b2 X (.Constant (.int i) j pos) (p5 (.int i)):=fun _ _ _ H _ I h=>wpAny_Constant_int ⟨.int i,H,I.tok _,⟨_,rfl⟩,h⟩
theorem J'{b j pos}:b2 X (.Constant (.bool b) j pos) (p5 (.bl b)):=fun _ _ _ H _ I h=>Constant_bool ⟨.bl b,H,I,rfl,h⟩
def eB(X:aM)(x:Str):Prop:=X.env.kindOf x=some .globalImplicit
theorem Dj{E:Value->Shared->Prop}{pins:List (Addr×Obj)}{s:Shared}{σ:St}{H:ao}{x:Str}{u:Value}{pos:Pos}{Q:Value->Shared->Prop}(I:Inv X pins σ H s)(aC:eB X x)(hm:X.mg x=some u)(h:Q u s)(hd:(x==("__debug__":Str))=false:=by decide):wpAny (model X.prog X.w) X.A (eval (.Name x pos) X.env) Q E s :=
 Calls.Name_function_global I.ok.kind aC (Calls.loadGlobal_global (by rw[I.ok.glob];exact I.mod.glob.keeps I.bk) hm h) hd
theorem p6{E:Value->Shared->Prop}{pins:List (Addr×Obj)}{s:Shared}{σ:St}{H:ao}{x:Str}{u:Value}{pos:Pos}{Q:Value->Shared->Prop}(I:Inv X pins σ H s)(aC:eB X x)(hm:X.mg x=none)(aP:bootBuiltins x=some u)(h:Q u s)(aN:x≠"__name__":=by decide)(hd:(x==("__debug__":Str))=false:=by decide):wpAny (model X.prog X.w) X.A (eval (.Name x pos) X.env) Q E s:=by
 obtain⟨gB,aa,ab⟩:=I.mod.blt;exact Calls.Name_function_global I.ok.kind aC (Calls.loadGlobal_builtin (by rw[I.ok.glob];exact I.mod.glob.keeps I.bk) hm (by rw[I.ok.blt];exact aa.keeps I.bk) ((ab x aN).trans aP) h) hd
theorem Dk{x:Str}{v:V}{u:Value}{pos:Pos}(aC:eB X x)(hm:X.mg x=some u)(r:RelV v u)(hd:(x==("__debug__":Str))=false:=by decide):b2 X (.Name x pos) (p5 v):=
 fun _ _ _ H _ I h=>Dj I aC hm ⟨v,H,I,r,h⟩ hd
theorem mc{x:Str}{v:V}{u:Value}{pos:Pos}(aC:eB X x)(hm:X.mg x=none)(aP:bootBuiltins x=some u)(r:RelV v u)(aN:x≠"__name__":=by decide)(hd:(x==("__debug__":Str))=false:=by decide):b2 X (.Name x pos) (p5 v):=
 fun _ _ _ H _ I h=>p6 I aC hm aP ⟨v,H,I,r,h⟩ aN hd
variable{a b:Expr}{bV tb:TE}{pos:Pos}
def rF(t:TE):TT:=fun σ H Q=>t σ H fun x H1=>∃c,x=.bl c/\Q c H1
theorem Ka{e:Expr}{t:TE}(h:b2 X e t)(he:∀whole,isTrue e X.env whole=(do let v <-whole;standAt e.pos;holding [v] (truthy v)):=by intro _;rfl):ik X e (rF t):=by
 intro pins s σ H Q I hw;refine isTrue_plain (cq (h pins s σ H _ I hw) fun v s1 ⟨x,H1,bg,ar,a4⟩=>?_) (he _);obtain⟨d,rfl,q⟩:=a4;cases ar;exact wpAny_truthy_bool ⟨H1,bg,q⟩
variable{jH uJ:TT}{rest:List Expr}
def Dl(t u:TT):TT:=fun σ H Q=>t σ H fun c H1=>if c=true then u σ H1 Q else Q false H1
def Dm(t u:TT):TT:=fun σ H Q=>t σ H fun c H1=>if c=true then Q true H1 else u σ H1 Q
def Dn(t:TT):TT:=fun σ H Q=>t σ H fun c H1=>Q (!c) H1
theorem Kb(ax:ik X a jH):mb X (.BoolOp .And [a] pos) jH:=by
 intro wh pins s σ H Q I h;refine isTrue_and (cq (ax pins s σ H Q I h) fun c s1 e=>?_);cases c with
 | true=>exact isTrue_and_nil e
 | false=>exact e
theorem Kc(ax:ik X a jH):mb X (.BoolOp .Or [a] pos) jH:=by
 intro wh pins s σ H Q I h;refine isTrue_or (cq (ax pins s σ H Q I h) fun c s1 e=>?_);cases c with
 | false=>exact isTrue_or_nil e
 | true=>exact e
theorem Kd(ax:ik X a jH)(af:mb X (.BoolOp .And (b::rest) pos) uJ):mb X (.BoolOp .And (a::b::rest) pos) (Dl jH uJ):=by
 intro wh pins s σ H Q I h;refine isTrue_and (cq (ax pins s σ H _ I h) fun c s1 ⟨H1,bg,a4⟩=>?_);cases c with
 | true=>exact af wh pins s1 σ H1 Q bg a4
 | false=>exact⟨H1,bg,a4⟩
theorem Ke(ax:ik X a jH)(af:mb X (.BoolOp .Or (b::rest) pos) uJ):mb X (.BoolOp .Or (a::b::rest) pos) (Dm jH uJ):=by
 intro wh pins s σ H Q I h;refine isTrue_or (cq (ax pins s σ H _ I h) fun c s1 ⟨H1,bg,a4⟩=>?_);cases c with
 | true=>exact⟨H1,bg,a4⟩
 | false=>exact af wh pins s1 σ H1 Q bg a4
theorem Kf(ax:ik X a jH):ik X (.UnaryOp .Not a pos) (Dn jH):=by
 intro pins s σ H Q I h;exact isTrue_not (ax pins s σ H (fun c H1=>Q (!c) H1) I h)
def Kg(bV tb:TE):TE:=fun σ H Q=>bV σ H fun x H1=>∃c,x=.bl c/\if c=true then tb σ H1 Q else Q (.bl false) H1
def Kh(bV:TE):TE:=fun σ H Q=>bV σ H fun x H1=>∃c,x=.bl c/\Q (.bl (!c)) H1
theorem Ki{op}{t:TE}(h:b2 X a t):b2 X (.BoolOp op [a] pos) t:=fun pins s σ H Q I hw=>BoolOp_one (h pins s σ H Q I hw)
theorem Kj(ax:b2 X a bV)(af:b2 X (.BoolOp .And (b::rest) pos) tb):b2 X (.BoolOp .And (a::b::rest) pos) (Kg bV tb):=by
 intro pins s σ H Q I h;refine BoolOp_and (cq (ax pins s σ H _ I h) fun v s1 ⟨x,H1,bg,ar,a4⟩=>?_);obtain⟨c,rfl,a4⟩:=a4;cases ar;refine wpAny_truthy_bool ?_;cases c with
 | true=>exact af pins s1 σ H1 Q bg a4
 | false=>exact⟨.bl false,H1,bg,rfl,a4⟩
theorem Kk(ax:b2 X a bV):b2 X (.UnaryOp .Not a pos) (Kh bV):=by
 intro pins s σ H Q I h;refine UnaryOp_ (cq (ax pins s σ H _ I h) fun v s1 ⟨x,H1,bg,ar,a4⟩=>?_);obtain⟨c,rfl,a4⟩:=a4;cases ar;exact not_of (wpAny_truthy_bool ⟨.bl (!c),H1,bg,rfl,a4⟩)
def Kl(t:TT)(bV tb:TE):TE:=fun σ H Q=>t σ H fun c H1=>if c=true then bV σ H1 Q else tb σ H1 Q
theorem Km{c:Expr}(hc:ik X c jH)(ax:b2 X a bV)(af:b2 X b tb):b2 X (.IfExp c a b pos) (Kl jH bV tb):=by
 intro pins s σ H Q I h;refine wpAny_IfExp (cq (hc pins s σ H _ I h) fun d s1 ⟨H1,bg,a4⟩=>?_);cases d with
 | true=>exact ax pins s1 σ H1 Q bg a4
 | false=>exact af pins s1 σ H1 Q bg a4
end
def cw(K:PySem.W.Frag)(H:ao)(a:Addr)(xs:List V):Prop :=
 uD H a (.lst xs) ∨
  ∃(o:Obj)(its:Array Value)(n:Nat),K.lookup a=some o/\o.cls=.type "list"/\o.dict=none/\o.data=.seq its n/\its.size<=sizeLine/\Vals xs its.toList
def eu(K:PySem.W.Frag)(H:ao)(a:Addr)(xs:List V):Prop :=
 uD H a (.tup xs) ∨
  ∃(o:Obj)(its:Array Value)(n:Nat),K.lookup a=some o/\o.cls=.type "tuple"/\o.data=.seq its n/\its.size<=sizeLine/\Vals xs its.toList
def Kn:Value->Option V
 | .none=>some .non
 | .bool b=>some (.bl b)
 | .int i _=>some (.int i)
 | .str x _=>some (.str x)
 | .bytes b _=>some (.byt b)
 | .float b _=>some (.flt b)
 | .ref a=>some (.ref a)
 | .type n=>some (.ty n)
 | _=>none
theorem RelV.abs{x:V}{u:Value}(r:RelV x u):Kn u=some x:=by
 cases x with
 | non=>cases r;rfl
 | bl _=>cases r;rfl
 | int _=>obtain⟨t,rfl⟩:=r;rfl
 | str _=>obtain⟨t,rfl⟩:=r;rfl
 | byt _=>obtain⟨t,rfl⟩:=r;rfl
 | flt _=>obtain⟨t,rfl⟩:=r;rfl
 | ref _=>cases r;rfl
 | ty _=>cases r;rfl
theorem RelV.inj{x y:V}{u:Value}(r:RelV x u)(q:RelV y u):x=y:=aab (r.abs.symm.trans q.abs)
theorem Vals.inj:∀{xs ys:List V}{us:List Value},Vals xs us->Vals ys us->xs=ys
 | _,_,_,.nil,.nil=>rfl
 | _,_,_,.cons r t,.cons du t'=>by rw[r.inj du,Vals.inj t t']
section
variable{X:aM}{pins:List (Addr×Obj)}{σ:St}{H:ao}{s:Shared}{a:Addr}{xs ys:List V}
theorem cw.of{K:PySem.W.Frag}(h:H a=some (.lst xs)):cw K H a xs:=.inl (.inl h)
theorem eu.of{K:PySem.W.Frag}(h:H a=some (.tup xs)):eu K H a xs:=.inl (.inl h)
theorem Inv.list(I:Inv X pins σ H s)(h:cw X.K H a xs):∃its:List Value,Vals xs its/\PlainL s.heap a its.toArray/\xs.length<=sizeLine:=by
 rcases h with h|⟨o,its,n,ah,hc,hd,aq,a',r⟩
 ·obtain⟨z,its,n,r,e⟩:=h.ok I.hok;exact⟨its,r,⟨_,n,e,rfl,rfl,rfl⟩,z⟩
 ·refine⟨its.toList,r,⟨o,n,I.kIn a o ah,hc,hd,by simpa using aq⟩,?_⟩;have e:=r.length;simp only[acH]at e;omega
theorem Inv.tuple(I:Inv X pins σ H s)(h:eu X.K H a xs):∃its:List Value,Vals xs its/\IsTup s.heap a its.toArray/\xs.length<=sizeLine:=by
 rcases h with h|⟨o,its,n,ah,hc,aq,a',r⟩
 ·obtain⟨z,its,r,p⟩:=h.ok I.hok;exact⟨its,r,p,z⟩
 ·refine⟨its.toList,r,⟨o,I.kIn a o ah,hc,n,by simpa using aq⟩,?_⟩;have e:=r.length;simp only[acH]at e;omega
theorem Inv.list_inj(I:Inv X pins σ H s)(h:cw X.K H a xs)(h':cw X.K H a ys):xs=ys:=by
 obtain⟨its,r,⟨o,n,e,_,_,d⟩,_⟩:=I.list h;obtain⟨its',du,⟨eA,n',aT,_,_,d'⟩,_⟩:=I.list h';rw[e]at aT;cases aT;rw[d]at d';injection d' with bL _
 have:its=its':=by simpa using congrArg Array.toList bL
 subst this;exact r.inj du
theorem Inv.tuple_inj(I:Inv X pins σ H s)(h:eu X.K H a xs)(h':eu X.K H a ys):xs=ys:=by
 obtain⟨its,r,⟨o,e,_,n,d⟩,_⟩:=I.tuple h;obtain⟨its',du,⟨eA,aT,_,n',d'⟩,_⟩:=I.tuple h';rw[e]at aT;cases aT;rw[d]at d';injection d' with bL _
 have:its=its':=by simpa using congrArg Array.toList bL
 subst this;exact r.inj du
end
abbrev aM.wish(X:aM)(E:Value->Shared->Prop):aM:={ X with xe:=E }
abbrev aM.nox(X:aM):aM:=X.wish fun _ _=>False
theorem aM.Ok.wish{X:aM}(ok:X.Ok)(E:Value->Shared->Prop):(X.wish E).Ok :=
 ⟨ok.mod,ok.kind,ok.glob,ok.blt,ok.above,ok.inj,ok.has,ok.cab,ok.hd,ok.frames,ok.stk,ok.exf,ok.bs,ok.bsz,ok.noex,ok.exfs,ok.funs,ok.frf⟩
theorem aM.Ok.unwish{X:aM}{E:Value->Shared->Prop}(ok:(X.wish E).Ok):X.Ok :=
 ⟨ok.mod,ok.kind,ok.glob,ok.blt,ok.above,ok.inj,ok.has,ok.cab,ok.hd,ok.frames,ok.stk,ok.exf,ok.bs,ok.bsz,ok.noex,ok.exfs,ok.funs,ok.frf⟩
section
variable{X:aM}{pins:List (Addr×Obj)}{σ:St}{H:ao}{s:Shared}{E:Value->Shared->Prop}
theorem Inv.wish(I:Inv X pins σ H s)(E:Value->Shared->Prop):Inv (X.wish E) pins σ H s:=⟨I.ok.wish E,I.os,I.bare,I.base,I.loc,I.cell,I.free,I.freeC,I.pin,I.hok,I.len⟩
theorem Inv.unwish(I:Inv (X.wish E) pins σ H s):Inv X pins σ H s:=⟨I.ok.unwish,I.os,I.bare,I.base,I.loc,I.cell,I.free,I.freeC,I.pin,I.hok,I.len⟩
theorem p4.unwish{D:Ends}{f:Flow}{s':Shared}(h:p4 (X.wish E) pins D f s'):p4 X pins D f s':=by
 cases f with
 | next=>obtain⟨a6,H',I,q⟩:=h;exact⟨a6,H',I.unwish,q⟩
 | brk=>obtain⟨a6,H',I,q⟩:=h;exact⟨a6,H',I.unwish,q⟩
 | cont=>obtain⟨a6,H',I,q⟩:=h;exact⟨a6,H',I.unwish,q⟩
 | ret u=>obtain⟨v,a6,H',I,r,q⟩:=h;exact⟨v,a6,H',I.unwish,r,q⟩
theorem h4.nox{st:List Stmt}{t:fM}(h:h4 X.nox st t):h4 X st t:=fun pins s σ H D I hw =>
 wpAny_mono (h pins s σ H D (I.wish _) hw) (fun _ _ q=>q.unwish) fun _ _ z=>aaZ z
end
section
variable{X:aM}{st:Stmt}{rest:List Stmt}{t u:fM}{e:Expr}{cC:TE}{pos:Pos}
def Ko:fM:=fun D σ H=>D.nx σ H
def Kp(t u:fM):fM:=fun D σ H=>t { D with nx:=u D } σ H
theorem rG:h4 X [] Ko:=fun _ _ σ H _ I h=>wpAny_execs_nil ⟨σ,H,I,h⟩
theorem km(aa:il X st t)(ab:h4 X rest u):h4 X (st::rest) (Kp t u):=by
 intro pins s σ H D I h;refine wpAny_execs_cons (cq (aa pins s σ H { D with nx:=u D } I h) fun f s1 q=>?_);cases f with
 | next =>
  obtain⟨a6,H',m7,q⟩:=q;exact ab pins s1 a6 H' D m7 q
 | ret v=>exact q
 | brk=>exact q
 | cont=>exact q
theorem m8(aa:il X st t):h4 X [st] t:=by
 intro pins s σ H D I h;refine wpAny_execs_cons (cq (aa pins s σ H D I h) fun f s1 q=>?_);cases f with
 | next=>exact wpAny_execs_nil q
 | ret v=>exact q
 | brk=>exact q
 | cont=>exact q
theorem Inv.quiet{pins:List (Addr×Obj)}{σ:St}{H:ao}{s:Shared}(I:Inv X pins σ H s):interactive X.env=false:=by simp[interactive,I.ok.kind]
def Kq(cC:TE):fM:=fun D σ H=>cC σ H fun _ H1=>D.nx σ H1
theorem rH(he:b2 X e cC)(aq:swapsWith e none pos.line X.env=pure false:=by rfl):il X (.Expr e pos) (Kq cC):=by
 intro pins s σ H D I h;exact wpAny_Expr_any (cq (he pins s σ H _ I h) fun v s1 ⟨x,H1,bg,ar,a4⟩=>⟨σ,H1,bg,a4⟩) I.quiet aq
def Kr(cC:TE):fM:=fun D σ H=>cC σ H D.rt
theorem md(he:b2 X e cC):il X (.Return (some e) pos) (Kr cC):=by
 intro pins s σ H D I h;exact wpAny_Return_some (cq (he pins s σ H _ I h) fun v s1 ⟨x,H1,bg,ar,a4⟩=>⟨x,σ,H1,bg,ar,a4⟩)
def Ks(c:TT)(t u:fM):fM:=fun D σ H=>c σ H fun b H1=>if b=true then t D σ H1 else u D σ H1
theorem rI{c:Expr}{a b:List Stmt}{tc:TT}(hc:ik X c tc)(ax:h4 X a t)(af:h4 X b u):il X (.If c a b pos) (Ks tc t u):=by
 intro pins s σ H D I h;refine wpAny_If (cq (hc pins s σ H _ I h) fun d s1 ⟨H1,bg,a4⟩=>?_);cases d with
 | true=>exact ax pins s1 σ H1 D bg a4
 | false=>exact af pins s1 σ H1 D bg a4
def Dp:fM:=fun _ _ _=>False
theorem Kt:il X st Dp:=fun _ _ _ _ _ _ h=>h.elim
end
abbrev gC:=V->St->ao->(St->ao->Prop)->Prop
abbrev kn:=List V->St->ao->(St->ao->Prop)->Prop
def iO(X:aM)(target:Expr)(t:gC):Prop :=
 ∀(pins:List (Addr×Obj))(s:Shared)(σ:St)(H:ao)(v:V)(u:Value)(Q:St->ao->Prop),Inv X pins σ H s->RelV v u->t v σ H Q ->
  wpAny (model X.prog X.w) X.A (assign target X.env u) (fun _ s'=>∃a6 H',Inv X pins a6 H' s'/\Q a6 H') X.xe s
def oG(X:aM)(ts:List Expr)(t:kn):Prop :=
 ∀(pins:List (Addr×Obj))(s:Shared)(σ:St)(H:ao)(vs:List V)(us:List Value)(Q:St->ao->Prop),Inv X pins σ H s->Vals vs us->t vs σ H Q ->
  wpAny (model X.prog X.w) X.A (assignInOrder ((assignEach ts X.env).map (·.2)) us) (fun _ s'=>∃a6 H',Inv X pins a6 H' s'/\Q a6 H') X.xe s
abbrev yX:=V->V->V->ao->(ao->Prop)->Prop
def Dq(X:aM)(t:yX):Prop :=
 ∀(pins:List (Addr×Obj))(s:Shared)(σ:St)(H:ao)(o i v:V)(ko hH u:Value)(Q:ao->Prop),Inv X pins σ H s->RelV o ko->RelV i hH->RelV v u->t o i v H Q ->
  wpAny (model X.prog X.w) X.A (setItem ko hH u) (fun _ s'=>∃H',Inv X pins σ H' s'/\Q H') X.xe s
abbrev uK:=V->V->ao->cN->Prop
def Dr(X:aM)(op:Operator)(t:uK):Prop :=
 ∀(pins:List (Addr×Obj))(s:Shared)(σ:St)(H:ao)(x y:V)(v u:Value)(Q:cN),Inv X pins σ H s->RelV x v->RelV y u->t x y H Q ->
  wpAny (model X.prog X.w) X.A (inplaceOp op v u) (gY X pins σ Q) X.xe s
section
variable{X:aM}{pos:Pos}
def uL(i:Nat):gC:=fun v σ H Q=>Q (σ.set i (some v)) H
theorem uM{i:Nat}{x:Str}(bD:X.N.Nodup)(aD:X.N[i]?=some x)(aB:Loc X.env.scope x)(hf:X.fn x=true∨X.env.scope.names.lookup x=some .local:=by first|exact .inl rfl|exact .inr rfl|assumption):iO X (.Name x pos) (uL i):=by
 intro pins s σ H v u Q I r h;exact wpAny_assign_Name (p3 I bD aD aB r (fun s' m7=>⟨_,H,m7,h⟩) hf)
def Ku:kn:=fun vs σ H Q=>vs=[]/\Q σ H
def Kv(t:gC)(u:kn):kn:=fun vs σ H Q=>∃v r,vs=v::r/\t v σ H fun a6 H'=>u r a6 H' Q
theorem Ds:oG X [] Ku:=by
 intro pins s σ H vs us Q I r h;obtain⟨e,h⟩:=h;subst e;cases r;exact assignInOrder_nil ⟨σ,H,I,h⟩
theorem Dt{e:Expr}{es:List Expr}{t:gC}{u:kn}(aa:iO X e t)(ab:oG X es u)(aq:(assignEach (e::es) X.env).map (·.2)=assign e X.env::(assignEach es X.env).map (·.2):=by rfl):oG X (e::es) (Kv t u):=by
 intro pins s σ H vs us Q I r h;obtain⟨v,Zc,ai,h⟩:=h;subst ai;cases r with
 | cons r hI =>
  rw[aq];refine assignInOrder_cons (cq (aa pins s σ H _ _ _ I r h) fun _ s1 ⟨gc,H1,bg,a4⟩=>?_);exact ab pins s1 gc H1 _ _ Q bg hI a4
def Kw(K:PySem.W.Frag)(n:Nat)(t:kn):gC:=fun v σ H Q=>∃a xs,v=.ref a/\eu K H a xs/\xs.length=n/\t xs σ H Q
theorem Du{es:List Expr}{k:Nat}{t:kn}{n:Nat}(hc:X.calm=true)(h:oG X es t)(aN:(assignEach es X.env).length=n:=by rfl)(me:(assignEach es X.env).findIdx? (·.1)=none:=by rfl):iO X (.Tuple es k pos) (Kw X.K n t):=by
 intro pins s σ H v u Q I r hw;obtain⟨a,xs,ai,ay,aj,hw⟩:=hw;subst ai;cases r;obtain⟨its,b3,bB,a'⟩:=I.tuple ay;refine assign_Tuple_tuple (I.ok.hd hc) bB (by simp[aN,<-aj,b3.length]) me fun h' aB=>?_;have bg:Inv X pins σ H { s with heap:=h' }:=I.kept (t':=s.toks) fun b o e=>aB b o (aat (Heap.lt_size e)) e;exact h pins _ σ H xs _ Q bg (by simpa using b3) hw
def Kx(to hJ:TE)(t:yX):gC:=fun v σ H Q=>to σ H fun o H1=>hJ σ H1 fun i a3=>t o i v a3 fun cU=>Q σ cU
theorem yY{o i:Expr}{to hJ:TE}{t:yX}(aE:b2 X o to)(aD:b2 X i hJ)(aq:Dq X t)(ax:∀v,assign (.Subscript o i pos) X.env v=(do
   let ko <-holding [v] (eval o X.env)
   let hH <-holding [v,ko] (eval i X.env)
   standAt pos
   holding [v,ko,hH] (setItem ko hH v)
   release [v,ko,hH] []):=by intro _;rfl):iO X (.Subscript o i pos) (Kx to hJ t):=by
 intro pins s σ H v u Q I r h;rw[ax];refine wpAny_bind (wpAny_holding (cq (aE pins s σ H _ I h) fun ko s1 ⟨x,H1,bg,ar,a4⟩=>?_));refine wpAny_bind (wpAny_holding (cq (aD pins s1 σ H1 _ bg a4) fun hH s2 ⟨y,a3,d9,aF,bS⟩=>?_));refine wpAny_bind (wpAny_standAt (wpAny_bind (wpAny_holding (cq (aq pins s2 σ a3 x y v ko hH u _ d9 ar aF r bS) fun _ s3 ⟨cU,dd,fC⟩=>?_))));exact wpAny_release ⟨σ,cU,dd,fC⟩
def yZ(cC:TE)(g:gC):fM:=fun D σ H=>cC σ H fun x H1=>g x σ H1 D.nx
theorem uN{bE e:Expr}{cC:TE}{g:gC}(he:b2 X e cC)(aC:iO X bE g)(aq:swapsWithSole [bE] e pos.line X.env=pure false:=by rfl)(hw:swappedStores [bE] e X.env=pure none:=by rfl)(aa:(assignEach [bE] X.env).map (·.2)=[assign bE X.env]:=by rfl):il X (.Assign [bE] e pos) (yZ cC g):=by
 intro pins s σ H D I h;refine wpAny_Assign_stores (cq (he pins s σ H _ I h) fun v s1 ⟨x,H1,bg,ar,a4⟩=>?_) aq hw;rw[aa];exact cq (aC pins s1 σ H1 x v _ bg ar a4) fun _ s2 q=>q
theorem oH{i:Nat}{x:Str}{e:Expr}{cC:TE}{pos':Pos}(bD:X.N.Nodup)(aD:X.N[i]?=some x)(aB:Loc X.env.scope x)(he:b2 X e cC)(aq:swapsWith e (some (.Name x pos')) pos.line X.env=pure false:=by rfl)(hf:X.fn x=true∨X.env.scope.names.lookup x=some .local:=by first|exact .inl rfl|exact .inr rfl|assumption):
  il X (.Assign [.Name x pos'] e pos) (yZ cC (uL i)):=by
 intro pins s σ H D I h;refine wpAny_Assign_Name (cq (he pins s σ H _ I h) fun v s1 ⟨y,H1,bg,ar,a4⟩=>?_) aq;exact p3 bg bD aD aB ar (fun s2 d9=>⟨_,H1,d9,a4⟩) hf
def Ky(i j:Nat)(bV:eX):fM:=fun D σ H=>bV σ H fun vs H1=>∃v w,vs=[v,w]/\D.nx ((σ.set i (some v)).set j (some w)) H1
theorem Kz{i j:Nat}{x y:Str}{a b:Expr}{bV:eX}{px py pt:Pos}{kt ck oI}(hc:X.calm=true)(bD:X.N.Nodup)(aD:X.N[i]?=some x)(bP:X.N[j]?=some y)(mf:i≠j)(aB:X.env.scope.names.lookup x=some .local)(a5:X.env.scope.names.lookup y=some .local)(ax:hq X [a,b] bV)(hw:swappedStores [.Tuple [.Name x px,.Name y py] kt pt] (.Tuple [a,b] ck oI) X.env=pure (some [x,y]))(aq:swapsWithSole [.Tuple [.Name x px,.Name y py] kt pt] (.Tuple [a,b] ck oI) pos.line X.env=pure false:=by rfl):
  il X (.Assign [.Tuple [.Name x px,.Name y py] kt pt] (.Tuple [a,b] ck oI) pos) (Ky i j bV):=by
 intro pins s σ H D I h;rw[exec_Assign_arm];refine wpAny_bind (wpAny_standAt ?_);rw[aq];refine wpAny_bind (wpAny_pure ?_);rw[if_neg (by decide)];refine wpAny_bind (Tuple_ (cq (ax _ pins s σ H _ I h) fun us s1 ⟨vs,H1,bg,ar,a4⟩=>?_));obtain⟨v,w,ai,a4⟩:=a4;subst ai
 obtain⟨dj,dY,rfl,b3,mh⟩:∃dj dY,us=[dj,dY]/\RelV v dj/\RelV w dY:=by
  cases ar with
  | cons p q =>
   cases q with
   | cons rJ hF =>
    cases hF;exact⟨_,_,rfl,p,rJ⟩
 refine wpAny_newObj_type ?_ (by show 2<=sizeLine;decide);have d9:Inv X pins σ H1 { s1 with heap:=s1.heap.push { cls:=.type "tuple",data:=.seq [dj,dY].toArray } }:=bg.kept (t':=s1.toks) fun b o e=>Heap.get?_push_of_some _ e;rw[hw];refine wpAny_bind (wpAny_pure ?_);show wpAny (model X.prog X.w) X.A (do rule "assign.swapped-stores";let items <-unpackItems (.ref s1.heap.objs.size) 2 none;assignInOrder [fun v=>bindName X.env y v,fun v=>bindName X.env x v] items.reverse;pure Flow.next) _ _ _;refine wpAny_bind (wpAny_rule (wpAny_bind (unpackItems_tuple (items :=#[dj,dY]) (I.ok.hd hc) (IsTup.new s1.heap _) fun h' rK=>?_)));have dd:=d9.kept (h':=h') (t':=s1.toks) fun b o e=>rK b o (aat (Heap.lt_size e)) e;show wpAny _ _ (assignInOrder [fun v=>bindName X.env y v,fun v=>bindName X.env x v] [dY,dj] >>= fun _=>pure Flow.next) _ _ _
 refine wpAny_bind (assignInOrder_cons (wpAny_bindName (p3 dd bD bP (.inl a5) mh (fun s2 m9=>?_) (.inr a5))));refine assignInOrder_cons (wpAny_bindName (p3 m9 bD aD (.inl aB) b3 (fun s3 oJ=>assignInOrder_nil (wpAny_pure ?_)) (.inr aB)));rw[List.set_comm _ _ (aaB mf)]at oJ;exact⟨_,H1,oJ,a4⟩
def KA(i:Nat)(cC:TE)(hJ:uK):fM:=fun D σ H=>∃x,σ[i]?=some (some x)/\cC σ H fun y H1=>hJ x y H1 fun z a3=>D.nx (σ.set i (some z)) a3
theorem KC{i:Nat}{x:Str}{e:Expr}{cC:TE}{op:Operator}{hJ:uK}{pos':Pos}(bD:X.N.Nodup)(aD:X.N[i]?=some x)(aB:Loc X.env.scope x)(he:b2 X e cC)(aE:Dr X op hJ)(hf:X.fn x=true∨X.env.scope.names.lookup x=some .local:=by first|exact .inl rfl|exact .inr rfl|assumption):
  il X (.AugAssign (.Name x pos') op e pos) (KA i cC hJ):=by
 intro pins s σ H D I h;obtain⟨v,ai,h⟩:=h;obtain⟨m,aN,aj⟩:=I.loc;have KD:gb X.env.scope x:=by rcases aB with k|k;exact .inl k;exact .inr (.inl k)
 obtain⟨u,r,l⟩:=aj i x v aD ai KD;refine wpAny_AugAssign_Name ?_
 have go:wpAny (model X.prog X.w) X.A (eval e X.env) (fun w y0=>wpAny (model X.prog X.w) X.A (inplaceOp op u w) (fun r KG=>wpAny (model X.prog X.w) X.A (storeName X.env x r) (fun _=>p4 X pins D .next) X.xe KG) X.xe y0) X.xe s:=by
  refine cq (he pins s σ H _ I h) fun w s1 ⟨y,H1,bg,ar,a4⟩=>?_;refine cq (aE pins s1 σ H1 v y u w _ bg r ar a4) fun z s2 ⟨Zd,a3,d9,aF,bS⟩=>?_;exact p3 d9 bD aD aB aF (fun s3 dd=>⟨_,a3,dd,bS⟩) hf
 rcases l with⟨ah,hm⟩|⟨ah,c,hc,oF⟩
 ·exact wpAny_loadName_local I.ok.kind ah aN hm go
 ·rcases ah with ah|ah
  ·exact wpAny_loadName_cell I.ok.kind ah hc oF go
  ·rcases aB with k|k
   ·have:X.env.scope.names.lookup x=some .free:=ah;rw[k]at this;cases this
   ·have:X.env.scope.names.lookup x=some .free:=ah;rw[k]at this;cases this
def KH(f:Int->Int->Int):uK:=fun x y H Q=>∃i j,x=.int i/\y=.int j/\Q (.int (f i j)) H
theorem KI:Dr X .Add (KH fun i j=>i+j):=by
 intro pins s σ H x y v u Q I ar aF h;obtain⟨i,j,ai,av,q⟩:=h;subst ai;subst av;obtain⟨t,rfl⟩:=ar;obtain⟨t',rfl⟩:=aF;exact iadd_int ⟨.int _,H,I.tok _,⟨_,rfl⟩,q⟩
end
section
variable{X:aM}{pos:Pos}
def KJ(c:TT)(tb:fM):fM:=fun D σ H=>∃W:Nat->St->ao->Prop,(∃m,W m σ H)/\∀m σ H,W m σ H ->
 c σ H fun b H1=>if b=true then ∃N:St->ao->Prop,(∀a6 H',N a6 H'->∃m',m'<m/\W m' a6 H')/\tb { D with nx:=N,ct:=N,bk:=D.nx } σ H1 else D.nx σ H1
theorem KL{c:Expr}{body:List Stmt}{tc:TT}{tb:fM}(ag:PassesOwn (model X.prog X.w) X.A X.env X.xe)(hc:ik X c tc)(af:h4 X body tb):il X (.While c body [] pos) (KJ tc tb):=by
 intro pins s σ H D I h;obtain⟨W,⟨m0,w0⟩,turn⟩:=h;refine wpAny_While (codeAny_whileLoop (fun n s'=>∃a6 H',Inv X pins a6 H' s'/\W n a6 H') ?_ m0 ⟨σ,H,I,w0⟩);rintro n s1 ⟨gc,H1,bg,w1⟩;refine wpAny_passesOwn ag (cq (hc pins s1 gc H1 _ bg (turn n gc H1 w1)) fun b s2 ⟨a3,d9,bS⟩=>?_);cases b with
 | true =>
  obtain⟨N,bD,bS⟩:=bS;rw[if_pos rfl];refine wpAny_passesOwn ag (cq (af pins s2 gc a3 _ d9 bS) fun f s3 fC=>?_);cases f with
  | next =>
   obtain⟨fU,cU,dd,kq⟩:=fC;obtain⟨m',hm,rL⟩:=bD fU cU kq;exact⟨m',hm,fU,cU,dd,rL⟩
  | cont =>
   obtain⟨fU,cU,dd,kq⟩:=fC;obtain⟨m',hm,rL⟩:=bD fU cU kq;exact⟨m',hm,fU,cU,dd,rL⟩
  | brk=>exact fC
  | ret v=>exact fC
 | false =>
  rw[if_neg aal];exact wpAny_execs_nil ⟨gc,a3,d9,bS⟩
end
structure h5 where
 go:Nat->ao->Prop
 yld:Nat->ao->V->ao->Prop
 stop:Nat->ao->Prop
def jI(X:aM)(pins:List (Addr×Obj))(H:ao)(b:Addr):Prop :=
 H b=none/\b≠X.env.locals/\b∉X.fs/\(b∈X.ex∨X.s₀.heap.objs.size<=b)/\(∀x c,X.env.cells.lookup x=some c->c≠b)/\∀p∈X.pn++pins,p.1≠b
theorem Inv.fpOk{X:aM}{pins:List (Addr×Obj)}{σ:St}{H H':ao}{s:Shared}{b:Addr}(I:Inv X pins σ H s)(af:s.heap.objs.size<=b)(aN:H' b=none):jI X pins H' b:=by
 refine⟨aN,ab8 (aaA I.lt af),I.nofs af,.inr (Gq I.sz af),fun x c e z=>?_,fun p ag z=>?_⟩
 ·obtain⟨v,q⟩:=I.cell x c e;exact absurd (aaA q.lt (by rw[z];exact af)) (aa7 _)
 ·exact absurd (aaA (Heap.lt_size (I.pin p ag).1) (by rw[z];exact af)) (aa7 _)
structure Turn (P:Program) (w:World) (K:PySem.W.Frag) (bE:Expr) (J:h5) (cB:List Addr) (it:Addr) (hK:Nat->Heap->Prop):Prop where
 mem:it∈cB
 obj:∀i h,hK i h->∀b∈cB,∃o,h.get? b=some o/\∀v,o.data≠.cell v
 keep:∀i h h',hK i h->(∀b∈cB,∀o,h.get? b=some o->h'.get? b=some o)->hK i h'
 item:∀(X:aM),X.prog=P->X.w=w->X.K=K->X.calm=true->∀(i:Nat)(pins:List (Addr×Obj))(s:Shared)(σ:St)(H:ao)(E:Value->Shared->Prop),Inv X pins σ H s->(∀b∈cB,jI X pins H b)->hK i s.heap->J.go i H ->
  wpAny (model P w) X.A (pyNext (.ref it)) (fun r s1=>∃u,r=some u /\
   wpAny (model P w) X.A (letOwnedTupleGo bE (.ref it) u) (fun _ s2=>∃x H',Inv X pins σ H' s2/\RelV x u/\J.yld i H x H'/\hK (i+1) s2.heap/\∀b∈cB,H' b=none) E s1) E s
 done:∀(X:aM),X.prog=P->X.w=w->X.K=K->X.calm=true->∀(i:Nat)(pins:List (Addr×Obj))(s:Shared)(σ:St)(H:ao)(E:Value->Shared->Prop),Inv X pins σ H s->(∀b∈cB,jI X pins H b)->hK i s.heap->J.stop i H ->
  wpAny (model P w) X.A (pyNext (.ref it)) (fun r s1=>r=none/\Inv X pins σ H s1) E s
 self:∀(A:Around)(i:Nat)(s:Shared)(Q:Value->Shared->Prop)(E:Value->Shared->Prop),hK i s.heap->Q (.ref it) s->wpAny (model P w) A (pyIter (.ref it)) Q E s
abbrev TI:=St->ao->(h5->ao->Prop)->Prop
def Dv(X:aM)(pins:List (Addr×Obj))(σ:St)(bE:Expr)(R:h5->ao->Prop)(nc:Value)(s2:Shared):Prop :=
 ∃(it:Addr)(cB:List Addr)(hK:Nat->Heap->Prop)(J:h5)(H':ao),nc=.ref it/\Inv X pins σ H' s2/\Turn X.prog X.w X.K bE J cB it hK/\hK 0 s2.heap/\(∀b∈cB,jI X pins H' b)/\R J H'
def jJ(X:aM)(bE iter:Expr)(fu:TI):Prop :=
 ∀(pins:List (Addr×Obj))(s:Shared)(σ:St)(H:ao)(R:h5->ao->Prop),Inv X pins σ H s->fu σ H R ->
  wpAny (model X.prog X.w) X.A (eval iter X.env) (fun v s1=>wpAny (model X.prog X.w) X.A (pyIter v) (Dv X pins σ bE R) X.xe s1) X.xe s
theorem uO{M:Model}{A:Around}{E:Value->Shared->Prop}{s:Shared}{bE:Expr}{it:Addr}{u:Value}{o:Obj}{n:String}{vs:Array Value}{Q:Unit->Shared->Prop}(aE:s.heap.get? it=some o)(hc:o.cls=.type n)(hd:o.data=.fields vs)(aN:["enumerate","zip","dict_itemiterator","dict_reverseitemiterator","odict_iterator","itertools.zip_longest","itertools.pairwise"].contains n=false)(gZ:Q () s): wpAny M A (letOwnedTupleGo bE (.ref it) u) Q E s:=by
  unfold letOwnedTupleGo
  cases bE<;>first
    | exact wpAny_pure gZ
    | (cases u<;>first
        | exact wpAny_pure gZ
        | (refine wpAny_bind (wpAny_load aE ?_)
           rw[hc,hd];show wpAny M A (if(["enumerate","zip","dict_itemiterator","dict_reverseitemiterator","odict_iterator","itertools.zip_longest","itertools.pairwise"].contains n&&vs[0]?==some (rawInt _))=true then _ else _) Q E s
           rw[if_neg (by intro h;rw[aN,Bool.false_and]at h;cases h)]
           exact wpAny_pure gZ))
def y1(K:PySem.W.Frag)(a:Addr):h5 :=
 ⟨fun i H=>∃xs x,cw K H a xs/\xs[i]?=some x,fun i H x H'=>H'=H/\∀xs,cw K H a xs->xs[i]?=some x,fun i H=>∃xs,cw K H a xs/\xs.length<=i⟩
def y2(K:PySem.W.Frag)(a:Addr):h5 :=
 ⟨fun i H=>∃xs x,eu K H a xs/\xs[i]?=some x,fun i H x H'=>H'=H/\∀xs,eu K H a xs->xs[i]?=some x,fun i H=>∃xs,eu K H a xs/\xs.length<=i⟩
def p7(lo:Int)(n:Nat):h5:=⟨fun i _=>i<n,fun i H x H'=>H'=H/\x=.int (lo+i),fun i _=>n<=i⟩
theorem KN{P:Program}{w:World}{K:PySem.W.Frag}{bE:Expr}(a it:Addr):Turn P w K bE (y1 K a) [it] it (fun i h=>h.IsListIter it a i) where
 mem:=by simp
 obj:=fun i h st b af=>by
  have e:b=it:=by simpa using af
  subst e;obtain⟨o,e,c,d⟩:=st;exact⟨o,e,fun v z=>by rw[d]at z;cases z⟩
 keep:=fun i h h' st k=>st.at fun o e=>k it (by simp) o e
 item:=by
  intro X gD hw e5 hc i pins s σ H E I hf st aC;subst gD hw e5;obtain⟨xs,x,ay,aB⟩:=aC;obtain⟨its,b3,p,a'⟩:=I.list ay;obtain⟨u,bA,hL⟩:=b3.get aB;obtain⟨f0,f1,f2,bO,f4,d2⟩:=hf it (by simp);refine wpAny_pyNext_list_item st p.isList (x:=u) (by simpa using bA) fun h' jK gd=>?_;have bg:Inv X pins σ H { s with heap:=h' }:=I.turned (t':=s.toks) (fun b o af e=>(gd.2 b af).trans e) f0 f1 bO f4 d2;obtain⟨o,e,c,d⟩:=id jK;exact⟨u,rfl,uO (s:={ s with heap:=h' }) e c d (by decide) ⟨x,H,bg,hL,⟨rfl,fun ys a5=>by rw[I.list_inj a5 ay];exact aB⟩,jK,fun b af=>(hf b af).1⟩⟩
 done:=by
  intro X gD hw e5 hc i pins s σ H E I hf st aC;subst gD hw e5;obtain⟨xs,ay,aB⟩:=aC;obtain⟨its,b3,p,a'⟩:=I.list ay;obtain⟨f0,f1,f2,bO,f4,d2⟩:=hf it (by simp);have aj:=b3.length;exact wpAny_pyNext_list_end (I.ok.hd hc) st p.isList (by simp;omega) fun h' ew=>⟨rfl,I.turned (t':=s.toks) (fun b o af e=>ew b o af e) f0 f1 bO f4 d2⟩
 self:=fun _ _ _ _ _ st h=>wpAny_pyIter_listiter st h
theorem KO{P:Program}{w:World}{K:PySem.W.Frag}{bE:Expr}(a it:Addr):Turn P w K bE (y2 K a) [it] it (fun i h=>h.IsTupleIter it a i) where
 mem:=by simp
 obj:=fun i h st b af=>by
  have e:b=it:=by simpa using af
  subst e;obtain⟨o,e,c,d⟩:=st;exact⟨o,e,fun v z=>by rw[d]at z;cases z⟩
 keep:=fun i h h' st k=>st.at fun o e=>k it (by simp) o e
 item:=by
  intro X gD hw e5 hc i pins s σ H E I hf st aC;subst gD hw e5;obtain⟨xs,x,ay,aB⟩:=aC;obtain⟨its,b3,p,a'⟩:=I.tuple ay;obtain⟨u,bA,hL⟩:=b3.get aB;obtain⟨f0,f1,f2,bO,f4,d2⟩:=hf it (by simp);refine wpAny_pyNext_tuple_item st (show s.heap.IsTuple a its.toArray from p) (x:=u) (by simpa using bA) fun h' jK gd=>?_;have bg:Inv X pins σ H { s with heap:=h' }:=I.turned (t':=s.toks) (fun b o af e=>(gd.2 b af).trans e) f0 f1 bO f4 d2;obtain⟨o,e,c,d⟩:=id jK;exact⟨u,rfl,uO (s:={ s with heap:=h' }) e c d (by decide) ⟨x,H,bg,hL,⟨rfl,fun ys a5=>by rw[I.tuple_inj a5 ay];exact aB⟩,jK,fun b af=>(hf b af).1⟩⟩
 done:=by
  intro X gD hw e5 hc i pins s σ H E I hf st aC;subst gD hw e5;obtain⟨xs,ay,aB⟩:=aC;obtain⟨its,b3,p,a'⟩:=I.tuple ay;obtain⟨f0,f1,f2,bO,f4,d2⟩:=hf it (by simp);have aj:=b3.length;exact wpAny_pyNext_tuple_end (I.ok.hd hc) st (show s.heap.IsTuple a its.toArray from p) (by simp;omega) fun h' ew=>⟨rfl,I.turned (t':=s.toks) (fun b o af e=>ew b o af e) f0 f1 bO f4 d2⟩
 self:=fun _ _ _ _ _ st h=>wpAny_pyIter_tupleiter st h
theorem KP{P:Program}{w:World}{K:PySem.W.Frag}{bE:Expr}(it:Addr)(lo:Int)(n:Nat):Turn P w K bE (p7 lo n) [it] it (fun i h=>IsRangeIter h it (lo+(i:Nat)*1) ((n:Int)-(i:Nat)) 1) where
 mem:=by simp
 obj:=fun i h st b af=>by
  have e:b=it:=by simpa using af
  subst e
  exact⟨_,st,fun v z=>by
   have er:Data.fields _=Data.cell v:=z
   cases er⟩
 keep:=fun i h h' st k=>k it (by simp) _ st
 item:=by
  intro X gD hw e5 hc i pins s σ H E I hf st aC;subst gD hw e5;obtain⟨f0,f1,f2,bO,f4,d2⟩:=hf it (by simp);have W:=Walks.range (prog:=X.prog) (w:=X.w) (I.ok.hd hc) it lo 1 n;refine W.item i s _ _ aC st fun v h' iP aP jK aZ=>?_;obtain⟨t,rfl⟩:=aP;have bg:Inv X pins σ H { s with heap:=h',toks:=iP }:=I.turned (fun b o af e=>aZ b o (by simpa using af) e) f0 f1 bO f4 d2;refine⟨_,rfl,uO (s:={ s with heap:=h',toks:=iP }) (n:="range_iterator") jK rfl rfl (by decide) ⟨.int (lo+i),H,bg,⟨t,?_⟩,⟨rfl,rfl⟩,jK,fun b af=>(hf b af).1⟩⟩;rw[ab9]
 done:=by
  intro X gD hw e5 hc i pins s σ H E I hf st aC;subst gD hw e5;obtain⟨f0,f1,f2,bO,f4,d2⟩:=hf it (by simp);exact wpAny_pyNext_range_end (I.ok.hd hc) st (by have:n<=i:=aC;omega) fun h' ew=>⟨rfl,I.turned (t':=s.toks) (fun b o af e=>ew b o af e) f0 f1 bO f4 d2⟩
 self:=fun _ _ _ _ _ st h=>wpAny_pyIter_rangeiter st h
section
variable{X:aM}{bE:Expr}
def KQ(K:PySem.W.Frag)(gM:TE):TI:=fun σ H R=>gM σ H fun x H1=>∃a,x=.ref a/\(∃xs,cw K H1 a xs)/\R (y1 K a) H1
def KR(K:PySem.W.Frag)(gM:TE):TI:=fun σ H R=>gM σ H fun x H1=>∃a,x=.ref a/\(∃xs,eu K H1 a xs)/\R (y2 K a) H1
theorem y3{l:Expr}{gM:TE}(aj:b2 X l gM):jJ X bE l (KQ X.K gM):=by
 intro pins s σ H R I h;refine cq (aj pins s σ H _ I h) fun v s1 ⟨x,H1,bg,ar,a4⟩=>?_;obtain⟨a,e,⟨xs,ay⟩,q⟩:=a4;subst e;cases ar;obtain⟨its,b3,p,a'⟩:=bg.list ay;refine wpAny_pyIter_list p.isList ?_;refine⟨s1.heap.objs.size,[s1.heap.objs.size],_,_,H1,rfl,bg.kept (t':=s1.toks) fun b o e=>Heap.get?_push_of_some _ e,KN a _,⟨_,Heap.get?_push_size _ rfl,rfl,rfl⟩,fun b af=>?_,q⟩;have e:b=s1.heap.objs.size:=by simpa using af
 subst e;exact bg.fpOk (Zg _) (bg.hok.fresh (Zg _))
theorem KS{l:Expr}{gM:TE}(aj:b2 X l gM):jJ X bE l (KR X.K gM):=by
 intro pins s σ H R I h;refine cq (aj pins s σ H _ I h) fun v s1 ⟨x,H1,bg,ar,a4⟩=>?_;obtain⟨a,e,⟨xs,ay⟩,q⟩:=a4;subst e;cases ar;obtain⟨its,b3,p,a'⟩:=bg.tuple ay;refine wpAny_pyIter_tuple (show s1.heap.IsTuple a its.toArray from p) ?_;refine⟨s1.heap.objs.size,[s1.heap.objs.size],_,_,H1,rfl,bg.kept (t':=s1.toks) fun b o e=>Heap.get?_push_of_some _ e,KO a _,⟨_,Heap.get?_push_size _ rfl,rfl,rfl⟩,fun b af=>?_,q⟩;have e:b=s1.heap.objs.size:=by simpa using af
 subst e;exact bg.fpOk (Zg _) (bg.hok.fresh (Zg _))
theorem Dw{pins:List (Addr×Obj)}{σ:St}{H:ao}{s:Shared}{R:h5->ao->Prop}{E:Value->Shared->Prop}{lo aD:Int}{t u v:Tok}{iP:Nat}(I:Inv X pins σ H s)(aa : -(2^62)<=lo)(ab:lo<2^62)(aL : -(2^62)<=aD)(bo:aD<2^62)(q:R (p7 lo (aD-lo).toNat) H):wpAny (model X.prog X.w) X.A (pyIter (.ref s.heap.objs.size)) (Dv X pins σ bE R) E { s with heap:=s.heap.push { cls:=.type "range",data:=.fields #[.int lo t,.int aD u,.int 1 v] },toks:=iP }:=by
 refine wpAny_pyIter_range (IsRange.new ..) (small_one aa ab aL bo) ?_;have bg:Inv X pins σ H { s with heap:=s.heap.push { cls:=.type "range",data:=.fields #[.int lo t,.int aD u,.int 1 v] },toks:=iP }:=I.kept fun b o e=>Heap.get?_push_of_some _ e
 refine⟨(s.heap.push { cls:=.type "range",data:=.fields #[.int lo t,.int aD u,.int 1 v] }).objs.size,[(s.heap.push { cls:=.type "range",data:=.fields #[.int lo t,.int aD u,.int 1 v] }).objs.size],_,_,H,rfl,
  bg.kept (t':=iP) fun b o e=>Heap.get?_push_of_some _ e,KP _ lo (aD-lo).toNat,?_,fun b af=>?_,q⟩
 ·have ai:lo+((0:Nat):Int)*1=lo:=by simp
  have av:(((aD-lo).toNat:Nat):Int)-((0:Nat):Int)=Builtin.Range.rangeSize lo aD 1:=by rw[rangeSize_one];split<;>omega
  show IsRangeIter _ _ (lo+((0:Nat):Int)*1) ((((aD-lo).toNat:Nat):Int)-((0:Nat):Int)) 1
  rw[ai,av];exact Heap.get?_push_size _ rfl
 ·have e:b=(s.heap.push { cls:=.type "range",data:=.fields #[.int lo t,.int aD u,.int 1 v] }).objs.size:=by simpa using af
  subst e;exact bg.fpOk (Zg _) (bg.hok.fresh (Zg _))
def KU(bV:eX):TI:=fun σ H R=>bV σ H fun vs H1=>∃j:Int,vs=[.int j] /\ -(2^62)<=j/\j<2^62/\R (p7 0 j.toNat) H1
def KV(bV:eX):TI:=fun σ H R=>bV σ H fun vs H1=>∃i j:Int,vs=[.int i,.int j]/\(-(2^62)<=i/\i<2^62 /\ -(2^62)<=j/\j<2^62)/\R (p7 i (j-i).toNat) H1
theorem KW{a:Expr}{bV:eX}{p pos:Pos}(aC:eB X "range")(hm:X.mg "range"=none)(ax:hq X [a] bV)(aq:starEach [a] X.env=[(false,eval a X.env)]:=by rfl):jJ X bE (.Call (.Name "range" p) [a] [] pos) (KU bV):=by
 intro pins s σ H R I h;refine Call_ (p6 I aC hm boot_range (ab' (cq (ax pos pins s σ H _ I h) fun us s1 ⟨vs,H1,bg,ar,a4⟩=>?_) aq rfl));obtain⟨j,e,a4,bS,q⟩:=a4;subst e;cases ar with
 | cons r hI =>
  cases hI;obtain⟨t,rfl⟩:=r;exact call_range_1 (Dw bg (by omega) (by omega) a4 bS (by simpa using q))
theorem KX{a b:Expr}{bV:eX}{p pos:Pos}(aC:eB X "range")(hm:X.mg "range"=none)(ax:hq X [a,b] bV)(aq:starEach [a,b] X.env=[(false,eval a X.env),(false,eval b X.env)]:=by rfl)(jL:starEach [b] X.env=[(false,eval b X.env)]:=by rfl):
  jJ X bE (.Call (.Name "range" p) [a,b] [] pos) (KV bV):=by
 intro pins s σ H R I h;refine Call_ (p6 I aC hm boot_range (ab' (cq (ax pos pins s σ H _ I h) fun us s1 ⟨vs,H1,bg,ar,a4⟩=>?_) (by rw[aq,jL]) (by rw[jL];rfl)));obtain⟨i,j,e,⟨a4,bS,fC,p8⟩,q⟩:=a4;subst e;cases ar with
 | cons r hI =>
  cases hI with
  | cons du hI =>
   cases hI;obtain⟨t,rfl⟩:=r;obtain⟨t',rfl⟩:=du;exact call_range_2 (Dw bg a4 bS fC p8 q)
def KY(fu:TI)(g:gC)(tb:fM):fM:=fun D σ H=>fu σ H fun J H1=>∃W:Nat->Nat->St->ao->Prop,(∃m,W 0 m σ H1)/\∀i m σ H,W i m σ H ->
 (J.stop i H/\D.nx σ H)∨(J.go i H/\∃N:St->ao->Prop,(∀a6 H',N a6 H'->∃m',m'<m/\W (i+1) m' a6 H')/\∀x H',J.yld i H x H'->g x σ H' fun p9 a3=>tb { D with nx:=N,ct:=N,bk:=D.nx } p9 a3)
def rM(cB:List Addr)(h:Heap):List (Addr×Obj):=cB.filterMap fun b=>(h.get? b).map fun o=>(b,o)
theorem uP{cB:List Addr}{h:Heap}{b:Addr}{o:Obj}(af:b∈cB)(e:h.get? b=some o):(b,o)∈rM cB h:=adk.mpr ⟨b,af,by rw[e];rfl⟩
theorem KZ{cB:List Addr}{h:Heap}{p:Addr×Obj}(ag:p∈rM cB h):p.1∈cB/\h.get? p.1=some p.2:=by
 obtain⟨b,af,e⟩:=adk.mp ag;cases q:h.get? b with
 | none=>rw[q]at e;cases e
 | some o =>
  rw[q]at e;have aT:(b,o)=p:=aab e;subst aT;exact⟨af,q⟩
theorem Inv.pinned{pins:List (Addr×Obj)}{σ:St}{H:ao}{s:Shared}{cB:List Addr}(I:Inv X pins σ H s)(hf:∀b∈cB,jI X pins H b)(aE:∀b∈cB,∃o,s.heap.get? b=some o/\∀v,o.data≠.cell v):Inv X (pins++rM cB s.heap) σ H s :=
 I.pins_of fun p ag=>(aae.mp ag).elim (fun z=>I.pin p (aaC _ z)) fun z=>by
  obtain⟨af,e⟩:=KZ z;obtain⟨f0,f1,f2,_⟩:=hf p.1 af;obtain⟨o,aT,d⟩:=aE p.1 af;rw[e]at aT;cases aT;exact⟨e,f0,f1,f2,d⟩
theorem Inv.unpinned{pins c0:List (Addr×Obj)}{σ:St}{H:ao}{s:Shared}(I:Inv X (pins++c0) σ H s):Inv X pins σ H s:=I.pins_of fun p ag=>I.pin p (aaC _ (abj _ ag))
theorem rN{iter:Expr}{body:List Stmt}{fu:TI}{g:gC}{tb:fM}{pos:Pos}(ag:PassesOwn (model X.prog X.w) X.A X.env X.xe)(hc:X.calm=true)(aD:jJ X bE iter fu)(aC:iO X bE g)(af:h4 X body tb)(aq:∀x,foldedSetIterable iter X.env x=pure x:=by intro _;rfl):il X (.For bE iter body [] pos) (KY fu g tb):=by
 intro pins s σ H D I h;refine wpAny_For (cq (aD pins s σ H _ I h) fun v s1 aa=>cq aa fun nc s2 ab=>?_) aq;obtain⟨it,cB,hK,J,a3,e,d9,T,oK,f2,W,⟨m0,w0⟩,turn⟩:=ab;subst e;have oL:∀{H':ao},(∀b∈cB,H' b=none)->∀b∈cB,jI X pins H' b:=fun aN b af=>⟨aN b af,(f2 b af).2⟩;refine codeAny_forLoop_any (fun n s'=>∃i a6 H',Inv X pins a6 H' s'/\hK i s'.heap/\(∀b∈cB,H' b=none)/\W i n a6 H') ?_ m0 ⟨0,σ,a3,d9,oK,fun b af=>(f2 b af).1,w0⟩;rintro n s3 ⟨i,fU,cU,dd,Dx,Dy,rL⟩;rcases turn i n fU cU rL with⟨stop,Dz⟩|⟨go,N,bD,step⟩
 ·refine wpAny_passesOwn ag (cq (T.done X rfl rfl rfl hc i pins s3 fU cU X.xe dd (oL Dy) Dx stop) fun r s4 ⟨ak,m9⟩=>?_);subst ak;exact wpAny_execs_nil ⟨fU,cU,m9,Dz⟩
 ·refine wpAny_passesOwn ag (cq (T.item X rfl rfl rfl hc i pins s3 fU cU X.xe dd (oL Dy) Dx go) fun r s4 ⟨u,ak,bo⟩=>?_);subst ak;refine wpAny_passesOwn ag (cq bo fun _ s5 ⟨x,fN,oJ,K0,K1,p',uQ⟩=>?_);have K2:=oJ.pinned (oL uQ) (T.obj _ _ p');refine wpAny_passesOwn ag (cq (aC _ s5 fU fN x u _ K2 K0 (step x fN K1)) fun _ h6 ⟨K3,K4,jM,y4⟩=>?_);refine wpAny_passesOwn ag (cq (af _ h6 K3 K4 _ jM y4) fun f mi lz=>?_)
  have again:∀{kr:St}{iQ:ao},Inv X (pins++rM cB s5.heap) kr iQ mi->N kr iQ->∃m,m<n/\∃i a6 H',Inv X pins a6 H' mi/\hK i mi.heap/\(∀b∈cB,H' b=none)/\W i m a6 H':=fun{kr iQ} h7 rO=>by
   obtain⟨m',hm,K5⟩:=bD kr iQ rO;refine⟨m',hm,i+1,kr,iQ,h7.unpinned,T.keep _ _ _ p' fun b af o e=>(h7.pin (b,o) (aaC _ (aaC _ (uP af e)))).1,fun b af=>?_,K5⟩;obtain⟨o,e,d⟩:=T.obj _ _ p' b af;exact(h7.pin (b,o) (aaC _ (aaC _ (uP af e)))).2.1
  cases f with
  | next=>obtain⟨kr,iQ,h7,rO⟩:=lz;exact again h7 rO
  | cont=>obtain⟨kr,iQ,h7,rO⟩:=lz;exact again h7 rO
  | brk=>obtain⟨kr,iQ,h7,lz⟩:=lz;exact⟨kr,iQ,h7.unpinned,lz⟩
  | ret v=>obtain⟨K6,kr,iQ,h7,y5,lz⟩:=lz;exact⟨K6,kr,iQ,h7.unpinned,y5,lz⟩
end
abbrev e6:=V->V->ao->cN->Prop
def fO(X:aM)(f:Value->Value->Sem Value)(r:e6):Prop :=
 ∀(pins:List (Addr×Obj))(s:Shared)(σ:St)(H:ao)(x y:V)(v u:Value)(Q:cN),Inv X pins σ H s->RelV x v->RelV y u->r x y H Q ->
  wpAny (model X.prog X.w) X.A (f v u) (gY X pins σ Q) X.xe s
def y6(X:aM)(f:Value->Sem Value)(r:V->ao->cN->Prop):Prop :=
 ∀(pins:List (Addr×Obj))(s:Shared)(σ:St)(H:ao)(x:V)(v:Value)(Q:cN),Inv X pins σ H s->RelV x v->r x H Q ->
  wpAny (model X.prog X.w) X.A (f v) (gY X pins σ Q) X.xe s
def mj(X:aM)(f:Value)(r:List V->ao->cN->Prop):Prop :=
 ∀(pins:List (Addr×Obj))(s:Shared)(σ:St)(H:ao)(xs:List V)(us:List Value)(Q:cN),Inv X pins σ H s->Vals xs us->r xs H Q ->
  wpAny (model X.prog X.w) X.A (call f us) (gY X pins σ Q) X.xe s
def K7(X:aM)(r:V->ao->(Bool->ao->Prop)->Prop):Prop :=
 ∀(pins:List (Addr×Obj))(s:Shared)(σ:St)(H:ao)(x:V)(v:Value)(Q:Bool->ao->Prop),Inv X pins σ H s->RelV x v->r x H Q ->
  wpAny (model X.prog X.w) X.A (truthy v) (uI X pins σ Q) X.xe s
def ml(r:e6)(bV tb:TE):TE:=fun σ H Q=>bV σ H fun x H1=>tb σ H1 fun y a3=>r x y a3 Q
def y7(r:V->ao->cN->Prop)(bV:TE):TE:=fun σ H Q=>bV σ H fun x H1=>r x H1 Q
def qa(C:Int->Int->Prop)(g:Int->Int->V):e6:=fun x y H Q=>∃i j,x=.int i/\y=.int j/\C i j/\Q (g i j) H
def jN(g:Int->Int->V):e6:=fun x y H Q=>∃i j,x=.int i/\y=.int j/\Q (g i j) H
def y8(g:Int->V):V->ao->cN->Prop:=fun x H Q=>∃i,x=.int i/\Q (g i) H
section
variable{X:aM}{a b c:Expr}{bV tb tc:TE}{pos:Pos}
theorem y9(ax:b2 X a bV)(af:b2 X b tb){pins:List (Addr×Obj)}{s:Shared}{σ:St}{H:ao}{R:V->V->ao->Prop}(I:Inv X pins σ H s)(h:bV σ H fun x H1=>tb σ H1 fun y a3=>R x y a3){Q:Value->Shared->Prop}{f:Value->Value->Sem Value}(hf:∀v u s2 x y a3,Inv X pins σ a3 s2->RelV x v->RelV y u->R x y a3->wpAny (model X.prog X.w) X.A (f v u) Q X.xe s2):
  wpAny (model X.prog X.w) X.A (eval a X.env) (fun v dN=>wpAny (model X.prog X.w) X.A (eval b X.env) (fun u y0=>wpAny (model X.prog X.w) X.A (f v u) Q X.xe y0) X.xe dN) X.xe s:=by
 refine cq (ax pins s σ H _ I h) fun v s1 ⟨x,H1,bg,ar,a4⟩=>?_;refine cq (af pins s1 σ H1 _ bg a4) fun u s2 ⟨y,a3,d9,aF,bS⟩=>?_;exact hf v u s2 x y a3 d9 ar aF bS
theorem ff{op:Operator}{r:e6}(aE:fO X (binaryOp op) r)(ax:b2 X a bV)(af:b2 X b tb):b2 X (.BinOp a op b pos) (ml r bV tb):=by
 intro pins s σ H Q I h;exact wpAny_BinOp (y9 ax af I h fun v u s2 x y a3 d9 bc cx q=>aE pins s2 σ a3 x y v u Q d9 bc cx q)
theorem K8{op:UnaryOp}{r:V->ao->cN->Prop}(aE:y6 X (unaryOp op) r)(ax:b2 X a bV):b2 X (.UnaryOp op a pos) (y7 r bV):=by
 intro pins s σ H Q I h;exact UnaryOp_ (cq (ax pins s σ H _ I h) fun v s1 ⟨x,H1,bg,ar,a4⟩=>aE pins s1 σ H1 x v Q bg ar a4)
theorem uR{f:Value->Value->Sem Value}{C:Int->Int->Prop}{g:Int->Int->Int}(rule:∀(i j:Int) (t u:Tok) (s:Shared) (Q:Value->Shared->Prop) (E:Value->Shared->Prop),C i j->Q (.int (g i j) s.toks) { s with toks:=s.toks+1 }->wpAny (model X.prog X.w) X.A (f (.int i t) (.int j u)) Q E s):
  fO X f (qa C fun i j=>.int (g i j)):=by
 intro pins s σ H x y v u Q I bc cx h;obtain⟨i,j,rfl,rfl,hc,q⟩:=h;obtain⟨t,rfl⟩:=bc;obtain⟨t',rfl⟩:=cx;exact rule i j t t' s _ _ hc ⟨.int (g i j),H,I.tok _,⟨_,rfl⟩,q⟩
theorem DA{f:Value->Value->Sem Value}{g:Int->Int->Int}(rule:∀(i j:Int) (t u:Tok) (s:Shared) (Q:Value->Shared->Prop) (E:Value->Shared->Prop),Q (.int (g i j) s.toks) { s with toks:=s.toks+1 }->wpAny (model X.prog X.w) X.A (f (.int i t) (.int j u)) Q E s):
  fO X f (jN fun i j=>.int (g i j)):=by
 intro pins s σ H x y v u Q I bc cx h;obtain⟨i,j,rfl,rfl,q⟩:=h;obtain⟨t,rfl⟩:=bc;obtain⟨t',rfl⟩:=cx;exact rule i j t t' s _ _ ⟨.int (g i j),H,I.tok _,⟨_,rfl⟩,q⟩
theorem qb{f:Value->Value->Sem Value}{g:Int->Int->Bool}(rule:∀(i j:Int) (t u:Tok) (s:Shared) (Q:Value->Shared->Prop) (E:Value->Shared->Prop),Q (.bool (g i j)) s->wpAny (model X.prog X.w) X.A (f (.int i t) (.int j u)) Q E s):
  fO X f (jN fun i j=>.bl (g i j)):=by
 intro pins s σ H x y v u Q I bc cx h;obtain⟨i,j,rfl,rfl,q⟩:=h;obtain⟨t,rfl⟩:=bc;obtain⟨t',rfl⟩:=cx;exact rule i j t t' s _ _ ⟨.bl (g i j),H,I,rfl,q⟩
def y'(i j:Int):Prop:=0<=j/\j<=1000000/\i.natAbs<2^64
theorem uS:fO X (binaryOp .Add) (jN fun i j=>.int (i+j)):=DA fun _ _ _ _ _ _ _ q=>add_int q
theorem K9:fO X (binaryOp .Sub) (jN fun i j=>.int (i-j)):=DA fun _ _ _ _ _ _ _ q=>sub_int q
theorem mm:fO X (binaryOp .Mod) (qa (fun _ j=>0<j) fun i j=>.int (i%j)):=uR fun i j _ _ _ _ _ hc q=>by
 have aa:(0:Int)<j:=hc;exact mod_int' (by omega) (by rw[Int.fmod_eq_emod_of_nonneg i (by omega)];exact q)
theorem uT:fO X (binaryOp .Pow) (qa y' fun i j=>.int (i^j.toNat)):=uR fun _ _ _ _ _ _ _ hc q=>pow_int_small hc.1 hc.2.1 hc.2.2 q
theorem K'{f:Value->Sem Value}{g:Int->Int}(rule:∀(i:Int) (t:Tok) (s:Shared) (Q:Value->Shared->Prop) (E:Value->Shared->Prop),Q (.int (g i) s.toks) { s with toks:=s.toks+1 }->wpAny (model X.prog X.w) X.A (f (.int i t)) Q E s):
  y6 X f (y8 fun i=>.int (g i)):=by
 intro pins s σ H x v Q I bc h;obtain⟨i,rfl,q⟩:=h;obtain⟨t,rfl⟩:=bc;exact rule i t s _ _ ⟨.int (g i),H,I.tok _,⟨_,rfl⟩,q⟩
theorem La:y6 X (unaryOp .USub) (y8 fun i=>.int (-i)):=K' fun _ _ _ _ _ q=>neg_int q
end
section
variable{X:aM}{a b c:Expr}{bV tb tc:TE}{pos:Pos}
theorem lA:fO X (compareOp .Lt) (jN fun i j=>.bl (decide (i<j))):=qb fun _ _ _ _ _ _ _ q=>lt_int q
theorem Lb:fO X (compareOp .LtE) (jN fun i j=>.bl (decide (i<=j))):=qb fun _ _ _ _ _ _ _ q=>le_int q
theorem qc:fO X (compareOp .Gt) (jN fun i j=>.bl (decide (j<i))):=qb fun _ _ _ _ _ _ _ q=>gt_int q
theorem uU:fO X (compareOp .GtE) (jN fun i j=>.bl (decide (j<=i))):=qb fun _ _ _ _ _ _ _ q=>ge_int q
theorem dk(b:Expr){op:CmpOp}(h:op≠.In:=by decide)(ab:op≠.NotIn:=by decide):behindInMarks op b=false:=by
 have ai:(op==CmpOp.In)=false:=by cases op<;>first|rfl|exact absurd rfl h
 have av:(op==CmpOp.NotIn)=false:=by cases op<;>first|rfl|exact absurd rfl ab
 cases b<;>simp[behindInMarks,ai,av]
theorem za{op:CmpOp}{r:e6}(aE:fO X (compareOp op) r)(ax:b2 X a bV)(af:b2 X b tb)(hm:behindInMarks op b=false):b2 X (.Compare a [op] [b] pos) (ml r bV tb):=by
 intro pins s σ H Q I h;exact wpAny_Compare1 (y9 ax af I h fun v u s2 x y a3 d9 bc cx q=>aE pins s2 σ a3 x y v u Q d9 bc cx q) hm
def Lc(t:TE):TT:=fun σ H Q=>t σ H fun x H'=>∃k,x=.bl k/\Q k H'
theorem oM{op:CmpOp}{r:e6}(aE:fO X (compareOp op) r)(ax:b2 X a bV)(af:b2 X b tb)(hm:behindInMarks op b=false):ik X (.Compare a [op] [b] pos) (Lc (ml r bV tb)):=by
 intro pins s σ H Q I h
 refine wpAny_isTrue_Compare1 (cq (ax pins s σ H _ I h) fun v s1 ⟨x,H1,bg,ar,a4⟩=>cq (af pins s1 σ H1 _ bg a4) fun u s2 ⟨y,a3,d9,aF,bS⟩ =>
  cq (aE pins s2 σ a3 x y v u _ d9 ar aF bS) fun c s3 ⟨z,cU,dd,fP,k,e,fC⟩=>?_) hm
 subst e;cases fP;exact wpAny_truthy_bool ⟨cU,dd,fC⟩
def DB(K:PySem.W.Frag)(x:V)(H:ao)(k:Bool):Prop :=
 match x with
 | .non=>k=false
 | .bl b=>k=b
 | .int i=>k=(i != 0)
 | .str y=>y.length<=sizeLine/\k=((y.length:Int) != 0)
 | .byt y=>y.size<=sizeLine/\k=((y.size:Int) != 0)
 | .ref p=>(∃xs,cw K H p xs/\k = !xs.isEmpty)∨(∃xs,eu K H p xs/\k = !xs.isEmpty)∨∃kvs,H p=some (.dK kvs)/\k = !kvs.isEmpty
 | _=>False
theorem Ld{κ:Type}{kvs:List (κ×V)}{vs:List (κ×Value)}(r:yT kvs vs):(!vs.isEmpty) = !kvs.isEmpty:=by
 cases r<;>rfl
theorem DC{xs:List V}{its:List Value}(r:Vals xs its):(!its.toArray.isEmpty) = !xs.isEmpty:=by
 cases r<;>simp
theorem rP:(sizeLine:Nat)<2^63:=by rw[sizeLine_eq];decide
theorem Le:K7 X (fun x H Q=>∃k,DB X.K x H k/\Q k H):=by
 intro pins s σ H x v Q I bc h;obtain⟨k,e,q⟩:=h;have aj:=rP;have aq:sizeLine=16777216:=sizeLine_eq;cases x with
 | non =>
  cases bc;have aT:k=false:=e;subst aT;exact truthy_none ⟨H,I,q⟩
 | bl b =>
  cases bc;have aT:k=b:=e;subst aT;exact wpAny_truthy_bool ⟨H,I,q⟩
 | int i =>
  obtain⟨t,rfl⟩:=bc;have aT:k=(i != 0):=e;subst aT;exact PySem.P.truthy_int ⟨H,I,q⟩
 | str y =>
  obtain⟨t,rfl⟩:=bc;obtain⟨a5,aT⟩:y.length<=sizeLine/\k=((y.length:Int) != 0):=e;subst aT;exact PySem.P.truthy_str (by omega) ⟨H,I.tok _,q⟩
 | byt y =>
  obtain⟨t,rfl⟩:=bc;obtain⟨a5,aT⟩:y.size<=sizeLine/\k=((y.size:Int) != 0):=e;subst aT;exact PySem.W.truthy_bytes (by omega) ⟨H,I.tok _,q⟩
 | ref p =>
  cases bc;have aT:(∃xs,cw X.K H p xs/\k = !xs.isEmpty)∨(∃xs,eu X.K H p xs/\k = !xs.isEmpty)∨∃kvs,H p=some (.dK kvs)/\k = !kvs.isEmpty:=e;rcases aT with⟨xs,aB,aT⟩|⟨xs,aB,aT⟩|⟨kvs,aB,aT⟩
  ·subst aT;obtain⟨its,r,c0,a'⟩:=I.list aB;have hlen:=r.length;exact wpAny_truthy_list c0.isList (by simp only[aaf];omega) ⟨H,I.tok _,by rw[DC r];exact q⟩
  ·subst aT;obtain⟨its,r,c0,a'⟩:=I.tuple aB;have hlen:=r.length;exact truthy_tuple c0 (by simp only[aaf];omega) ⟨H,I.tok _,by rw[DC r];exact q⟩
  ·subst aT;obtain⟨a',c7,vs,r,m⟩:kvs.length<=sizeLine/\(p==sysModules)=false/\∃vs,yT kvs vs/\s.heap.DictOf (yS X.prog X.w) p vs:=I.hok p _ aB;have hlen:kvs.length=vs.length:=Paired.length r;exact wpAny_truthy_dict c7 m (by omega) ⟨H,I.tok _,by rw[Ld r];exact q⟩
 | _=>exact(show False from e).elim
theorem Lf(ax:b2 X a bV)(he:∀whole,isTrue a X.env whole=(do let v <-whole;standAt a.pos;holding [v] (truthy v))):
  ik X a (fun σ H Q=>bV σ H fun x H'=>∃k,DB X.K x H' k/\Q k H'):=by
 intro pins s σ H Q I h;exact isTrue_plain (cq (ax pins s σ H _ I h) fun v s1 ⟨x,H1,bg,ar,a4⟩=>Le pins s1 σ H1 x v Q bg ar a4) (he _)
theorem vals1{x:V}{us:List Value}(r:Vals [x] us):∃u,us=[u]/\RelV x u:=by
 cases r with
 | cons ar aF=>cases aF;exact⟨_,rfl,ar⟩
theorem vals2{x y:V}{us:List Value}(r:Vals [x,y] us):∃u ly,us=[u,ly]/\RelV x u/\RelV y ly:=by
 cases r with
 | cons ar aF =>
  cases aF with
  | cons fP rQ=>cases rQ;exact⟨_,_,rfl,ar,fP⟩
theorem Lg:mj X (.builtin "abs") (fun xs H Q=>∃i,xs=[.int i]/\Q (.int (if i<0 then -i else i)) H):=by
 intro pins s σ H xs us Q I r h;obtain⟨i,rfl,q⟩:=h;obtain⟨u,rfl,t,rfl⟩:=vals1 r;exact call_abs_int fun u iP=>⟨.int (if i<0 then -i else i),H,I.tok _,⟨_,rfl⟩,q⟩
theorem Lh:mj X (.type "int") (fun xs H Q=>(∃i,xs=[.int i]/\Q (.int i) H)∨∃k,xs=[.bl k]/\Q (.int (if k then 1 else 0)) H):=by
 intro pins s σ H xs us Q I r h;rcases h with⟨i,rfl,q⟩|⟨k,rfl,q⟩
 ·obtain⟨u,rfl,t,rfl⟩:=vals1 r;exact call_int_int ⟨.int i,H,I,⟨_,rfl⟩,q⟩
 ·obtain⟨u,rfl,ar⟩:=vals1 r;cases ar;exact call_int_bool ⟨.int (if k then 1 else 0),H,I.tok _,⟨_,rfl⟩,q⟩
end
structure zb (h:Heap) (x dM C:Addr) (fq:Str->Option Value):Prop where
 obj:h.get? x=some (PySem.W.instObj C dM)
 ns:h.Ns1 dM fq
 ne:dM≠x
theorem Li{h:Heap}{dM:Addr}{fq:Str->Option Value}(n:h.Ns1 dM fq):∃od,h.get? dM=some od/\∀name,PySem.W.lookIn name od=some (fq name):=by
 obtain⟨o,es,bq,aE,hd,ah,_,hm⟩:=n;refine⟨o,aE,fun name=>?_⟩;have e:=hm name;unfold nsFind findBy at e;rw[<-Array.find?_toList]at e;unfold PySem.W.lookIn;rw[hd];dsimp only;split
 ·rename_i y q
  rw[q]at e;exact congrArg some e
 ·rename_i q
  rw[q]at e
  have a:es.toList.any (·.refKey)=false:=by
   rw[List.any_eq_false];intro y a5;obtain⟨z,t,Lj⟩:=ah y (Array.mem_toList_iff.mp a5);simp[DictEntry.refKey,Lj]
  have eI:¬es.toList.any (·.refKey)=true:=by rw[a];exact aal
  rw[if_neg eI];exact congrArg some e
theorem zb.look{h:Heap}{x dM C:Addr}{fq:Str->Option Value}(I:zb h x dM C fq):∃od,PySem.W.InstAt h x (PySem.W.instObj C dM) C (some od)/\∀name,PySem.W.lookIn name od=some (fq name):=
 let⟨od,aE,aj⟩:=Li I.ns
 ⟨od,⟨I.obj,rfl,rfl,aE⟩,aj⟩
theorem m4.some_of{v:V}{o:Option Value}(r:m4 (some v) o):∃u,o=some u/\RelV v u:=by
 cases o with
 | none=>exact(show False from r).elim
 | some u=>exact⟨u,rfl,r⟩
section
variable{P:Program}{w:World}{H H':ao}{h h':Heap}{a C dM:Addr}{fs JY:List (Str×V)}
theorem Lk(hok:eo P w H h)(e:H a=some (.ins C dM fs)):∃fq,zb h a dM C fq/\(∀f,m4 (fs.lookup f) (fq f))/\PySem.Within fq (fs.map (·.1))/\fs.length<=1000/\H dM=some (.own a):=by
 obtain⟨d,z,ne,cK,fq,n,r,q⟩:=(show fL P w H h a (.ins C dM fs)from hok a _ e);exact⟨fq,⟨cK,n,ne⟩,r,q,z,d⟩
end
structure zc (K:PySem.W.Frag) (C:Addr):Prop where
 pg:PySem.W.plainGet K C Str.empty=true
 hd:PySem.W.hasDictIn K C=true
 po:PySem.W.plainOver K C=true
 sa:PySem.W.findIn K (.ref C) "__setattr__"=some (some (.builtin "object.__setattr__"))
theorem zc.get{K:PySem.W.Frag}{C:Addr}(c:zc K C)(f:Str):PySem.W.plainGet K C f=true:=c.pg
section
variable{X:aM}{pins:List (Addr×Obj)}{σ:St}{H:ao}{s:Shared}{A:Around}{E:Value->Shared->Prop}{Q:Value->Shared->Prop}{c:Value}{b:Bool}
inductive iR (K:PySem.W.Frag) (H:ao):V->Value->Prop where
 | non:iR K H .non (.type "NoneType")
 | bl (x:Bool):iR K H (.bl x) (.type "bool")
 | int (i:Int):iR K H (.int i) (.type "int")
 | str (x:Str):iR K H (.str x) (.type "str")
 | flt (x:UInt64):iR K H (.flt x) (.type "float")
 | lst {a:Addr} {xs:List V} (e:H a=some (.lst xs)):iR K H (.ref a) (.type "list")
 | frz {a:Addr} {o:Obj} {xs:List V} (e:H a=some (.frz o (.lst xs))):iR K H (.ref a) (.type "list")
 | tup {a:Addr} {xs:List V} (e:H a=some (.tup xs)):iR K H (.ref a) (.type "tuple")
 | dK {a:Addr} {kvs:List (Key×V)} (e:H a=some (.dK kvs)):iR K H (.ref a) (.type "dict")
 | dT {a:Addr} {kvs:List (List Key×V)} (e:H a=some (.dT kvs)):iR K H (.ref a) (.type "dict")
 | ins {a C dM:Addr} {fs:List (Str×V)} (e:H a=some (.ins C dM fs)) (cl:zc K C) (ax:PySem.W.findIn K (.ref C) "__class__"=some (some (.builtin "object.__class__")))
   (aN:PySem.W.specialIn K (.builtin "object.__class__") "__get__"=some (some (.builtin "getset_descriptor.__get__"))) (DD:PySem.W.takesIn K (.builtin "object.__class__")=some true)
   (hm:PySem.W.mroIn K C (.type "object")=some true):iR K H (.ref a) (.ref C)
theorem Ll{x:V}{u t:Value}(I:Inv X pins σ H s)(bc:RelV x u)(ty:iR X.K H x t)(e:acI X.K t c=some b)(h:∀iP,Q (.bool b) { s with toks:=iP }):
  wpAny (model X.prog X.w) A (call (.builtin "isinstance") [u,c]) Q E s:=by
 cases ty with
 | non=>cases(show u=Value.none from bc);exact aaW PySem.W.kitx_none I.kIn abS e (fun z=>nomatch z) h
 | bl y=>cases(show u=Value.bool y from bc);exact aaW PySem.W.kitx_bool I.kIn abS e (fun z=>nomatch z) h
 | int i=>obtain⟨t,q⟩:=(show ∃t,u=Value.int i t from bc);cases q;exact aaW PySem.W.kitx_int I.kIn abS e (fun z=>nomatch z) h
 | str y=>obtain⟨t,q⟩:=(show ∃t,u=Value.str y t from bc);cases q;exact aaW PySem.W.kitx_str I.kIn abS e (fun z=>nomatch z) h
 | flt y=>obtain⟨t,q⟩:=(show ∃t,u=Value.float y t from bc);cases q;exact aaW PySem.W.kitx_float I.kIn abS e (fun z=>nomatch z) h
 | @lst a xs dq =>
  cases(show u=Value.ref a from bc);obtain⟨_,_,n,_,aa⟩:=(show fL X.prog X.w H s.heap a (.lst xs)from I.hok a _ dq);exact aaW adl I.kIn ⟨_,aa,rfl⟩ e (fun z=>nomatch z) h
 | @frz a cK xs dq =>
  cases(show u=Value.ref a from bc);obtain⟨_,_,_,n,_,aa⟩:=(show fL X.prog X.w H s.heap a (.frz cK (.lst xs))from I.hok a _ dq);exact aaW adl I.kIn ⟨_,aa,rfl⟩ e (fun z=>nomatch z) h
 | @tup a xs dq =>
  cases(show u=Value.ref a from bc);obtain⟨_,_,_,p⟩:=(show fL X.prog X.w H s.heap a (.tup xs)from I.hok a _ dq);obtain⟨o,aa,ab,_⟩:=p;exact aaW PySem.W.kitx_tuple I.kIn ⟨o,aa,ab⟩ e (fun z=>nomatch z) h
 | @dK a kvs dq =>
  cases(show u=Value.ref a from bc);obtain⟨_,_,vs,_,p⟩:=(show fL X.prog X.w H s.heap a (.dK kvs)from I.hok a _ dq);obtain⟨o,es,bq,aa,ab,_⟩:=p;exact aaW adm I.kIn ⟨o,aa,ab.1⟩ e (fun z=>nomatch z) h
 | @dT a kvs dq =>
  cases(show u=Value.ref a from bc);obtain⟨_,_,xs,_,o,es,bq,aa,ab,_⟩:=(show fL X.prog X.w H s.heap a (.dT kvs)from I.hok a _ dq);exact aaW adm I.kIn ⟨o,aa,ab.1⟩ e (fun z=>nomatch z) h
 | @ins a C dM fs dq cl ax aN DD hm =>
  cases(show u=Value.ref a from bc);obtain⟨fq,O,_⟩:=Lk I.hok dq;obtain⟨od,J,_⟩:=O.look;exact aaW (PySem.W.kitx_own (cl.get _) cl.hd ax aN DD hm) I.kIn J e (fun z=>nomatch z) h
end
structure eC (k:Nat) (A:Around):Prop where
 hd:A.handled=none
 dp:A.depth+3*k+5<recursionLimit
 un:A.units+16*k+200<cLine
theorem eC.mono{j k:Nat}{A:Around}(r:eC k A)(h:j<=k):eC j A:=⟨r.hd,by have:=r.dp;omega,by have:=r.un;omega⟩
theorem eC.deeper{k:Nat}{A:Around}(r:eC (k+1) A)(env:Env):eC k (A.deeper env):=
 ⟨r.hd,by have:=r.dp;show A.depth+1+3*k+5<_;omega,by have:=r.un;show A.units+3+16*k+200<_;omega⟩
theorem eC.depth{k:Nat}{A:Around}(r:eC k A):A.depth<recursionLimit:=by have:=r.dp;omega
theorem eC.units{k:Nat}{A:Around}(r:eC k A):A.units+64<cLine:=by have:=r.un;omega
def zd:eX:=fun _ H Q=>Q [] H
def ze(bV:TE)(Lm:eX):eX:=fun σ H Q=>bV σ H fun x H1=>Lm σ H1 fun xs a3=>Q (x::xs) a3
section
variable{X:aM}{e:Expr}{es:List Expr}{cC:TE}{t:eX}{pos:Pos}
theorem fD:hq X [] zd:=fun _ _ _ _ H Q I h=>Calls.spliced_nil ⟨[],H,I,.nil,h⟩
theorem eh(ax:b2 X e cC)(ak:hq X es t)(aq:starEach (e::es) X.env=(false,eval e X.env)::starEach es X.env:=by rfl):hq X (e::es) (ze cC t):=by
 intro pos pins s σ H Q I h;rw[aq];show wpAny _ _ (spliced ((false,eval e X.env)::backTo pos (starEach es X.env))) _ _ s
 refine Calls.spliced_cons (cq (ax pins s σ H _ I h) fun u s1 ⟨x,H1,bg,ar,a4⟩=>?_);exact cq (ak pos pins s1 σ H1 _ bg a4) fun us s2 ⟨xs,a3,d9,aF,bS⟩=>⟨x::xs,a3,d9,.cons ar aF,bS⟩
def Ln(t:eX):TE:=fun σ H Q=>t σ H fun xs H1=>xs.length<=sizeLine/\∀p,H1 p=none->Q (.ref p) (upd H1 p (.tup xs))
def Lo(t:eX):TE:=fun σ H Q=>t σ H fun xs H1=>xs.length<=sizeLine/\∀p,H1 p=none->Q (.ref p) (upd H1 p (.lst xs))
theorem zf{bK}(h:hq X es t):b2 X (.Tuple es bK pos) (Ln t):=by
 intro pins s σ H Q I ay;refine wpAny_Tuple_spliced (cq (h pos pins s σ H _ I ay) fun us s1 ⟨xs,H1,bg,r,z,q⟩=>⟨by rw[<-r.length];exact z,?_⟩);have hf:H1 s1.heap.objs.size=none:=bg.hok.fresh (Zg _);refine⟨.ref s1.heap.objs.size,upd H1 s1.heap.objs.size (.tup xs),bg.laid (t':=s1.toks) (fun b u e=>Heap.get?_push_of_some _ e) (Zg _) ?_,rfl,q _ hf⟩;exact⟨z,us,r,⟨_,Heap.get?_push_size _ rfl,rfl,_,rfl⟩⟩
theorem zg(h:hq X es t):b2 X (.List es pos) (Lo t):=by
 intro pins s σ H Q I ay;refine wpAny_List_spliced (cq (h pos pins s σ H _ I ay) fun us s1 ⟨xs,H1,bg,r,z,q⟩=>⟨by rw[<-r.length];exact z,?_⟩);have hf:H1 s1.heap.objs.size=none:=bg.hok.fresh (Zg _);refine⟨.ref s1.heap.objs.size,upd H1 s1.heap.objs.size (.lst xs),bg.laid (t':=s1.toks) (fun b u e=>Heap.get?_push_of_some _ e) (Zg _) ?_,rfl,q _ hf⟩;exact⟨z,us,0,r,Heap.get?_push_size _ rfl⟩
end
abbrev gN:=List V->ao->cN->fB->Prop
abbrev ku:=List Env->ao->Shared->fB->Value->Shared->Prop
structure uV (P:Program) (w:World) (K:PySem.W.Frag) (mg:Str->Option Value) (base:Heap) (A:Around) (outer:List Env) (s:Shared) (H:ao):Prop where
 frames:A.frames=some outer
 mod:Mod K mg base
 bs:∀b o,base.get? b=some o->s.heap.get? b=some o/\H b=none
 bsz:base.objs.size<=s.heap.objs.size
 funs:s.heap.FunFrames base outer
 frf:∀b∈jG outer,H b=none
 hok:eo P w H s.heap
 bare:AllBare s.gens
def zh(outer:List Env)(P:Program)(w:World)(H:ao)(s:Shared)(Q:cN)(u:Value)(s':Shared):Prop :=
 ∃v H',s'.os=s.os/\AllBare s'.gens/\ft (jG outer) [] H H' s.heap s'.heap/\eo P w H' s'.heap/\RelV v u/\Q v H'
def Lp(fg:ku)(outer:List Env)(P:Program)(w:World)(H:ao)(s:Shared)(Q:cN)(E:fB)(r:Result)(s':Shared):Prop :=
 match r with
 | .ok (.ret u)=>zh outer P w H s Q u s'
 | .ok _=>False
 | .error e=>fg outer H s E e s'
structure iS (P:Program) (w:World) (K:PySem.W.Frag) (mg:Str->Option Value) (base:Heap) (fg:ku) (k:Nat) (f:Addr) (fd:FuncData) (ps:List Str) (sp:gN):Prop where
 len:∀vs H Q E,sp vs H Q E->vs.length=ps.length
 run:∀(A:Around)(outer:List Env)(s:Shared)(H:ao)(args:Args)(us:List Value)(vs:List V)(Q:cN)(E:fB),eC k A->uV P w K mg base A outer s H->BindsTo s fd args (ps.zip us)->Vals vs us->sp vs H Q E ->
  codeAny (model P w) A (.call (.ref f) args) (Lp fg outer P w H s Q E) s
theorem iS.imp{P:Program}{w:World}{K:PySem.W.Frag}{mg:Str->Option Value}{base:Heap}{fg:ku}{k:Nat}{f:Addr}{fd:FuncData}{ps:List Str}{sp rS:gN}(F:iS P w K mg base fg k f fd ps sp)(h:∀vs H Q E,rS vs H Q E->sp vs H Q E):iS P w K mg base fg k f fd ps rS :=
 ⟨fun vs H Q E q=>F.len vs H Q E (h _ _ _ _ q),fun A outer s H args us vs Q E ak he af aP aq=>F.run A outer s H args us vs Q E ak he af aP (h _ _ _ _ aq)⟩
section
variable{X:aM}{pins:List (Addr×Obj)}{σ:St}{H:ao}{s s':Shared}
theorem Inv.env0(I:Inv X pins σ H s):uV X.prog X.w X.K X.mg X.base X.A X.stack s H :=
 ⟨I.ok.frames,I.ok.mod,I.bs,Gq I.ok.bsz I.sz,I.stack,I.stkFree,I.hok,I.bare⟩
theorem Inv.after{Q:cN}{u:Value}(I:Inv X pins σ H s)(h:zh X.stack X.prog X.w H s Q u s'):gY X pins σ Q u s':=by
 obtain⟨v,H',os,bare,un,hok,r,q⟩:=h;obtain⟨eJ,g,d,t,Lq⟩:=s';obtain rfl:Lq=s.os:=os;exact⟨v,H',I.call (h':=eJ) (g':=g) (d':=d) (t':=t) (ch:=[]) un hok bare (fun b z=>absurd z (by simp)),r,q⟩
end
def uW(sp:gN)(nf:List V)(E:fB)(t:eX):TE:=fun σ H Q=>t σ H fun vs H1=>sp (vs++nf) H1 Q E
def Binds(K:PySem.W.Frag)(fd:FuncData)(ps:List Str)(ds:List Value):Prop :=
 ∀(s:Shared)(us:List Value),K.In s.heap->(us++ds).length=ps.length->BindsTo s fd ⟨us,[]⟩ (ps.zip (us++ds))
theorem Binds.all{K:PySem.W.Frag}{fd:FuncData}{ps:List Str}(h:∀us:List Value,us.length=ps.length->bindArgs fd ⟨us,[]⟩=pure (ps.zip us)):Binds K fd ps []:=fun s us _ aj=>by
 rw[Z']at aj ⊢;exact .of_eq (h us aj)
def Passes(fg:ku)(X:aM)(E:fB):Prop:=∀(pins:List (Addr×Obj))(σ:St)(H:ao)(s:Shared)(e:Value)(s':Shared),Inv X pins σ H s->fg X.stack H s E e s'->X.xe e s'
section
variable{X:aM}{fg:ku}{k:Nat}{f C:Addr}{fd:FuncData}{ps:List Str}{sp:gN}{nf:List V}{ds:List Value}{E:fB}{x m:Str}{p pos apos:Pos}{e o:Expr}{es:List Expr}{bV:TE}{t:eX}
theorem DE{pins:List (Addr×Obj)}{σ:St}{H:ao}{s:Shared}{Q:cN}{us:List Value}{vs:List V}(F:iS X.prog X.w X.K X.mg X.base fg k f fd ps sp)(ak:eC k X.A)(af:Binds X.K fd ps ds)(hd:Vals nf ds)(aB:Passes fg X E)(I:Inv X pins σ H s)(r:Vals vs us)(h:sp (vs++nf) H Q E):wpAny (model X.prog X.w) X.A (call (.ref f) us) (gY X pins σ Q) X.xe s:=by
 have aF:Vals (vs++nf) (us++ds):=r.append hd;have aj:(us++ds).length=ps.length:=by rw[<-aF.length];exact F.len _ _ _ _ h
 refine wpAny_call (codeAny_mono (F.run X.A X.stack s H ⟨us,[]⟩ (us++ds) (vs++nf) Q E ak I.env0 (af s us I.kIn aj) aF h) fun r s' ay=>?_);cases r with
 | error e=>exact aB pins σ H s e s' I ay
 | ok lB =>
  cases lB with
  | ret u=>exact I.after ay
  | next=>exact aaZ ay
  | brk=>exact aaZ ay
  | cont=>exact aaZ ay
theorem Lr(F:iS X.prog X.w X.K X.mg X.base fg k f fd ps sp)(ak:eC k X.A)(aC:eB X x)(hm:X.mg x=some (.ref f))(ah:PySem.W.keepIn X.K (.ref f)=true)(af:Binds X.K fd ps ds)(hd:Vals nf ds)(aB:Passes fg X E)(ax:hq X (e::es) t)(g0:(x==("__debug__":Str))=false:=by decide)(he:starEach (e::es) X.env=(false,eval e X.env)::starEach es X.env:=by rfl)(eK:(backTo pos (starEach es X.env)).any (·.1)=false:=by rfl):
  b2 X (.Call (.Name x p) (e::es) [] pos) (uW sp nf E t):=by
 intro pins s σ H Q I h;refine wpAny_Call_Name_kw (Dj I aC hm ?_ g0);refine PySem.W.callWith_K (h₀:=X.base) I.ok.mod.kin ah (cq (ax pos pins s σ H _ I h) fun us s1 ⟨vs,H1,bg,r,q⟩=>⟨bg.kIn,?_⟩) he eK;exact DE F ak af hd aB bg r q
end
structure cG (N P:List Str) (sc:Scope):Prop where
 kind:sc.kind=.function
 co:sc.isCoroutine=false
 gen:sc.isGenerator=false
 nd:N.Nodup
 pre:N.take P.length=P
 par:∀x∈P,sc.names.lookup x=some .local∨sc.names.lookup x=some .cell
 nofree:∀y∈sc.names,y.2≠.free
theorem DF{kindOf:Str->Option NameKind}{x:Str}:∀{binds:List (Str×Value)}{m:Str->Option Value},(∀v,(x,v)∉binds)->bindL kindOf binds m x=m x
 | [],_,_=>rfl
 | (n,v)::r,m,h=>by
  unfold bindL;rw[DF fun w hw=>h w (ZL _ hw)];split
  ·have:x≠n:=by rintro rfl;exact h v ZJ
   simp[this]
  ·rfl
theorem DG{kindOf:Str->Option NameKind}{x:Str}:∀{binds:List (Str×Value)}{m:Str->Option Value},(∀v,(x,v)∉binds)->bindC kindOf binds m x=m x
 | [],_,_=>rfl
 | (n,v)::r,m,h=>by
  unfold bindC;rw[DG fun w hw=>h w (ZL _ hw)];split
  ·rfl
  ·have:x≠n:=by rintro rfl;exact h v ZJ
   simp[this]
theorem DH{kindOf:Str->Option NameKind}{x:Str}{v:Value}:∀{P:List Str}{vs:List Value}{i:Nat}{m:Str->Option Value},P.Nodup->P[i]?=some x->vs[i]?=some v->kindOf x=some .local ->
  bindL kindOf (P.zip vs) m x=some v
 | [],_,_,_,_,h,_,_=>by simp at h
 | _::_,[],_,_,_,_,h,_=>by simp at h
 | p::P,w::vs,0,m,nd,aa,ab,ah=>by
  simp at aa ab;subst aa;subst ab;show bindL kindOf ((p,w)::P.zip vs) m p=_
  unfold bindL;rw[DF fun v aP=>(aca.mp nd).1 (acJ aP).1,if_pos ah];simp
 | p::P,w::vs,i+1,m,nd,aa,ab,ah=>by
  show bindL kindOf ((p,w)::P.zip vs) m x=_
  unfold bindL;exact DH (i:=i) (aca.mp nd).2 (by simpa using aa) (by simpa using ab) ah
theorem DI{kindOf:Str->Option NameKind}{x:Str}{v:Value}:∀{P:List Str}{vs:List Value}{i:Nat}{m:Str->Option Value},P.Nodup->P[i]?=some x->vs[i]?=some v->kindOf x≠some .local ->
  bindC kindOf (P.zip vs) m x=some v
 | [],_,_,_,_,h,_,_=>by simp at h
 | _::_,[],_,_,_,_,h,_=>by simp at h
 | p::P,w::vs,0,m,nd,aa,ab,ah=>by
  simp at aa ab;subst aa;subst ab;show bindC kindOf ((p,w)::P.zip vs) m p=_
  unfold bindC;rw[DG fun v aP=>(aca.mp nd).1 (acJ aP).1,if_neg ah];simp
 | p::P,w::vs,i+1,m,nd,aa,ab,ah=>by
  show bindC kindOf ((p,w)::P.zip vs) m x=_
  unfold bindC;exact DI (i:=i) (aca.mp nd).2 (by simpa using aa) (by simpa using ab) ah
def start(N:List Str)(vs:List V):St:=vs.map some++aad (N.length-vs.length) none
def kv(fg:ku)(P:Program)(w:World)(K:PySem.W.Frag)(mg:Str->Option Value)(base:Heap)(N:List Str)(qual:Str)(scope:Scope)(f:Addr)(cd:Value)(A:Around)(outer:List Env)(s:Shared)(H:ao)(E:fB):aM where
 prog:=P
 w:=w
 K:=K
 mg:=mg
 base:=base
 A:=A.deeper (envOfC qual scope s.heap.objs.size f cd)
 N:=N
 s₀:=s
 H₀:=H
 env:=envOfC qual scope s.heap.objs.size f cd
 outer:=outer
 stack:=envOfC qual scope s.heap.objs.size f cd::outer
 ex:=[]
 calm:=true
 fn:=fun _=>true
 pn:=[]
 xe:=fun e s'=>wpAny (model P w) (A.deeper (envOfC qual scope s.heap.objs.size f cd)) (leaving (envOfC qual scope s.heap.objs.size f cd) e) (fun _ zi=>fg outer H s E e zi) (fun aT zi=>fg outer H s E aT zi) s'
theorem DJ{sc:Scope}{n:Nat}{x:Str}(h:sc.names.lookup x=some .cell):∃c,(cellsFrom n sc.names []).lookup x=some c:=by
 have q:=PySem.W.cellsFrom_some sc.names n [] (.inl h);exact adn.mp q
theorem Ls{fg:ku}{P:Program}{w:World}{K:PySem.W.Frag}{mg:Str->Option Value}{base:Heap}{N ps:List Str}{qual:Str}{scope:Scope}{f:Addr}{cd:Value}{A:Around}{outer:List Env}{s s1:Shared}{H:ao}{E:fB}{us:List Value}{vs:List V}(S:cG N ps scope)(hd:A.handled=none)(ea:uV P w K mg base A outer s H)(aj:vs.length=ps.length)(r:Vals vs us)(x:InCallC s s.heap.objs.size (bindL (envOfC qual scope s.heap.objs.size f cd).kindOf (ps.zip us) fun _=>none) (cellsFrom (s.heap.objs.size+1) scope.names []) (bindC (envOfC qual scope s.heap.objs.size f cd).kindOf (ps.zip us) fun _=>none) s1):
  Inv (kv fg P w K mg base N qual scope f cd A outer s H E) [] (start N vs) H s1:=by
 have eK:ps.length<=N.length:=by have:=congrArg aam S.pre;rw[aa0]at this;omega
 obtain⟨aa,iP,rfl,ah⟩:=x.done;have rT:∀b:Addr,b∉(kv fg P w K mg base N qual scope f cd A outer s H E).ex:=fun b z=>absurd (show b∈([]:List Addr)from z) (by simp)
 refine⟨⟨ea.mod,S.kind,rfl,rfl,Zg _,fun y z c aa ab=>?_,fun y a5=>?_,fun y c _ h=>?_,fun _=>hd,Around.frames_deeper ea.frames,.inr ⟨rfl,rfl⟩,fun b z=>absurd z (rT b),ea.bs,ea.bsz,fun b _ _=>rT b,fun b z=>absurd z (rT b),ea.funs,ea.frf⟩,
  rfl,ea.bare,ft.kept ah,⟨_,x.toInCall.ns,fun i y v aa ab aL=>?_⟩,fun y c h=>⟨_,x.cell y c h⟩,ea.hok.fresh (Zg _),fun y c h=>?_,fun p ag=>absurd (show p∈([]:List (Addr×Obj))from ag) (by simp),ea.hok.kept ah,?_⟩
 ·exact name_of_addr x.apart (abu aa) (abu ab)
 ·have a5:scope.names.lookup y=some .cell∨scope.names.lookup y=some .free:=a5;rcases a5 with a5|a5
  ·exact DJ a5
  ·exact absurd rfl (S.nofree _ (abu a5))
 ·exact acF (x.above y c (abu h))
 ·have aD:i<vs.length:=by
   unfold start at ab;by_cases aD:i<vs.length
   ·exact aD
   ·rw[aaJ (by simpa using aD)]at ab;rw[abk]at ab;split at ab<;>cases ab
  have ax:vs[i]?=some v:=by
   unfold start at ab;rw[aaM (by simpa using aD),aag]at ab;cases e:vs[i]? with
   | none=>rw[e]at ab;cases ab
   | some a=>rw[e]at ab;cases ab;rfl
  obtain⟨u,bA,b3⟩:=r.get ax
  have ag:ps[i]?=some y:=by
   rw[<-S.pre,List.getElem?_take_of_lt (by omega)];exact aa
  have DK:ps.Nodup:=by rw[<-S.pre];exact S.nd.sublist (List.take_sublist _ _)
  refine⟨u,b3,?_⟩;rcases S.par y (aaD ag)with k|k
  ·exact .inl ⟨k,DH DK ag bA k⟩
  ·obtain⟨c,e⟩:=DJ (n:=s.heap.objs.size+1) k;refine .inr ⟨.inl k,c,e,?_⟩;have q:=x.cell y c e;rw[DI DK ag bA (by show scope.names.lookup y≠_;rw[k];decide)]at q;exact q
 ·exact ea.hok.fresh (acF (x.above y c (abu h)))
 ·unfold start;show _=N.length
  rw[ZM,Zf,aa9];omega
theorem Lu{fg:ku}{P:Program}{w:World}{K:PySem.W.Frag}{mg:Str->Option Value}{base:Heap}{k:Nat}{f:Addr}{name qual:Str}{params:Arguments}{body:List Stmt}{scope:Scope}{uX kV doc pm cdv ct oc:Value}{an od:Option Addr}{osl:Array (Option Value)}{N ps:List Str}{sp:gN}(lk:K.lookup f=some ⟨oc,od,.func (PySem.W.fnOf name qual params body scope uX kV doc pm an cdv ct),osl⟩)(dB:PySem.W.codeIn K cdv qual=true)(S:cG N ps scope)(len:∀vs H Q E,sp vs H Q E->vs.length=ps.length)(jg:∀(A:Around) (outer:List Env) (s:Shared) (H:ao) (vs:List V) (Q:cN) (E:fB),eC k (A.deeper (envOfC qual scope s.heap.objs.size f cdv))->sp vs H Q E->∃t,h4 (kv fg P w K mg base N qual scope f cdv A outer s H E) body t/\t { nx:=fun _ H'=>Q .non H',rt:=Q } (start N vs) H):
  iS P w K mg base fg (k+1) f (PySem.W.fnOf name qual params body scope uX kV doc pm an cdv ct) ps sp:=by
 refine⟨len,fun A outer s H args us vs Q E ak ea af r qd=>?_⟩;have aj:=len _ _ _ _ qd;have nh:K.In s.heap:=ea.mod.kin.keeps fun b o e=>(ea.bs b o e).1;have lim:s.heap.NoLimit:=ea.mod.nolimit.keeps fun b o e=>(ea.bs b o e).1
 have Lv:∀y∈ps.zip us,scope.names.lookup y.1=some .local∨(scope.names.lookup y.1=some .cell/\((cellsFrom (s.heap.objs.size+1) scope.names []).lookup y.1).isSome=true):=fun⟨n,v⟩ a5=>by
  rcases S.par n (acJ a5).1 with q|q
  ·exact .inl q
  ·exact .inr ⟨q,PySem.W.cellsFrom_some _ _ _ (.inl q)⟩
 refine codeAny_call_function ak.depth (nh _ _ lk) rfl S.co S.gen rfl (PySem.W.codeRec_of nh dB) (af _ _ _ _ ?_);refine wpAny_newFunctionEnv_cells S.kind Lv fun env he s1 x=>?_;subst he;refine⟨lim.keeps x.toInCall.keep,codeAny_func ?_⟩;obtain⟨t,bB,ay⟩:=jg A outer s H vs Q E (ak.deeper _) qd;have I:Inv (kv fg P w K mg base N qual scope f cdv A outer s H E) [] (start N vs) H s1:=Ls S ak.hd ea aj r x;refine wpAny_mono (bB [] s1 (start N vs) H _ I ay) (fun lB s' aq=>?_) fun e s' aq=>aq
 have fin:∀{a6:St}{H':ao}{v:V}{u:Value},Inv (kv fg P w K mg base N qual scope f cdv A outer s H E) [] a6 H' s'->RelV v u->Q v H'->zh outer P w H s Q u s' :=
  fun{a6 H' v u} J b3 q=>⟨v,H',J.os,J.bare,J.base,J.hok,b3,q⟩
 cases lB with
 | ret u =>
  obtain⟨v,a6,H',J,b3,q⟩:=aq;exact fin J b3 q
 | next =>
  obtain⟨a6,H',J,q⟩:=aq;exact fin (v:=V.non) (u:=Value.none) J rfl q
 | brk =>
  obtain⟨_,_,_,q⟩:=aq;exact aaZ q
 | cont =>
  obtain⟨_,_,_,q⟩:=aq;exact aaZ q
section
variable{X:aM}{x:Str}{p pos:Pos}{e:Expr}{es:List Expr}{t:eX}{id T:String}{r:List V->ao->cN->Prop}
def zj(r:List V->ao->cN->Prop)(t:eX):TE:=fun σ H Q=>t σ H fun vs H1=>r vs H1 Q
theorem oN(hc:mj X (.builtin id) r)(aC:eB X x)(hm:X.mg x=none)(aP:bootBuiltins x=some (.builtin id))(ax:hq X (e::es) t)(aN:x≠"__name__":=by decide)(g0:(x==("__debug__":Str))=false:=by decide)(he:starEach (e::es) X.env=(false,eval e X.env)::starEach es X.env:=by rfl)(eK:(backTo pos (starEach es X.env)).any (·.1)=false:=by rfl):b2 X (.Call (.Name x p) (e::es) [] pos) (zj r t):=by
 intro pins s σ H Q I h;refine wpAny_Call_Name_kw (p6 I aC hm aP ?_ aN g0);exact PyProof.Rows.callWith_builtin1 (cq (ax pos pins s σ H _ I h) fun us s1 ⟨vs,H1,bg,ar,a4⟩=>hc pins s1 σ H1 vs us Q bg ar a4) he eK
theorem DL(hc:mj X (.type T) r)(aC:eB X x)(hm:X.mg x=none)(aP:bootBuiltins x=some (.type T))(ax:hq X (e::es) t)(aN:x≠"__name__":=by decide)(g0:(x==("__debug__":Str))=false:=by decide)(he:starEach (e::es) X.env=(false,eval e X.env)::starEach es X.env:=by rfl)(eK:(backTo pos (starEach es X.env)).any (·.1)=false:=by rfl):b2 X (.Call (.Name x p) (e::es) [] pos) (zj r t):=by
 intro pins s σ H Q I h;refine wpAny_Call_Name_kw (p6 I aC hm aP ?_ aN g0);exact ab' (cq (ax pos pins s σ H _ I h) fun us s1 ⟨vs,H1,bg,ar,a4⟩=>hc pins s1 σ H1 vs us Q bg ar a4) he eK
end
end L2
namespace HT
open PySem PyProof.Rows
section
open PySem.SeqAt
open PySem.AutoSeq1 (wpAny_loadPart')
open PySem.MeetsSeq PySem.MeetsSeq2 PySem.MeetsSeq3
end
section
variable{prog:Program}{w:World}{A:Around}{E:Value->Shared->Prop}{s:Shared}
def sIx(n d:Nat):Option Int->Nat
 | none=>d
 | some v=>if v<0 then(v+(n:Int)).toNat else min v.toNat n
end
end HT
namespace L2
open PySem PySem.Spec PyProof.Rows
abbrev qe:=St->ao->(Option Int->ao->Prop)->Prop
def rU(X:aM)(e:Option Expr)(t:qe):Prop :=
 ∀(pins:List (Addr×Obj))(s:Shared)(σ:St)(H:ao)(Q:Option Int->ao->Prop),Inv X pins σ H s->t σ H Q ->
  wpAny (model X.prog X.w) X.A (evalPart e X.env) (fun u s'=>∃o H',Inv X pins σ H' s'/\IsPart u o/\Q o H') X.xe s
def Lw:qe:=fun _ H Q=>Q none H
def Lx(t:TE):qe:=fun σ H Q=>t σ H fun x H1=>∃i,x=.int i/\Q (some i) H1
theorem intsAre_of{ns:List Int}:∀{us:List Value},Vals (ns.map V.int) us->IntsAre us ns:=by
 induction ns with
 | nil=>intro us r;rw[aa']at r;cases r;exact .nil
 | cons n ns c3 =>
  intro us r;rw[aaa]at r;cases r with
  | cons ar aF =>
   obtain⟨t,e⟩:=ar;subst e;exact .cons n t (c3 aF)
section
variable{X:aM}{e:Expr}{cC:TE}{lo aD:Option Expr}{gM uY:qe}{pos c5:Pos}
theorem Ly:rU X none Lw:=by
 intro pins s σ H Q I h;rw[evalPart_none];exact wpAny_pure ⟨none,H,I,.none,h⟩
theorem Lz(h:b2 X e cC):rU X (some e) (Lx cC):=by
 intro pins s σ H Q I hw;rw[evalPart_some];refine cq (h pins s σ H _ I hw) fun u s1 ⟨x,H1,bg,ar,a4⟩=>?_;obtain⟨i,rfl,q⟩:=a4;obtain⟨t,rfl⟩:=ar;exact⟨some i,H1,bg,.int i t,q⟩
def DM(X:aM)(r:V->Option Int->Option Int->ao->cN->Prop):Prop :=
 ∀(pins:List (Addr×Obj))(s:Shared)(σ:St)(H:ao)(x:V)(v jO ni:Value)(lo aD:Option Int)(sl:Addr)(Q:cN),Inv X pins σ H s->RelV x v->s.heap.IsSliceOf sl jO ni .none->IsPart jO lo->IsPart ni aD->r x lo aD H Q ->
  ∃T id,typeLookup (.type T) "__getitem__"=pure (some (.builtin id))/\s.TypeIs v T/\wpAny (model X.prog X.w) X.A (getItem v (.ref sl)) (gY X pins σ Q) X.xe s
def LA(r:V->Option Int->Option Int->ao->cN->Prop)(cC:TE)(gM uY:qe):TE:=fun σ H Q=>cC σ H fun x H1=>gM σ H1 fun l a3=>uY σ a3 fun u cU=>r x l u cU Q
theorem LB{r:V->Option Int->Option Int->ao->cN->Prop}(ak:DM X r)(he:b2 X e cC)(aj:rU X lo gM)(bA:rU X aD uY):b2 X (.Subscript e (.Slice lo aD none c5) pos) (LA r cC gM uY):=by
 intro pins s σ H Q I h;refine Subscript_ (cq (he pins s σ H _ I h) fun v s1 ⟨x,H1,bg,ar,a4⟩=>?_);refine wpAny_Slice (cq (aj pins s1 σ H1 _ bg a4) fun jO s2 ⟨l,a3,d9,c0,bS⟩=>cq (bA pins s2 σ a3 _ d9 bS) fun ni s3 ⟨u,cU,dd,pu,fC⟩=>?_);rw[evalPart_none];refine wpAny_pure ?_;have m9:Inv X pins σ cU { s3 with heap:=s3.heap.push { cls:=.type "slice",data:=.fields #[jO,ni,.none] } }:=dd.kept (t':=s3.toks) fun b cK q=>Heap.get?_push_of_some _ q;obtain⟨T,id,eb,bB,aC⟩:=ak pins { s3 with heap:=s3.heap.push { cls:=.type "slice",data:=.fields #[jO,ni,.none] } } σ cU x v jO ni l u s3.heap.objs.size Q m9 ar (Heap.IsSliceOf.new ..) c0 pu fC;show wpAny (model X.prog X.w) X.A (subscriptTail e (.Slice lo aD none c5) v (.ref s3.heap.objs.size)) (gY X pins σ Q) X.xe { s3 with heap:=s3.heap.push { cls:=.type "slice",data:=.fields #[jO,ni,.none] } }
 exact tail_any (ops:=[.ref s3.heap.objs.size,v]) bB eb aC (by with_unfolding_all rfl)
def uZ(xs:List V)(lo aD:Option Int):List V:=(xs.drop (HT.sIx xs.length 0 lo)).take (HT.sIx xs.length xs.length aD-HT.sIx xs.length 0 lo)
theorem LC(xs:List V)(lo aD:Option Int):(uZ xs lo aD).length<=xs.length:=by
 unfold uZ;rw[aa0,abv];omega
end
def ixN(n:Nat)(i:Int):Option Nat:=if 0<=i then(if i<n then some i.toNat else none)else if -(n:Int)<=i then some (i+n).toNat else none
def dE{α:Type}(xs:List α)(i:Int):Option α:=(ixN xs.length i).bind fun j=>xs[j]?
theorem DN{n:Nat}{i:Int}{j:Nat}(h:ixN n i=some j):seqIndex? i n=some j/\j<n /\ -(n:Int)<=i/\i<n:=by
 unfold ixN at h;by_cases h0:0<=i
 ·rw[if_pos h0]at h;by_cases aa:i<n
  ·rw[if_pos aa]at h;have e:i.toNat=j:=aab h;exact⟨by rw[seqIndex_of h0 aa,e],by omega,by omega,aa⟩
  ·rw[if_neg aa]at h;cases h
 ·rw[if_neg h0]at h;by_cases aa : -(n:Int)<=i
  ·rw[if_pos aa]at h;have e:(i+n).toNat=j:=aab h;exact⟨by rw[seqIndex_neg (by omega) aa,e],by omega,aa,by omega⟩
  ·rw[if_neg aa]at h;cases h
theorem DO{α:Type}{xs:List α}{i:Int}{v:α}(h:dE xs i=some v):∃j,seqIndex? i xs.length=some j/\xs[j]?=some v/\j<xs.length /\ -(xs.length:Int)<=i/\i<xs.length:=by
 unfold dE at h;cases e:ixN xs.length i with
 | none=>rw[e]at h;cases h
 | some j =>
  rw[e]at h;obtain⟨aa,ab,aL,bo⟩:=DN e;exact⟨j,aa,h,ab,aL,bo⟩
theorem atI_last{α:Type}(xs:List α)(v:α):dE (xs++[v]) (-1)=some v:=by
 have aj:(xs++[v]).length=xs.length+1:=by simp
 have e:ixN (xs++[v]).length (-1)=some xs.length:=by
  unfold ixN;rw[aj,if_neg (by decide),if_pos (by omega)];congr 1;omega
 unfold dE;rw[e];show(xs++[v])[xs.length]?=some v
 simp
def qf(b:Expr):Prop:=∀o i,subscripted b false o i=operate [o,i] (getItem o i)
def qg(X:aM)(r:e6):Prop :=
 ∀(value slice:Expr)(pins:List (Addr×Obj))(s:Shared)(σ:St)(H:ao)(x y:V)(v u:Value)(Q:cN),Inv X pins σ H s->RelV x v->RelV y u->r x y H Q ->
  subscripted slice false v u=operate [v,u] (getItem v u)->wpAny (model X.prog X.w) X.A (subscriptTail value slice v u) (gY X pins σ Q) X.xe s
def DP(X:aM)(id:String)(r:V->List V->ao->cN->Prop):Prop :=
 ∀(pins:List (Addr×Obj))(s:Shared)(σ:St)(H:ao)(x:V)(xs:List V)(v:Value)(us:List Value)(Q:cN),Inv X pins σ H s->RelV x v->Vals xs us->r x xs H Q ->
  wpAny (model X.prog X.w) X.A (call (.builtin id) (v::us)) (gY X pins σ Q) X.xe s
section
variable{X:aM}{a b:Expr}{bV tb:TE}{pos:Pos}
theorem jP{r:e6}(ak:qg X r)(ax:b2 X a bV)(af:b2 X b tb)(aq:qf b):b2 X (.Subscript a b pos) (ml r bV tb):=by
 intro pins s σ H Q I h;exact Subscript_ (y9 ax af I h fun v u s2 x y a3 d9 bc cx q=>ak a b pins s2 σ a3 x y v u Q d9 bc cx q (aq _ _))
def LD(K:PySem.W.Frag):e6:=fun x y H Q=>∃p xs i v,x=.ref p/\y=.int i/\cw K H p xs/\dE xs i=some v/\Q v H
def LF(K:PySem.W.Frag):e6:=fun x y H Q=>∃p xs i v,x=.ref p/\y=.int i/\eu K H p xs/\dE xs i=some v/\Q v H
theorem zk:qg X (LD X.K):=by
 intro value slice pins s σ H x y v u Q I bc cx h aq;obtain⟨p,xs,i,z,rfl,rfl,ay,he,q⟩:=h;cases bc;obtain⟨t,rfl⟩:=cx;obtain⟨its,r,c0,a'⟩:=I.list ay;obtain⟨j,aa,ab,aL,bo,de⟩:=DO he;obtain⟨w,iT,mh⟩:=r.get ab;have aj:=r.length;have aN:=rP;have fin:gY X pins σ Q w s:=⟨z,H,I,mh,q⟩;by_cases h0:0<=i
 ·have bP:i.toNat=j:=by
   rw[seqIndex_of h0 de]at aa;exact aab aa
  exact item_listR c0.isList h0 (by omega) (by rw[bP];simpa using iT) fin aq
 ·have bP:(i+(its.toArray.size:Int)).toNat=j:=by
   rw[seqIndex_neg (by omega) bo]at aa;rw[aaf,<-aj];exact aab aa
  exact subscriptTail_builtinR (x:=w) c0.isList.typeIs slot_list_getitem.lookup
   (wpAny_getItem_list_neg (Q:=fun r s'=>r=w/\gY X pins σ Q r s') c0.isList (by omega) (by rw[aaf]<;>omega) (by omega) (by rw[bP];simpa using iT) ⟨rfl,fin⟩) aq
theorem DQ:qg X (LF X.K):=by
 intro value slice pins s σ H x y v u Q I bc cx h aq;obtain⟨p,xs,i,z,rfl,rfl,ay,he,q⟩:=h;cases bc;obtain⟨t,rfl⟩:=cx;obtain⟨its,r,c0,a'⟩:=I.tuple ay;obtain⟨j,aa,ab,aL,bo,de⟩:=DO he;obtain⟨w,iT,mh⟩:=r.get ab;have aj:=r.length;have aN:=rP;have fin:gY X pins σ Q w s:=⟨z,H,I,mh,q⟩
 exact subscriptTail_builtinR (x:=w) c0.typeIs slot_tuple_getitem.lookup
  (getItem_tuple (j:=j) (Q:=fun r s'=>r=w/\gY X pins σ Q r s') c0 (by omega) (by omega) (by rw[aaf,<-aj];exact aa) (by simpa using iT) ⟨rfl,fin⟩) aq
theorem LG(its:List Value)(n j:Nat)(u:Value):Obj.mapSeq (·.setIfInBounds j u) { cls:=.type "list",data:=.seq its.toArray n }={ cls:=.type "list",data:=.seq (its.set j u).toArray n }:=by
 simp[Obj.mapSeq]
theorem Inv.lst{pins:List (Addr×Obj)}{σ:St}{H:ao}{s:Shared}{p:Addr}{xs:List V}(I:Inv X pins σ H s)(h:H p=some (.lst xs)):
  ∃(its:List Value)(n:Nat),Vals xs its/\s.heap.get? p=some { cls:=.type "list",data:=.seq its.toArray n }/\xs.length<=sizeLine:=by
 obtain⟨z,its,n,r,e⟩:=I.hok p _ h;exact⟨its,n,r,e,z⟩
theorem Inv.lstUpd{pins:List (Addr×Obj)}{σ:St}{H:ao}{s:Shared}{p:Addr}{xs ys:List V}{its its':List Value}{n n':Nat}{f:Obj->Obj}(I:Inv X pins σ H s)(h:H p=some (.lst xs))(aE:s.heap.get? p=some { cls:=.type "list",data:=.seq its.toArray n })(hf:f { cls:=.type "list",data:=.seq its.toArray n }={ cls:=.type "list",data:=.seq its'.toArray n' })(r:Vals ys its')(a':ys.length<=sizeLine)(t:Nat):
  Inv X pins σ (upd H p (.lst ys)) { s with heap:=s.heap.update p f,toks:=t }:=by
 have e:(s.heap.update p f).get? p=some { cls:=.type "list",data:=.seq its'.toArray n' }:=by
  rw[Heap.get?_update_self f aE (by rw[hf]<;>rfl),hf]
 refine I.write (x:=p) (e:=p) (by rw[h];trivial) (.inl rfl) (fun b u af q=>(Heap.get?_update_other _ _ (aaB af)).trans q) ⟨_,e⟩ ?_;exact⟨a',its',n',r,e⟩
def LH:V->V->V->ao->(ao->Prop)->Prop:=fun o i v H Q=>∃p xs k j,o=.ref p/\i=.int k/\H p=some (.lst xs)/\ixN xs.length k=some j/\Q (upd H p (.lst (xs.set j v)))
theorem set_list:Dq X LH:=by
 intro pins s σ H o i v ko hH u Q I LI LJ b3 h;obtain⟨p,xs,k,j,rfl,rfl,ag,bP,q⟩:=h;cases LI;obtain⟨t,rfl⟩:=LJ;obtain⟨its,n,r,aE,a'⟩:=I.lst ag;obtain⟨aa,ab,aL,bo⟩:=DN bP;have aj:=r.length;have aN:=rP
 have m7:Inv X pins σ (upd H p (.lst (xs.set j v))) { s with heap:=s.heap.update p (Obj.mapSeq (·.setIfInBounds j u)) }:=
  I.lstUpd ag aE (LG its n j u) (r.set b3 j) (by rw[aba];exact a') s.toks
 by_cases h0:0<=k
 ·have ah:k.toNat=j:=by
   rw[seqIndex_of h0 bo]at aa;exact aab aa
  exact PySem.W.ki_setAt aE h0 (by omega) (by rw[aaf,<-aj];exact bo) (by rw[ah];exact⟨_,m7,q⟩)
 ·have ah:(k+(its.toArray.size:Int)).toNat=j:=by
   rw[seqIndex_neg (by omega) aL]at aa;rw[aaf,<-aj];exact aab aa
  exact PySem.W.ki_setBack aE (by omega) (by rw[aaf,<-aj];exact aL) (by omega) (by rw[ah];exact⟨_,m7,q⟩)
theorem LK(lo aD:Option Int)(n:Nat):(sliceBounds lo aD none n).1=((HT.sIx n 0 lo:Nat):Int)/\(sliceBounds lo aD none n).2.1=((HT.sIx n n aD:Nat):Int)/\(sliceBounds lo aD none n).2.2=1:=by
 refine⟨?_,?_,rfl⟩
 ·cases lo with
  | none=>simp[sliceBounds,HT.sIx]
  | some i =>
   simp only[sliceBounds,HT.sIx,acb,show(1:Int)>0 by decide,if_true];by_cases h:i<0
   ·simp only[h,if_true]<;>omega
   ·simp only[h,if_false]<;>omega
 ·cases aD with
  | none=>simp[sliceBounds,HT.sIx]
  | some i =>
   simp only[sliceBounds,HT.sIx,acb,show(1:Int)>0 by decide,if_true];by_cases h:i<0
   ·simp only[h,if_true]<;>omega
   ·simp only[h,if_false]<;>omega
theorem LL(its:List Value)(lo aD:Option Int):slicePick its.toArray lo aD none=((its.drop (HT.sIx its.length 0 lo)).take (HT.sIx its.length its.length aD-HT.sIx its.length 0 lo)).toArray:=by
 obtain⟨aa,ab,aL⟩:=LK lo aD its.toArray.size;unfold slicePick;rw[aa,ab,aL];simp only[sliceRange_one,pick_run,aaf]<;>rfl
def LM(K:PySem.W.Frag):V->Option Int->Option Int->ao->cN->Prop:=fun x lo aD H Q=>∃a xs,x=.ref a/\cw K H a xs/\∀p,H p=none->Q (.ref p) (upd H p (.lst (uZ xs lo aD)))
theorem LN:DM X (LM X.K):=by
 intro pins s σ H x v jO ni lo aD sl Q I bc aq c0 pu h;obtain⟨a,xs,rfl,aB,q⟩:=h;cases bc;obtain⟨its,r,bB,a'⟩:=I.list aB;have hlen:=r.length;refine⟨"list",_,slot_list_getitem.lookup,bB.isList.typeIs,?_⟩;refine wpAny_getItem_list_slice bB.isList aq c0 pu .none (by simp) ?_ (by rw[aaf]<;>omega);rw[LL,<-hlen];refine⟨.ref s.heap.objs.size,_,I.laid (t':=s.toks) (o:=.lst (uZ xs lo aD)) (fun b cK q=>Heap.get?_push_of_some _ q) (Zg _) ?_,rfl,q _ (I.hok.fresh (Zg _))⟩;exact⟨Gq (LC xs lo aD) a',_,0,(r.drop (HT.sIx xs.length 0 lo)).take (HT.sIx xs.length xs.length aD-HT.sIx xs.length 0 lo),Heap.get?_push_size _ rfl⟩
theorem zl:mj X (.builtin "len") (fun xs H Q=>∃p ys,xs=[.ref p]/\(cw X.K H p ys∨eu X.K H p ys)/\Q (.int ys.length) H):=by
 intro pins s σ H xs us Q I r h;obtain⟨p,ys,rfl,ay,q⟩:=h;obtain⟨u,rfl,bc⟩:=vals1 r;cases bc;have aN:=rP;rcases ay with ay|ay
 ·obtain⟨its,du,c0,a'⟩:=I.list ay;have hlen:=du.length;exact Calls.call_len_list c0.isList (by simp only[aaf]<;>omega) ⟨.int ys.length,H,I.tok _,⟨s.toks+1,by rw[aaf,hlen]⟩,q⟩
 ·obtain⟨its,du,c0,a'⟩:=I.tuple ay;have hlen:=du.length;exact len_tuple c0 (by simp only[aaf]<;>omega) ⟨.int ys.length,H,I.tok _,⟨s.toks+1,by rw[aaf,hlen]⟩,q⟩
theorem LO:mj X (.type "list") (fun xs H Q=>∃p ys,xs=[.ref p]/\(cw X.K H p ys∨eu X.K H p ys)/\∀l,H l=none->Q (.ref l) (upd H l (.lst ys))):=by
 intro pins s σ H xs us Q I r h;obtain⟨p,ys,rfl,ay,q⟩:=h;obtain⟨u,rfl,bc⟩:=vals1 r;cases bc
 have fin:∀(its:List Value),Vals ys its->ys.length<=sizeLine->∀(h':Heap)(d0:Nat),(∀b eA,s.heap.get? b=some eA->h'.get? b=some eA) ->
   h'.get? s.heap.objs.size=some { cls:=.type "list",dict:=none,data:=.seq its.toArray d0,slots :=#[] }->gY X pins σ Q (.ref s.heap.objs.size) { s with heap:=h' }:=fun its du a' h' d0 kp e =>
  ⟨.ref s.heap.objs.size,_,I.laid (t':=s.toks) kp (Zg _) (show fL X.prog X.w _ h' _ (.lst ys)from⟨a',its,d0,du,e⟩),rfl,q _ (I.hok.fresh (Zg _))⟩
 rcases ay with ay|ay
 ·obtain⟨its,du,c0,a'⟩:=I.list ay;have hlen:=du.length;obtain⟨o,aE,hc,n,hd⟩:=c0.isList;exact call_list_seq p (.inl rfl) aE hc hd (fun h' d0 kp e=>fin its du a' h' d0 kp e) (by simp only[aaf]<;>omega)
 ·obtain⟨its,du,c0,a'⟩:=I.tuple ay;have hlen:=du.length;obtain⟨o,aE,hc,n,hd⟩:=c0;exact call_list_seq p (.inr rfl) aE hc hd (fun h' d0 kp e=>fin its du a' h' d0 kp e) (by simp only[aaf]<;>omega)
def zm(K:PySem.W.Frag)(T:String)(x:V)(H:ao):Prop:=match x with
 | .str _=>T="str"
 | .int _=>T="int"
 | .ref p=>(T="list"/\∃xs,cw K H p xs)∨(T="tuple"/\∃o,K.lookup p=some o/\o.cls=.type "tuple"/\o.dict=none) ∨
   (T="dict"/\((∃kvs,H p=some (.dK kvs))∨∃kvs,H p=some (.dT kvs)))∨(T="set"/\∃S n,H p=some (.set S n))
 | _=>False
theorem DR{pins:List (Addr×Obj)}{σ:St}{H:ao}{s:Shared}{T:String}{x:V}{v:Value}(I:Inv X pins σ H s)(r:RelV x v)(ty:zm X.K T x H):
  s.TypeIs v T/\∀a,v=.ref a->∃cK,s.heap.get? a=some cK/\cK.dict=none:=by
 cases x with
 | str z =>
  obtain⟨t,rfl⟩:=r;cases(show T="str" from ty);exact⟨typeIs_str s z t,fun _ e=>nomatch e⟩
 | int i =>
  obtain⟨t,rfl⟩:=r;cases(show T="int" from ty);exact⟨typeIs_int s i t,fun _ e=>nomatch e⟩
 | ref p =>
  cases r;rcases ty with⟨rfl,xs,ay⟩|⟨rfl,o,ah,hc,hd⟩|⟨rfl,ah⟩|⟨rfl,S,n,ah⟩
  ·obtain⟨its,_,c0,_⟩:=I.list ay;refine⟨c0.isList.typeIs,fun a e=>?_⟩;cases e;obtain⟨o,n,e,c,hd,_⟩:=c0;exact⟨o,e,hd⟩
  ·refine⟨⟨o,I.kIn p o ah,hc⟩,fun a e=>?_⟩;cases e;exact⟨o,I.kIn _ o ah,hd⟩
  ·have z:∃o,s.heap.get? p=some o/\o.ExactDict:=by
    rcases ah with⟨kvs,ah⟩|⟨kvs,ah⟩
    ·obtain⟨_,_,_,_,o,_,_,e,ex,_⟩:=I.hok p _ ah;exact⟨o,e,ex⟩
    ·obtain⟨_,_,_,_,o,_,_,e,ex,_⟩:=I.hok p _ ah;exact⟨o,e,ex⟩
   obtain⟨o,e,ex⟩:=z;refine⟨⟨o,e,ex.1⟩,fun a av=>?_⟩;cases av;exact⟨o,e,ex.2.1⟩
  ·obtain⟨o,_,_,_,e,ex,_⟩:=I.hok p _ ah;refine⟨⟨o,e,ex.1⟩,fun a av=>?_⟩;cases av;exact⟨o,e,ex.2.1⟩
 | _=>exact aaZ ty
def LP(K:PySem.W.Frag)(T:String)(r:V->List V->ao->cN->Prop)(to:TE):TE:=fun σ H Q=>to σ H fun x H1=>zm K T x H1/\r x [] H1 Q
def LQ(K:PySem.W.Frag)(T:String)(r:V->List V->ao->cN->Prop)(to:TE)(t:eX):TE:=fun σ H Q=>to σ H fun x H1=>zm K T x H1/\t σ H1 fun xs a3=>r x xs a3 Q
variable{o e:Expr}{es:List Expr}{to:TE}{t:eX}{name:Str}{apos cW:Pos}{T id:String}{r:V->List V->ao->cN->Prop}
theorem DS(pa:PlainAttrs T)(slot:Slot T name id)(zo:typeOf (.builtin id)=pure (.type "method_descriptor"))(hm:DP X id r)(aE:b2 X o to)(ip:attributeBase o name X.env (eval o X.env)=eval o X.env:=by rfl)(iq:(apos.endLine==cW.line)=true:=by rfl):b2 X (.Call (.Attribute o name apos) [] [] cW) (LP X.K T r to):=by
 intro pins s σ H Q I h;refine wpAny_Call_method0_late ip iq (cq (aE pins s σ H _ I h) fun v s1 ⟨x,H1,bg,ar,ty,a4⟩=>?_);obtain⟨aa,ab⟩:=DR bg ar ty;exact⟨T,id,pa,slot,zo,aa,ab,Calls.callWith_builtin rfl (PySem.evalArgs_none (hm pins s1 σ H1 x [] v [] Q bg ar .nil a4))⟩
theorem u0(pa:PlainAttrs T)(slot:Slot T name id)(zo:typeOf (.builtin id)=pure (.type "method_descriptor"))(hm:DP X id r)(aE:b2 X o to)(ax:hq X (e::es) t)(ip:attributeBase o name X.env (eval o X.env)=eval o X.env:=by rfl)(kx:((backTo cW (starEach (e::es) X.env)).all (fun x => !x.1)&&(backToKw cW (keywordEach [] X.env)).all (fun x=>x.1.isSome)
   && decide ((e::es).length+([]:List Keyword).length+(if([]:List Keyword).isEmpty then 0 else 1)<30))=true:=by rfl)(iq:(apos.endLine==cW.line)=true:=by rfl)(aq:starEach (e::es) X.env=(false,eval e X.env)::starEach es X.env:=by rfl)(oO:(backTo cW (starEach es X.env)).any (·.1)=false:=by rfl):
  b2 X (.Call (.Attribute o name apos) (e::es) [] cW) (LQ X.K T r to t):=by
 intro pins s σ H Q I h;refine wpAny_Call_method_late ip kx iq rfl (cq (aE pins s σ H _ I h) fun v s1 ⟨x,H1,bg,ar,ty,a4⟩=>?_);obtain⟨aa,ab⟩:=DR bg ar ty;refine⟨T,id,pa,slot,zo,aa,ab,?_⟩;have hr:=ax cW pins s1 σ H1 _ bg a4;rw[aq]at hr ⊢;refine Calls.callWith_builtin (by show(false||(backTo cW (starEach es X.env)).any (·.1))=false;rw[oO]<;>rfl) (Calls.evalArgs_plain ?_);exact cq hr fun us s2 ⟨vs,a3,d9,aF,bS⟩=>hm pins s2 σ a3 x vs v us Q d9 ar aF bS
end
def qh(X:aM)(id:String)(r:V->List V->ao->cN->Prop):Prop :=
 ∀(pins:List (Addr×Obj))(s:Shared)(σ:St)(H:ao)(x:V)(xs:List V)(v:Value)(us:List Value)(Q:cN),Inv X pins σ H s->RelV x v->Vals xs us->r x xs H Q ->
  wpAny (model X.prog X.w) X.A (call (.builtin id) (v::us)) (gY X pins σ Q) X.xe s
theorem Vals.one:∀{x:V}{us:List Value},Vals [x] us->∃u,us=[u]/\RelV x u
 | _,_,.cons r .nil=>⟨_,rfl,r⟩
theorem Vals.zero:∀{us:List Value},Vals [] us->us=[]
 | _,.nil=>rfl
theorem Vals.dropLast{xs:List V}{us:List Value}(h:Vals xs us):Vals xs.dropLast us.dropLast:=by
 induction h with
 | nil=>exact .nil
 | cons r t c3 =>
  cases t with
  | nil=>exact .nil
  | cons q t'=>exact .cons r c3
theorem Vals.eraseIdx:∀{xs:List V}{us:List Value}(i:Nat),Vals xs us->Vals (xs.eraseIdx i) (us.eraseIdx i)
 | _,_,_,.nil=>.nil
 | _,_,0,.cons _ t=>t
 | _,_,i+1,.cons r t=>.cons r (Vals.eraseIdx i t)
theorem LR{α:Type}(l:List α):l.eraseIdx (l.length-1)=l.dropLast:=by
 induction l with
 | nil=>rfl
 | cons a r c3 =>
  cases r with
  | nil=>rfl
  | cons b r =>
   have e:(a::b::r).length-1=((b::r).length-1)+1:=by
    have aa:(a::b::r).length=r.length+2:=rfl;have ab:(b::r).length=r.length+1:=rfl;omega
   rw[e,ado,c3]
   all_goals rfl
theorem zp{α:Type}:∀(l:List α)(i:Nat),(l.eraseIdx i).length<=l.length
 | [],_=>Zg _
 | _::_,0=>abE _
 | _::r,i+1=>Nat.succ_le_succ (zp r i)
section
variable{X:aM}{pins:List (Addr×Obj)}{σ:St}{H:ao}{s:Shared}{l b:Addr}{xs ys zs:List V}
theorem Inv.lset{its its':List Value}{n:Nat}{f:Array Value->Array Value}{t':Nat}(I:Inv X pins σ H s)(dm:H l=some (.lst xs))(e:s.heap.get? l=some { cls:=.type "list",data:=.seq its.toArray n })(hf:f its.toArray=its'.toArray)(aP:Vals ys its')(a':ys.length<=sizeLine):
  Inv X pins σ (upd H l (.lst ys)) { s with heap:=s.heap.update l (Obj.mapSeq f),toks:=t' }:=by
 have q:=PySem.IsL.update e f;rw[hf]at q;refine I.write (x:=l) (e:=l) (by rw[dm];exact trivial) (.inl rfl) (fun b' u af bA=>(Heap.get?_update_other s.heap (Obj.mapSeq f) (aaB af)).trans bA) ⟨_,q⟩ ?_;exact⟨a',its',_,aP,q⟩
theorem Inv.lnew{its:List Value}{t':Nat}(I:Inv X pins σ H s)(aP:Vals ys its)(a':ys.length<=sizeLine):
  Inv X pins σ (upd H s.heap.objs.size (.lst ys)) { s with heap:=s.heap.push { cls:=.type "list",data:=.seq its.toArray },toks:=t' }:=
 I.laid (fun _ _ q=>Heap.get?_push_of_some _ q) (Zg _) ⟨a',its,0,aP,Heap.get?_push_size _ rfl⟩
theorem Inv.fresh(I:Inv X pins σ H s):H s.heap.objs.size=none:=I.hok.fresh (Zg _)
theorem Inv.lstM(I:Inv X pins σ H s)(dm:H l=some (.lst xs)):xs.length<=sizeLine/\∃(its:List Value)(n:Nat),Vals xs its/\xs.length=its.length/\s.heap.get? l=some { cls:=.type "list",data:=.seq its.toArray n }:=by
 obtain⟨z,its,n,r,e⟩:=I.hok l _ dm;exact⟨z,its,n,r,r.length,e⟩
theorem DT{n:Nat}(h:n<=sizeLine):Builtin.List.listTooLong n=false:=by
 unfold Builtin.List.listTooLong;exact decide_eq_false (by omega)
end
section
variable{X:aM}
def LS:V->List V->ao->cN->Prop:=fun x vs H Q=>∃l xs y,x=.ref l/\vs=[y]/\H l=some (.lst xs)/\xs.length<sizeLine/\Q .non (upd H l (.lst (xs++[y])))
theorem DU:qh X "list.append" LS:=by
 intro pins s σ H x vs v us Q I bc b3 h;obtain⟨l,xs,y,rfl,rfl,dm,a',q⟩:=h;cases bc;obtain⟨u,rfl,hL⟩:=b3.one;obtain⟨z,its,n,r,aj,e⟩:=I.lstM dm;refine call_meets F.slot_list_append ⟨_,e,rfl⟩ F.entry_list_append (F.args_list_append_2 _ _) (PySem.list_append l its.toArray n u (by rw[aaf];omega)) ⟨e,?_⟩;refine⟨.non,_,I.lset (its':=its++[u]) dm e (by simp) (r.append (.cons hL .nil)) ?_,rfl,q⟩;rw[ZM,aaQ];omega
def LU:V->List V->ao->cN->Prop:=fun x vs H Q=>∃l b xs zs,x=.ref l/\vs=[.ref b]/\H l=some (.lst xs)/\H b=some (.lst zs)/\xs.length+zs.length<=sizeLine/\Q .non (upd H l (.lst (xs++zs)))
theorem LV:qh X "list.extend" LU:=by
 intro pins s σ H x vs v us Q I bc b3 h;obtain⟨l,b,xs,zs,rfl,rfl,dm,eD,a',q⟩:=h;cases bc;obtain⟨u,rfl,hL⟩:=b3.one;cases hL;obtain⟨z,its,n,r,aj,e⟩:=I.lstM dm;obtain⟨aQ,fV,dn,aF,u1,av⟩:=I.lstM eD;have jQ:its.toArray.size+fV.toArray.size<=sizeLine:=by rw[aaf,aaf];omega
 have zq:¬(!its.toArray.isEmpty&&Builtin.List.listTooLong (its.toArray.size+fV.toArray.size))=true:=by
  rw[DT jQ,Bool.and_false];exact aal
 refine call_meets F.slot_list_extend ⟨_,e,rfl⟩ F.entry_list_extend (F.args_list_extend_2 _ _)
  (AutoSeq1.list_extend_list_list_0 l its.toArray n b fV.toArray dn zq (by rw[aaf];omega) (by omega)) ⟨e,av,?_⟩
 refine⟨.non,_,I.lset (its':=its++fV) dm e (by simp) (r.append aF) ?_,rfl,q⟩;rw[ZM];omega
def LW:V->List V->ao->cN->Prop:=fun x vs H Q=>∃l xs y,x=.ref l/\vs=[]/\H l=some (.lst xs)/\xs[xs.length-1]?=some y/\Q y (upd H l (.lst xs.dropLast))
theorem LX:qh X "list.pop" LW:=by
 intro pins s σ H x vs v us Q I bc b3 h;obtain⟨l,xs,y,rfl,rfl,dm,a5,q⟩:=h;cases bc;have zr:=b3.zero;subst zr;obtain⟨z,its,n,r,aj,e⟩:=I.lstM dm;obtain⟨u,bA,hL⟩:=r.get a5
 have nj:its.toArray[its.toArray.size-1]?=some u:=by
  show its.toArray[its.length-1]?=some u
  rw[<-acK,<-aj];exact bA
 refine call_meets F.slot_list_pop ⟨_,e,rfl⟩ F.entry_list_pop (F.args_list_pop_1 _) (MeetsSeq.list_pop_last l its.toArray n u nj (by rw[aaf];omega)) ⟨e,?_⟩;refine⟨y,_,I.lset (its':=its.dropLast) dm e ?_ r.dropLast ?_,hL,q⟩
 ·show its.toArray.eraseIdxIfInBounds (its.toArray.size-1)=its.dropLast.toArray
  rw[aaf,adp,LR]
 ·rw[List.length_dropLast];omega
def LY:V->List V->ao->cN->Prop:=fun x vs H Q=>∃l xs i k y,x=.ref l/\vs=[.int i]/\H l=some (.lst xs) /\ -(2^63)<=i/\i<2^63/\seqIndex? i xs.length=some k/\xs[k]?=some y/\Q y (upd H l (.lst (xs.eraseIdx k)))
theorem LZ:qh X "list.pop" LY:=by
 intro pins s σ H x vs v us Q I bc b3 h;obtain⟨l,xs,i,k,y,rfl,rfl,dm,aa,ab,ah,a5,q⟩:=h;cases bc;obtain⟨u,rfl,hL⟩:=b3.one;obtain⟨t,rfl⟩:=hL;obtain⟨z,its,n,r,aj,e⟩:=I.lstM dm;obtain⟨w,hw,mh⟩:=r.get a5
 refine call_meets F.slot_list_pop ⟨_,e,rfl⟩ F.entry_list_pop (F.args_list_pop_2 _ _)
  (MeetsSeq.list_pop_at l its.toArray n i t k w (fitsIndex_both aa ab) (by rw[aaf,<-aj];exact ah) (by rw[<-acK];exact hw) (by rw[aaf];omega)) ⟨e,?_⟩
 refine⟨y,_,I.lset (its':=its.eraseIdx k) dm e ?_ (r.eraseIdx k) ?_,mh,q⟩
 ·show its.toArray.eraseIdxIfInBounds k=(its.eraseIdx k).toArray
  rw[adp]
 ·have:=zp xs k;omega
def L0:V->List V->ao->cN->Prop:=fun x vs H Q=>∃l xs,x=.ref l/\vs=[]/\H l=some (.lst xs)/\Q .non (upd H l (.lst []))
theorem L1:qh X "list.clear" L0:=by
 intro pins s σ H x vs v us Q I bc b3 h;obtain⟨l,xs,rfl,rfl,dm,q⟩:=h;cases bc;have zr:=b3.zero;subst zr;obtain⟨z,its,n,r,aj,e⟩:=I.lstM dm;refine call_meets F.slot_list_clear ⟨_,e,rfl⟩ F.entry_list_clear (F.args_list_clear_1 _) (AutoSeq1.list_clear_list_0 l its.toArray n (by rw[aaf];omega)) ⟨e,?_⟩;exact⟨.non,_,I.lset (its':=[]) (ys:=[]) dm e rfl .nil (aaE _),rfl,q⟩
def L4:e6:=fun x y H Q=>∃l b xs zs,x=.ref l/\y=.ref b/\H l=some (.lst xs)/\H b=some (.lst zs)/\xs.length+zs.length<=sizeLine/\∀p,H p=none->Q (.ref p) (upd H p (.lst (xs++zs)))
theorem L5:fO X (binaryOp .Add) L4:=by
 intro pins s σ H x y v u Q I bc cx h;obtain⟨l,b,xs,zs,rfl,rfl,dm,eD,a',q⟩:=h;cases bc;cases cx;obtain⟨z,its,n,r,aj,e⟩:=I.lstM dm;obtain⟨aQ,fV,dn,aF,u1,av⟩:=I.lstM eD;refine PySem.P.add_list e av ?_ (by rw[aaf,aaf];omega);have dq:its.toArray++fV.toArray=(its++fV).toArray:=by simp
 rw[dq];exact⟨.ref _,_,I.lnew (t':=s.toks) (r.append aF) (by rw[ZM];omega),rfl,q _ I.fresh⟩
end
section
variable{prog:Program}{w:World}{A:Around}{E:Value->Shared->Prop}{s:Shared}
set_option maxRecDepth 100000 in
end
end L2
namespace Att
open PySem PySem.W PySem.Calls PyProof.Rows
theorem L6{P:Params}{h:Heap}:∀(ns:List Int)(vs:List Value),WellAll P h vs (ns.map WData.int)->IntsAre vs ns:=by
 intro ns;induction ns with
 | nil =>
  intro vs w;rw[aa']at w;cases w;exact .nil
 | cons n ns c3 =>
  intro vs w;rw[aaa]at w;cases w with
  | cons a b =>
   cases a;exact .cons _ _ (c3 _ b)
theorem L7{l:OpenLaw}{n:Nat}(aN:l.most=some n){P:Params}{h:Heap}{args:List WData}{vals:List Value}(mn:l.row.toRowW.claim.pre args=true)(zt:WellAll P h vals args):
  ∃a vs ns,vals=[Value.ref a]/\args=[WData.list (ns.map WData.int)]/\h.get? a=some { cls:=.type "list",data:=.seq vs.toArray }/\IntsAre vs ns/\ns.length<=n:=by
 have hsh:WShape.hasAll [] args [.list .int]=true:=(pre_splitW mn).1;have hc:l.pre.holds [] { args:=args }=true:=(pre_splitW mn).2;obtain⟨d,r,rfl,aa,ab⟩:=hasAllW_cons hsh;obtain rfl:=hasAllW_nil ab;obtain⟨xs,rfl,aL⟩:=hasW_list aa;obtain⟨ns,rfl⟩:=items_int aL
 have hlen:ns.length<=n:=by
  unfold OpenLaw.pre at hc
  have bo:(WTm.not (.lt (.lit (.int (n:Int))) (.len (.arg 0)))).holds [] { args:=[.list (ns.map .int)] }=true:=by
   have bo:=(holds_andW hc).1;rw[aN]at bo;exact bo
  have de:=condW_of bo (w_not (w_lt w_lit (w_len_list (w_arg rfl))));rw[Zf]at de;refine Nat.le_of_not_lt fun q=>?_;have hF:(n:Int)<((ns.length:Nat):Int):=by omega
  first
   | (rw[decide_eq_true hF]at de;exact absurd de (by decide))
   | (simp at de;omega)
 cases zt with
 | cons w1 cZ =>
  cases cZ;cases w1 with
  | list aE qi=>exact⟨_,_,ns,rfl,rfl,aE,L6 ns _ qi,hlen⟩
theorem L8(l:OpenLaw)(args:List WData):l.row.toRowW.claim.post args (.bool true) args=true :=
 postW_of (r:=l.row.toRowW) (X:=(true==true))
  (show WShape.has [] (.bool true) .bool=true by first|rfl|decide|simp[WShape.has,WShape.arms,WShape.armsAll])
  (show(WTm.eq .res (.lit (.bool true))).value [] { args:=args,res:=some (.bool true),after:=args }=some (.bool (true==true))from w_eq_bool (w_res rfl) w_lit) rfl
theorem attach_call{l:OpenLaw}{n:Nat}{q:Program}{loose:List Str}{XP:(Str->Option Value)->Heap->Prop}{YP:World->Heap->Prop}{d:DefRec}(aN:l.most=some n)(zu:d.params.defaults=[])(call:∀(w:World) (s₀ dN:Shared) (mg gB:Str->Option Value) (gE:Addr) (o:Obj) (pm cd doc:Value) (a:Addr) (vs:List Value) (ns:List Int),Ground q loose [] XP w s₀ mg gB dN.heap->YP w dN.heap->dN.heap.get? gE=some o->o.data=.func (docDef d.name d.params d.body d.scope pm cd doc)->dN.heap.CodeRec cd d.name->mg d.name=some (.ref gE)->dN.heap.get? a=some { cls:=.type "list",data:=.seq vs.toArray }->IntsAre vs ns->ns.length<=n->dN.gens = #[]->codeAny (model l.prog w) callerA (.call (.ref gE) ⟨[.ref a],[]⟩) (fun r s'=>r=.ok (.ret (.bool true))/\OldK dN.heap s'.heap/\s'.os=dN.os/\AllBare s'.gens) dN):
  WalkO q loose XP YP l.row.toRowW d [] (fun f vs=>PySem.call f vs):=by
 intro w s₀ dN mg gB G Y gE o pm cd doc uX kV aE hd dB gO rV aC args vals as mn Zi Zj zt Zk;obtain rfl:uX=.none:=Dflts.none gO zu;obtain rfl:kV=.none:=Dflts.noKw gO;obtain⟨a,vs,ns,rfl,rfl,zv,hints,hlen⟩:=L7 aN mn zt;refine enter_call (codeAny_mono (call w s₀ dN mg gB gE o pm cd doc a vs ns G Y aE (fd_plain hd) dB rV zv hints hlen aC) fun r s' ay=>?_);obtain⟨rfl,ab,aL,bo⟩:=ay;exact⟨.inl ⟨.bool true,.bool true,[],rfl,fun _=>rfl,.bool true,L8 l _,fun _=>⟨List.Pairwise.nil,fun _ hm=>(nomatch hm)⟩⟩,ab,aL,bo⟩
end Att
namespace L2
open PySem PySem.Spec PyProof.Rows
theorem zw:∀{vs:List Value}{ns:List Int},IntsAre vs ns->Vals (ns.map V.int) vs
 | _,_,.nil=>.nil
 | _,_,.cons n t h=>.cons ⟨t,rfl⟩ (zw h)
def DV(H:ao):Prop:=∀b,H b=none∨∃o xs,H b=some (.frz o (.lst xs))
theorem L9{P:Program}{w:World}{K:PySem.W.Frag}{mg gB:Str->Option Value}{fg:ku}{k:Nat}{gE a:Addr}{fd:FuncData}{x:Str}{sp:gN}{dN:Shared}{vs:List Value}{ns:List Int}(nh:K.In dN.heap)(nk:dN.heap.Ns mainGlobals mg)(af:dN.heap.Ns builtinsNs gB)(u2:∀x:Str,x≠"__name__"->gB x=bootBuiltins x)(L':dN.heap.NoLimit)(aC:dN.gens = #[])(ax:dN.heap.get? a=some { cls:=.type "list",data:=.seq vs.toArray })(aD:IntsAre vs ns)(aj:ns.length<=sizeLine)(ak:eC k callerA)(F:∀base:Heap,K.In base->base.Ns mainGlobals mg->iS P w K mg base fg k gE fd [x] sp)(Ma:∀(s:Shared) (u:Value),BindsTo s fd ⟨[u],[]⟩ [(x,u)])(qd:∀H:ao,DV H->cw K H a (ns.map V.int)->sp [.ref a] H (fun v _=>v=.bl true) fun _ _ _=>False)(Mb:∀H e s',fg [] H dN (fun _ _ _=>False) e s'->False):
  codeAny (model P w) callerA (.call (.ref gE) ⟨[.ref a],[]⟩) (fun r s'=>r=.ok (.ret (.bool true))/\OldK dN.heap s'.heap/\s'.os=dN.os/\AllBare s'.gens) dN:=by
 have b3:=zw aD;have Mc:=aD.length
 have core:∀H:ao,DV H->cw K H a (ns.map V.int)->eo P w H dN.heap->(∀b,H b≠none->b=a)->(H a≠none->K.lookup a=none) ->
   codeAny (model P w) callerA (.call (.ref gE) ⟨[.ref a],[]⟩) (fun r s'=>r=.ok (.ret (.bool true))/\OldK dN.heap s'.heap/\s'.os=dN.os/\AllBare s'.gens) dN:=by
  intro H zx c7 hok hr e5;have DW:∀{b:Addr}{o:Obj},dN.heap.get? b=some o->H b=none->(ma dN.heap H).get? b=some o:=fun e n=>J0 e n
  have rT:∀{b:Addr}{o:Obj}{es:Array DictEntry}{bq:Nat},dN.heap.get? b=some o->o.data=.dict es bq->H b=none:=fun{b o es bq} e d=>by
   cases q:H b with
   | none=>rfl
   | some u =>
    have aT:b=a:=hr b (by rw[q];simp);subst aT;rw[ax]at e;cases e;have d':Data.seq vs.toArray _=Data.dict es bq:=d;cases d'
  have u3:∀{b:Addr}{m:Str->Option Value},dN.heap.Ns b m->(ma dN.heap H).Ns b m:=fun{b m} ⟨o,es,bq,e,d,r⟩=>⟨o,es,bq,DW e (rT e d),d,r⟩
  have DX:K.In (ma dN.heap H):=fun b o e=>DW (nh b o e) (by
   cases q:H b with
   | none=>rfl
   | some u =>
    have aT:b=a:=hr b (by rw[q];simp);subst aT
    rw[e5 (by rw[q];simp)]at e;cases e)
  have gP:Mod K mg (ma dN.heap H):=⟨DX,u3 nk,⟨gB,u3 af,u2⟩,let⟨oP,aa,ab⟩:=L';⟨oP,u3 aa,ab⟩⟩;have ea:uV P w K mg (ma dN.heap H) callerA [] dN H:=⟨rfl,gP,fun b o e=>J1 e,Nat.le_of_eq (JZ _ _),trivial,fun b af=>absurd (show b∈([]:List Addr)from af) (by simp),hok,.of_eq aC⟩;refine codeAny_mono ((F _ DX (u3 nk)).run callerA [] dN H ⟨[.ref a],[]⟩ [.ref a] [.ref a] _ _ ak ea (Ma dN (.ref a)) (.cons rfl .nil) (qd H zx c7)) fun r s' h=>?_;cases r with
  | error e=>exact(Mb H e s' h).elim
  | ok lB =>
   cases lB with
   | next=>exact aaZ h
   | brk=>exact aaZ h
   | cont=>exact aaZ h
   | ret u =>
    obtain⟨v,H',os,bare,un,Md,du,q⟩:=h;have hF:v=.bl true:=q;subst hF;obtain rfl:u=Value.bool true:=du;refine⟨rfl,OldK.of_keep fun b o e=>?_,os,bare⟩;cases q:H b with
    | none=>exact un.keep b o e q (by intro z;exact absurd (show b∈([]:List Addr)from z) (by simp)) (by simp)
    | some u =>
     rcases zx b with z|⟨cK,xs,z⟩
     ·rw[q]at z;cases z
     ·have aQ:=un.frzs b cK _ z;obtain⟨ai,_⟩:=hok b _ z;obtain⟨av,_⟩:=Md b _ aQ;rw[e]at ai;cases ai;exact av
 cases ah:K.lookup a with
 | some o =>
  have e:=nh a o ah;rw[ax]at e;cases e;refine core (fun _=>none) (fun _=>.inl rfl) (.inr ⟨_,vs.toArray,_,ah,rfl,rfl,rfl,by rw[aaf,Mc];exact aj,by simpa using b3⟩) (fun b u z=>by have er:(none:Option eV)=some u:=z;cases er) (fun b z=>absurd rfl z) fun z=>absurd rfl z
 | none =>
  refine core (fun b=>if b=a then some (.frz { cls:=.type "list",data:=.seq vs.toArray } (.lst (ns.map V.int)))else none) (fun b=>?_) (.inl (.inr ⟨{ cls:=.type "list",data:=.seq vs.toArray },if_pos rfl⟩)) (fun b u z=>?_) (fun b z=>?_) fun _=>ah
  ·by_cases af:b=a
   ·exact .inr ⟨_,_,if_pos af⟩
   ·exact .inl (if_neg af)
  ·by_cases af:b=a
   ·have er:=(if_pos af).symm.trans z;cases er;subst af;exact⟨ax,by rw[Zf];exact aj,vs,_,b3,ax⟩
   ·have er:=(if_neg af).symm.trans z;cases er
  ·by_cases af:b=a
   ·exact af
   ·exact absurd (if_neg af) z
def rW(s:Stmt):Arguments:=match s with
 | .FunctionDef _ a _ _ _ _ _ _ _ _=>a
 | _=>{ posonlyargs:=[],args:=[],vararg:=none,kwonlyargs:=[],kw_defaults:=[],kwarg:=none,defaults:=[] }
def ky(s:Stmt):List Stmt:=match s with
 | .FunctionDef _ _ b _ _ _ _ _ _ _=>b
 | _=>[]
def b0(s:Stmt):Scope:=match s with
 | .FunctionDef _ _ _ _ _ _ sc _ _ _=>sc
 | _=>{ kind:=.function,names:=[],isGenerator:=false,isCoroutine:=false }
abbrev jh:ku:=fun _ _ _ _ _ _=>False
abbrev oQ:fB:=fun _ _ _=>False
theorem DY{X:aM}:Passes jh X oQ:=fun _ _ _ _ _ _ _ h=>h.elim
structure lC (K:PySem.W.Frag) (x qual:Str) (st:Stmt) (f:Addr) (fd:FuncData):Prop where
 ex:∃(oc:Value)(od:Option Addr)(kV doc pm:Value)(an:Option Addr)(cdv ct:Value)(osl:Array (Option Value)),
  fd=PySem.W.fnOf x qual (rW st) (ky st) (b0 st) .none kV doc pm an cdv ct/\K.lookup f=some ⟨oc,od,.func fd,osl⟩/\PySem.W.codeIn K cdv qual=true
 kp:PySem.W.keepIn K (.ref f)=true
section
variable{P:Program}{w:World}{K:PySem.W.Frag}{mg:Str->Option Value}{base:Heap}
theorem lC.ok{x qual:Str}{st:Stmt}{f:Addr}{fd:FuncData}{N ps:List Str}{k:Nat}{sp:gN}(F:lC K x qual st f fd)(S:cG N ps (b0 st))(len:∀vs H Q E,sp vs H Q E->vs.length=ps.length)(jg:∀(cdv:Value) (A:Around) (outer:List Env) (s:Shared) (H:ao) (vs:List V) (Q:cN) (E:fB),eC k (A.deeper (envOfC qual (b0 st) s.heap.objs.size f cdv))->sp vs H Q E->∃t,h4 (kv jh P w K mg base N qual (b0 st) f cdv A outer s H E).nox (ky st) t/\t { nx:=fun _ H'=>Q .non H',rt:=Q } (start N vs) H):iS P w K mg base jh (k+1) f fd ps sp:=by
 obtain⟨oc,od,kV,doc,pm,an,cdv,ct,osl,rfl,lk,dB⟩:=F.ex;refine Lu lk dB S len fun A outer s H vs Q E ak qd=>?_;obtain⟨t,h,q⟩:=jg cdv A outer s H vs Q E ak qd;exact⟨t,h.nox,q⟩
theorem lC.binds{x qual:Str}{st:Stmt}{f:Addr}{fd:FuncData}{ps:List Str}(F:lC K x qual st f fd)(h:∀(kV doc pm:Value) (an:Option Addr) (cdv ct:Value) (us:List Value),us.length=ps.length->bindArgs (PySem.W.fnOf x qual (rW st) (ky st) (b0 st) .none kV doc pm an cdv ct) ⟨us,[]⟩=pure (ps.zip us)):Binds K fd ps []:=by
 obtain⟨oc,od,kV,doc,pm,an,cdv,ct,osl,rfl,lk,dB⟩:=F.ex;exact .all (h kV doc pm an cdv ct)
theorem Me{x qual:Str}{st:Stmt}{f:Addr}{oc:Value}{od an:Option Addr}{osl:Array (Option Value)}{kV doc pm cdv ct:Value}(l:K.lookup f=some ⟨oc,od,.func (PySem.W.fnOf x qual (rW st) (ky st) (b0 st) .none kV doc pm an cdv ct),osl⟩)(c:PySem.W.codeIn K cdv qual=true)(k:PySem.W.keepIn K (.ref f)=true):lC K x qual st f (PySem.W.fnOf x qual (rW st) (ky st) (b0 st) .none kV doc pm an cdv ct):=⟨⟨oc,od,kV,doc,pm,an,cdv,ct,osl,rfl,l,c⟩,k⟩
end
section
variable{X:aM}
theorem gf(i:Nat){x:Str}{pos:Pos}(bD:X.N[i]?=some x:=by rfl)(aP:gb X.env.scope x:=by first|exact Sz rfl|exact ZN (Sz rfl)|exact ZN (ZN rfl))(hd:(x==("__debug__":Str))=false:=by decide)(dB:(x==("__classdict__":Str))=false:=by decide):b2 X (.Name x pos) (yW i):=hG bD aP hd dB
end
theorem gg{A B:Prop}(h:B):if false=true then A else B:=by
 rw[if_neg aal];exact h
theorem Mf{A B:Prop}(h:A):if true=true then A else B:=by
 rw[if_pos rfl];exact h
def cp(H H':ao):Prop:=∀b o,H b=some o->H' b=some o
theorem cp.refl(H:ao):cp H H:=fun _ _ h=>h
theorem cp.trans{H H1 a3:ao}(a:cp H H1)(b:cp H1 a3):cp H a3:=fun c o h=>b c o (a c o h)
theorem cp.free{H H':ao}(e:cp H H'){l:Addr}(h:H' l=Option.none):H l=Option.none:=by
 cases q:H l with
 | none=>rfl
 | some o =>
  rw[e l o q]at h;cases h
theorem cp.seq{K:PySem.W.Frag}{H H':ao}{a:Addr}{xs:List V}(e:cp H H')(h:cw K H a xs):cw K H' a xs:=by
 rcases h with(h|⟨o,h⟩)|h
 ·exact .inl (.inl (e _ _ h))
 ·exact .inl (.inr ⟨o,e _ _ h⟩)
 ·exact .inr h
end L2
set_option maxHeartbeats 4000000
namespace L2
open PySem PySem.Spec PyProof.Rows
open PySem.Builtin.Int (intBits)
def zy(i j:Int):Prop:=intBits i<=9000/\intBits j<=9000
def qj(_ j:Int):Prop:=j≠0/\intBits j<=9000
theorem Mg{x y:Int}(h:intBits y<=9000):Builtin.divisionGoesByPylong x y=false:=by
 by_cases h0:y=0
 ·subst h0;exact PyProof.noPylong_small (by decide)
 ·refine PyProof.noPylong_of_log2 ?_;have q:=intBits_le_iff.mp h;have aN:y.natAbs≠0:=by omega
  exact(Nat.log2_lt aN).mpr q
section
variable{X:aM}{a b:Expr}{bV tb:TE}{pos:Pos}
theorem rX:fO X (binaryOp .Mult) (qa zy fun i j=>.int (i*j)):=uR fun _ _ _ _ _ _ _ hc q=>mul_int q (IntMulOk.of_le hc.1 hc.2 (by decide))
theorem u4:fO X (binaryOp .FloorDiv) (qa qj fun i j=>.int (i.fdiv j)):=uR fun _ _ _ _ _ _ _ hc q=>floordiv_int hc.1 q (.inl (Mg hc.2))
theorem h8:fO X (compareOp .Eq) (jN fun i j=>.bl (decide (i=j))):=qb fun _ _ _ _ _ _ _ q=>eq_int (by rw[adq];exact q)
theorem rY:fO X (compareOp .NotEq) (jN fun i j=>.bl (!decide (i=j))):=qb fun _ _ _ _ _ _ _ q=>ne_int (by rw[bne,adq];exact q)
def Mh(H:ao)(p:Addr)(xs:List V):Prop:=H p=some (.tup xs)∨H p=some (.lst xs)
def Mi:e6:=fun x y H Q=>∃p xs i v,x=.ref p/\y=.int i/\Mh H p xs/\dE xs i=some v/\Q v H
theorem mq:qg X Mi:=by
 intro value slice pins s σ H x y v u Q I bc cx h aq;obtain⟨p,xs,i,z,ai,av,ay,he,q⟩:=h;rcases ay with ay|ay
 ·exact DQ value slice pins s σ H x y v u Q I bc cx ⟨p,xs,i,z,ai,av,eu.of ay,he,q⟩ aq
 ·exact zk value slice pins s σ H x y v u Q I bc cx ⟨p,xs,i,z,ai,av,cw.of ay,he,q⟩ aq
theorem Mj:mj X (.builtin "isinstance") (fun xs H Q=>∃x t n b,xs=[x,.ty n]/\iR X.K H x t/\acI X.K t (.type n)=some b/\Q (.bl b) H):=by
 intro pins s σ H xs us Q I r h;obtain⟨x,t,n,b,rfl,ty,e,q⟩:=h;obtain⟨u,ly,rfl,ar,aF⟩:=vals2 r;cases aF;exact Ll I ar ty e fun iP=>⟨.bl b,H,I.tok _,rfl,q⟩
structure aI (P:Program) (w:World) (K:PySem.W.Frag) (mg:Str->Option Value) (base:Heap) (x:Str) (ps:List Str) (k:Nat) (sp:gN):Prop where
 ex:∃f fd,mg x=some (.ref f)/\PySem.W.keepIn K (.ref f)=true/\Binds K fd ps []/\iS P w K mg base jh k f fd ps sp
structure cD (K:PySem.W.Frag) (mg:Str->Option Value) (x:Str) (st:Stmt) (ps:List Str):Prop where
 ex:∃f fd,mg x=some (.ref f)/\lC K x x st f fd/\Binds K fd ps []
theorem aI.imp{P:Program}{w:World}{K:PySem.W.Frag}{mg:Str->Option Value}{base:Heap}{x:Str}{ps:List Str}{k:Nat}{sp rS:gN}(c:aI P w K mg base x ps k sp)(h:∀vs H Q E,rS vs H Q E->sp vs H Q E):aI P w K mg base x ps k rS:=by
 obtain⟨f,fd,m,kp,b,F⟩:=c.ex;exact⟨f,fd,m,kp,b,F.imp h⟩
theorem qk{x:Str}{ps:List Str}{j k:Nat}{sp:gN}{p:Pos}{e:Expr}{es:List Expr}{t:eX}(c:aI X.prog X.w X.K X.mg X.base x ps j sp)(ak:eC k X.A)(aC:eB X x)(ax:hq X (e::es) t)(gQ:j<=k:=by decide)(g0:(x==("__debug__":Str))=false:=by decide)(he:starEach (e::es) X.env=(false,eval e X.env)::starEach es X.env:=by rfl)(eK:(backTo pos (starEach es X.env)).any (·.1)=false:=by rfl):
  b2 X (.Call (.Name x p) (e::es) [] pos) (uW sp [] oQ t):=by
 obtain⟨f,fd,m,kp,b,F⟩:=c.ex;exact Lr F (ak.mono gQ) aC m kp b .nil DY ax g0 he eK
theorem cD.ok{P:Program}{w:World}{K:PySem.W.Frag}{mg:Str->Option Value}{base:Heap}{x:Str}{st:Stmt}{N ps:List Str}{k:Nat}{sp:gN}(F:cD K mg x st ps)(S:cG N ps (b0 st))(len:∀vs H Q E,sp vs H Q E->vs.length=ps.length)(jg:∀(f:Addr) (cdv:Value) (A:Around) (outer:List Env) (s:Shared) (H:ao) (vs:List V) (Q:cN) (E:fB),eC k (A.deeper (envOfC x (b0 st) s.heap.objs.size f cdv))->sp vs H Q E->∃t,h4 (kv jh P w K mg base N x (b0 st) f cdv A outer s H E).nox (ky st) t/\t { nx:=fun _ H'=>Q .non H',rt:=Q } (start N vs) H):aI P w K mg base x ps (k+1) sp:=by
 obtain⟨f,fd,m,DZ,b⟩:=F.ex;exact⟨f,fd,m,DZ.kp,b,DZ.ok S len (jg f)⟩
end
theorem fk{p:Prop}[Decidable p]{A B:Prop}(aa:p->A)(ab:¬p->B):if decide p=true then A else B:=by
 by_cases h:p
 ·rw[decide_eq_true h];exact aa h
 ·rw[decide_eq_false h];exact ab h
theorem Mk{p:Prop}[Decidable p]{A B:Prop}(aa:¬p->A)(ab:p->B):if(!decide p)=true then A else B:=by
 by_cases h:p
 ·rw[decide_eq_true h];exact ab h
 ·rw[decide_eq_false h];exact aa h
def Ext(b:Addr)(H H':ao):Prop:=∀a o,a≠b->H a=some o->H' a=some o
theorem Ext.trans{b:Addr}{H H1 a3:ao}(e:Ext b H H1)(f:Ext b H1 a3):Ext b H a3:=fun a o n h=>f a o n (e a o n h)
theorem Ext.upd(b:Addr)(H:ao)(o:eV):Ext b H (L2.upd H b o):=fun a u n h=>by rw[dz n];exact h
theorem u5{H:ao}{p:Addr}(h:H p=none)(o:eV):cp H (L2.upd H p o):=fun b u q=>by rw[dz (m5 q h)];exact q
end L2
namespace L2
open PySem PySem.Spec PyProof.Rows
theorem eo.but{P:Program}{w:World}{H:ao}{h h':Heap}{C:Addr}(x:eo P w H h)(n:H C=none)(k:∀b u,b≠C->h.get? b=some u->h'.get? b=some u):eo P w H h':=fun a o e =>
 (x a o e).stay (fun b u af q=>k b u (by rcases af with rfl|af;exact m5 e n;exact m5 af n) q) (fun _ q=>q) fun _ _ q=>q
theorem ft.but{fs ex:List Addr}{H H':ao}{h aa ab:Heap}{C:Addr}(u:ft fs ex H H' h aa)(u6:h.get? C=none)(k:∀b u,b≠C->aa.get? b=some u->ab.get? b=some u):ft fs ex H H' h ab where
 keep:=fun b o q n f e=>k b o (by rintro rfl;rw[u6]at q;cases q) (u.keep b o q n f e)
 slot:=fun b o q n f e=>by
  obtain⟨sl,z⟩:=u.slot b o q n f e;exact⟨sl,k b _ (by rintro rfl;rw[u6]at q;cases q) z⟩
 free:=u.free
 there:=fun b o q e=>by
  obtain⟨eA,z⟩:=u.there b o q e;exact⟨eA,k b _ (by rintro rfl;rw[u6]at q;cases q) z⟩
 tups:=u.tups
 frzs:=u.frzs
 tbls:=u.tbls
def dr(X:aM)(N:List Str)(scope:Scope)(cl:List (Str×Addr))(C:Addr)(s:Shared)(H:ao)(ex:List Addr):aM :=
 { X with N:=N,s₀:=s,H₀:=H,env:=compEnvC scope cl C X.env,outer:=X.stack,ex:=ex,fn:=fun _=>false,pn:=[],xe:=fun _ _=>False }
def hs(σ:St)(js:List Nat):St:=js.map fun j=>(σ[j]?).join
theorem Vals.getR:∀{xs:List V}{us:List Value}{i:Nat}{u:Value},Vals xs us->us[i]?=some u->∃x,xs[i]?=some x/\RelV x u
 | _,_,_,_,.nil,e=>by simp at e
 | _,_,0,_,.cons r _,e=>by simp at e;subst e;exact⟨_,rfl,r⟩
 | _,_,i+1,u,.cons _ t,e=>by
  obtain⟨x,aa,ab⟩:=Vals.getR (i:=i) (u:=u) t (by simpa using e);exact⟨x,by simpa using aa,ab⟩
section
variable{X:aM}
theorem Ml(hc:X.calm=true):mj X (.builtin "all") (fun xs H Q=>∃l ys,xs=[.ref l]/\H l=some (.lst ys)/\(∀y∈ys,y=.bl true)/\Q (.bl true) H):=by
 intro pins s σ H xs us Q I r h;obtain⟨l,ys,rfl,aj,bB,q⟩:=h;obtain⟨u,rfl,ar⟩:=vals1 r;cases ar;obtain⟨its,b3,c0,a'⟩:=I.list (cw.of aj);have zz:=c0.isList
 have cE:l<s.heap.objs.size:=by
  obtain⟨_,e,_⟩:=zz;exact Heap.lt_size e
 refine call_all_walk (wpAny_pyIter_list zz ⟨s.heap.objs.size,[s.heap.objs.size,l],[s.heap.objs.size],its.toArray.size,_,_,fun _=>true,rfl,Walks.list (A:=X.A.in1) (I.ok.hd hc) _ l (aat cE) its.toArray,?_,?_,?_⟩)
 ·exact⟨⟨_,Heap.get?_push_size _ rfl,rfl,rfl⟩,zz.push _⟩
 ·intro i v s' yV Zl gD gZ;obtain⟨y,fQ,cx⟩:=b3.getR (i:=i) (u:=v) (by simpa using gD);have e:=bB y (aaD fQ);subst e;cases cx;exact wpAny_truthy_bool gZ
 ·intro h' iP ah;have e:((aau its.toArray.size).all fun _=>true)=true:=by simp
  rw[e];refine⟨.bl true,H,I.kept (h':=h') (t':=iP) fun b o ew=>?_,rfl,q⟩;refine ah b o (fun hm=>?_) (Heap.get?_push_of_some _ ew);rw[aac.mp hm]at ew;exact aa7 _ (Heap.lt_size ew)
end
end L2
namespace Cut
open PySem
open PySem.Builtin.Int (intBits)
theorem lD{x:Int}(aa : -(2^64)<x)(ab:x<2^64):intBits x<=64:=intBits_le_64 aa ab
theorem d3{x t:Int}{n:Nat}(h:x.natAbs<=t.natAbs)(bB:intBits t<=n):intBits x<=n:=intBits_le_of_natAbs h bB
def aO(x y:Int):Prop:=0<y/\Ze x y=1
theorem D0{x y:Int}(aB:0<=x)(a5:0<y):Ze y (x%y)=Ze x y:=by
 obtain⟨m,rfl⟩:=ads aB;obtain⟨n,rfl⟩:=ads (aas a5);have e:((m:Int)%(n:Int))=((m%n:Nat):Int):=rfl;rw[e];show aav n (m%n)=aav m n
 rw[acL m n,Nat.gcd_rec n m,acL]
theorem D1(a b:Int):Ze (if a<0 then -a else a) (if b<0 then -b else b)=Ze a b:=by
 have e:∀z:Int,(if z<0 then -z else z).natAbs=z.natAbs:=fun z=>by split<;>omega
 unfold Ze;rw[e,e]
theorem gcd_zero_left{x:Int}(h:0<=x):((Ze x 0:Nat):Int)=x:=by
 rw[adt];omega
theorem nq{t b:Int}(af:b≠0):0<((Ze t b:Nat):Int):=by
 have:0<Ze t b:=acd t af;omega
theorem D2{t b g s:Int}(af:b≠0)(aC:g=(Ze t b:Nat))(aq:s=g/\0<b∨s = -g/\b<0):
  aO (t.fdiv s) (b.fdiv s)/\t.fdiv s*b=t*b.fdiv s/\(t.fdiv s).natAbs<=t.natAbs/\(b.fdiv s).natAbs<=b.natAbs:=by
 have gp:0<g:=by rw[aC];exact nq af
 have bL:g∣t:=by rw[aC];exact ace t b
 have b1:g∣b:=by rw[aC];exact abT t b
 have s1:s∣t:=by rcases aq with⟨h,_⟩|⟨h,_⟩<;>rw[h];exact bL;exact abF.mpr bL
 have s2:s∣b:=by rcases aq with⟨h,_⟩|⟨h,_⟩<;>rw[h];exact b1;exact abF.mpr b1
 have s0:s≠0:=by rcases aq with⟨h,_⟩|⟨h,_⟩<;>omega
 obtain⟨x,aB⟩:=s1;obtain⟨y,a5⟩:=s2;have ex:t.fdiv s=x:=by rw[aB];exact abG x s0
 have fQ:b.fdiv s=y:=by rw[a5];exact abG y s0
 have ai:(t.fdiv s).natAbs<=t.natAbs:=natAbs_fdiv_le t s;have av:(b.fdiv s).natAbs<=b.natAbs:=natAbs_fdiv_le b s;refine⟨⟨?_,?_⟩,?_,ai,av⟩
 ·rw[fQ];rcases aq with⟨h,ag⟩|⟨h,ag⟩
  ·rw[a5,h]at ag;exact abb ag gp
  ·rw[a5,h]at ag;have:0<g*y:=by rw[abH]at ag;omega
   exact abb this gp
 ·rw[ex,fQ]
  have q:Ze t b=s.natAbs*Ze x y:=by
   rw[aB,a5,acM]
  have sn:s.natAbs=g.toNat:=by rcases aq with⟨h,_⟩|⟨h,_⟩<;>omega
  have jR:g.toNat=Ze t b:=by omega
  rw[sn,jR]at q;have pos:0<Ze t b:=acd t af;have:Ze t b*Ze x y=Ze t b*1:=by omega
  exact acN pos this
 ·rw[ex,fQ];have:x*b=x*(s*y):=by rw[<-a5]
  have ab:t*y=s*x*y:=by rw[<-aB]
  rw[this,ab,<-abc,aak x s]
theorem mr{k n m:Int}(h:k∣n*m)(g:Ze k n=1):k∣m:=by
 have q:=Int.dvd_gcd_mul_iff_dvd_mul.mpr h;rw[g]at q;simpa using q
theorem zA{x y gF ey:Int}(h:aO x y)(h':aO gF ey)(e:x*ey=gF*y):x=gF/\y=ey:=by
 obtain⟨p,g⟩:=h;obtain⟨rJ,g'⟩:=h'
 have bL:y∣ey:=by
  have:y∣x*ey:=⟨gF,by rw[e,aak]⟩;exact mr this (by rw[aaR];exact g)
 have b1:ey∣y:=by
  have:ey∣gF*y:=⟨x,by rw[<-e,aak]⟩;exact mr this (by rw[aaR];exact g')
 have fQ:y=ey:=Int.dvd_antisymm (aas p) (aas rJ) bL b1;refine⟨?_,fQ⟩;rw[fQ]at e;exact aaN (by omega) e
end Cut
namespace Cut
def lE(x y z:Int):Prop:=0<z/\Ze (Ze x y:Nat) z=1
theorem u7(a b n:Int):Ze (Ze a n:Nat) b=aav (aav a.natAbs b.natAbs) n.natAbs:=by
 show aav (aav a.natAbs n.natAbs) b.natAbs=_
 rw[Nat.gcd_assoc,acL n.natAbs,<-Nat.gcd_assoc]
theorem zB(a b n:Int):Ze (Ze a b:Nat) n=aav (aav a.natAbs b.natAbs) n.natAbs:=rfl
theorem Mm(a b n:Int):Ze (Ze n a:Nat) b=Ze (Ze a n:Nat) b:=by
 rw[aaR n a]
theorem D3{a b n:Int}(aN:n≠0):0<((Ze (Ze a n:Nat) b:Nat):Int):=by
 rw[u7];have:0<aav (aav a.natAbs b.natAbs) n.natAbs:=Nat.gcd_pos_of_pos_right _ (by omega);omega
theorem D4(a b n:Int):((Ze (Ze a n:Nat) b:Nat):Int)∣a/\((Ze (Ze a n:Nat) b:Nat):Int)∣b/\((Ze (Ze a n:Nat) b:Nat):Int)∣n:=by
 rw[u7];have aa:=abU (aav a.natAbs b.natAbs) n.natAbs;have ab:=acf (aav a.natAbs b.natAbs) n.natAbs;refine⟨?_,?_,?_⟩
 ·exact abI.mpr (acg aa (abU _ _))
 ·exact abI.mpr (acg aa (acf _ _))
 ·exact abI.mpr ab
theorem D5{a b n g s:Int}(aN:n≠0)(aC:g=(Ze (Ze a n:Nat) b:Nat))(aq:s=g/\0<n∨s = -g/\n<0):
  lE (a.fdiv s) (b.fdiv s) (n.fdiv s)/\a.fdiv s*n=a*n.fdiv s/\b.fdiv s*n=b*n.fdiv s/\(a.fdiv s).natAbs<=a.natAbs/\(b.fdiv s).natAbs<=b.natAbs/\(n.fdiv s).natAbs<=n.natAbs:=by
 have gp:0<g:=by rw[aC];exact D3 aN
 obtain⟨bL,b1,g4⟩:=D4 a b n;rw[<-aC]at bL b1 g4;have s0:s≠0:=by rcases aq with⟨h,_⟩|⟨h,_⟩<;>omega
 have zC:∀z:Int,g∣z->s∣z:=fun z a'=>by
  rcases aq with⟨h,_⟩|⟨h,_⟩<;>rw[h]
  ·exact a'
  ·exact abF.mpr a'
 obtain⟨x,aB⟩:=zC a bL;obtain⟨y,a5⟩:=zC b b1;obtain⟨z,a'⟩:=zC n g4;have ex:a.fdiv s=x:=by rw[aB];exact abG x s0
 have fQ:b.fdiv s=y:=by rw[a5];exact abG y s0
 have hM:n.fdiv s=z:=by rw[a'];exact abG z s0
 refine⟨⟨?_,?_⟩,?_,?_,acO a s,acO b s,acO n s⟩
 ·rw[hM];rcases aq with⟨h,ag⟩|⟨h,ag⟩
  ·rw[a',h]at ag;exact abb ag gp
  ·rw[a',h]at ag;have:0<g*z:=by rw[abH]at ag;omega
   exact abb this gp
 ·rw[ex,fQ,hM,zB];rw[u7,aB,a5,a',aa1,aa1,aa1,ach,ach]at aC;have sn:s.natAbs=g.toNat:=by rcases aq with⟨h,_⟩|⟨h,_⟩<;>omega
  have pos:0<s.natAbs:=by omega
  have q:s.natAbs*aav (aav x.natAbs y.natAbs) z.natAbs=s.natAbs*1:=by omega
  exact acN pos q
 ·rw[ex,hM];have aa:x*n=x*(s*z):=by rw[<-a']
  have ab:a*z=s*x*z:=by rw[<-aB]
  rw[aa,ab,<-abc,aak x s]
 ·rw[fQ,hM];have aa:y*n=y*(s*z):=by rw[<-a']
  have ab:b*z=s*y*z:=by rw[<-a5]
  rw[aa,ab,<-abc,aak y s]
theorem zD{x y z gF ey er:Int}(g:Ze (Ze x y:Nat) z=1)(ai:x*er=gF*z)(av:y*er=ey*z):z∣er:=by
 have bL:z.natAbs∣x.natAbs*er.natAbs:=⟨gF.natAbs,by rw[<-aa1,ai,aa1,Nat.mul_comm]⟩;have b1:z.natAbs∣y.natAbs*er.natAbs:=⟨ey.natAbs,by rw[<-aa1,av,aa1,Nat.mul_comm]⟩;have g4:z.natAbs∣z.natAbs*er.natAbs:=⟨er.natAbs,rfl⟩;have q:=Nat.dvd_gcd (Nat.dvd_gcd bL b1) g4;rw[adu,adu]at q;rw[zB]at g;rw[g,Nat.one_mul]at q;exact abV.mp q
theorem u9{x y z gF ey er:Int}(h:lE x y z)(h':lE gF ey er)(ai:x*er=gF*z)(av:y*er=ey*z):x=gF/\y=ey/\z=er:=by
 have bL:=zD h.2 ai av;have b1:=zD h'.2 ai.symm av.symm;have hM:z=er:=Int.dvd_antisymm (aas h.1) (aas h'.1) bL b1;subst hM;have iU:z≠0:=Zh h.1;exact⟨aaN iU ai,aaN iU av,rfl⟩
theorem Mn{a b n:Int}{k:Nat}(aN:n≠0)(h:acP n<=k):acP ((Ze (Ze a n:Nat) b:Nat):Int)<=k:=by
 refine PySem.intBits_le_of_natAbs ?_ h;exact acQ (by omega) (abV.mpr (D4 a b n).2.2)
theorem zE{u v:Int}(bA:0<u)(aP:0<v):u*v≠0:=Zh (ZK bA aP)
theorem zF{x y z:Int}(h:lE x y z):lE (-x) (-y) z:=by
 refine⟨h.1,?_⟩;have g:=h.2;rw[zB]at g ⊢;rw[Int.natAbs_neg,Int.natAbs_neg];exact g
end Cut
namespace L3
open PySem L2
open PySem.Builtin.Int (intBits)
inductive D where
 | non|bl (b:Bool)|int (i:Int)|str (x:Str)|ty (n:String)|tup (xs:List D)|lst (xs:List D)|scr (ns:List Int)|ktup (xs:List D)|kfn (f:Addr)|dct (b:Bool) (ks:List (List (List Int))) (ds:List D)
inductive lF where
 | l (ds:List D)|d (b:Bool) (t:Option Addr) (ks:List (List (List Int))) (ds:List D)
instance:Coe (List D) lF:=⟨lF.l⟩
inductive kz where
 | ll (a:Addr) (as:List Addr) (hN:List (List D))|dl (b:Bool) (a:Addr) (ks:List (List (List Int))) (as:List Addr) (hN:List (List D))
def kz.adr:kz->Addr
 | .ll a _ _=>a
 | .dl _ a _ _ _=>a
def kz.ins:kz->List Addr
 | .ll _ as _=>as
 | .dl _ _ _ as _=>as
inductive aH where
 | no|val (d:D)|own (c:lF)|bag|new (d:D)|pin (v:V) (d:D)|deep (c:kz)
def nr(b:Bool)(k:List (List Int)):Int :=
 if b then reduceHash (Builtin.Tuple.tupleHashOf (k.map fun ks=>reduceHash (Builtin.Tuple.tupleHashOf (ks.map hashInt))))else reduceHash (Builtin.Tuple.tupleHashOf ((k.headD []).map hashInt))
def ir(b:Bool)(k:List (List Int)):D:=if b then .tup (k.map fun ks=>.tup (ks.map D.int))else .tup ((k.headD []).map D.int)
def ji(b:Bool):List (List (List Int))->List Addr->List Value->List DictEntry
 | k::ks,a::as,u::us=>⟨nr b k,.ref a,u⟩::ji b ks as us
 | _,_,_=>[]
def iV(b:Bool)(a:Addr)(bq:Nat)(ks:List (List (List Int)))(as:List Addr)(vs:List V):eV:=.ext fun h=>ks.length<=sizeLine/\as.length=ks.length/\vs.length=ks.length/\(a==sysModules)=false /\
 ∃us:List Value,Vals vs us/\∃o es,h.get? a=some o/\o.ExactDict/\o.data=.dict es bq/\es.toList=ji b ks as us/\ks.Nodup
mutual
inductive Rep (K:PySem.W.Frag) (B:ao):V->D->Prop where
 | non:Rep K B .non .non
 | bl (b:Bool):Rep K B (.bl b) (.bl b)
 | int (i:Int):Rep K B (.int i) (.int i)
 | str (x:Str):Rep K B (.str x) (.str x)
 | ty (n:String):Rep K B (.ty n) (.ty n)
 | tup {a:Addr} {vs:List V} {ds:List D} (h:B a=some (.tup vs)) (r:Reps K B vs ds):Rep K B (.ref a) (.tup ds)
 | lst {a:Addr} {vs:List V} {ds:List D} (h:B a=some (.lst vs)) (r:Reps K B vs ds):Rep K B (.ref a) (.lst ds)
 | scr {a:Addr} {ns:List Int} (h:cw K B a (ns.map V.int)):Rep K B (.ref a) (.scr ns)
 | ktup {a:Addr} {vs:List V} {ds:List D} (h:eu K B a vs) (r:Reps K B vs ds):Rep K B (.ref a) (.ktup ds)
 | kfn (f:Addr):Rep K B (.ref f) (.kfn f)
 | dct {a:Addr} {b:Bool} {bq:Nat} {ks:List (List (List Int))} {as:List Addr} {vs:List V} {ds:List D} (h:B a=some (iV b a bq ks as vs)) (ah:Reps K B (as.map V.ref) (ks.map (ir b))) (af:b=false->∀k∈ks,∃l,k=[l]) (r:Reps K B vs ds):Rep K B (.ref a) (.dct b ks ds)
inductive Reps (K:PySem.W.Frag) (B:ao):List V->List D->Prop where
 | nil:Reps K B [] []
 | cons {v:V} {d:D} {vs:List V} {ds:List D} (h:Rep K B v d) (r:Reps K B vs ds):Reps K B (v::vs) (d::ds)
end
theorem D6{K:PySem.W.Frag}{H H':ao}{a:Addr}{xs:List V}(e:cp H H')(h:eu K H a xs):eu K H' a xs:=by
 rcases h with(h|⟨o,h⟩)|h
 ·exact .inl (.inl (e _ _ h))
 ·exact .inl (.inr ⟨o,e _ _ h⟩)
 ·exact .inr h
section
variable{K:PySem.W.Frag}{B az:ao}
mutual
theorem Rep.mono(s:cp B az):∀{v:V}{d:D},Rep K B v d->Rep K az v d
 | _,_,.non=>.non
 | _,_,.bl b=>.bl b
 | _,_,.int i=>.int i
 | _,_,.str x=>.str x
 | _,_,.ty n=>.ty n
 | _,_,.tup h r=>.tup (s _ _ h) (Reps.mono s r)
 | _,_,.lst h r=>.lst (s _ _ h) (Reps.mono s r)
 | _,_,.scr h=>.scr (s.seq h)
 | _,_,.ktup h r=>.ktup (D6 s h) (Reps.mono s r)
 | _,_,.kfn f=>.kfn f
 | _,_,.dct h ah af r=>.dct (s _ _ h) (Reps.mono s ah) af (Reps.mono s r)
theorem Reps.mono(s:cp B az):∀{vs:List V}{ds:List D},Reps K B vs ds->Reps K az vs ds
 | _,_,.nil=>.nil
 | _,_,.cons h r=>.cons (Rep.mono s h) (Reps.mono s r)
end
theorem Reps.length:∀{vs:List V}{ds:List D},Reps K B vs ds->vs.length=ds.length
 | _,_,.nil=>rfl
 | _,_,.cons _ r=>by rw[Z8,Z8,r.length]
theorem Reps.get:∀{vs:List V}{ds:List D}{i:Nat}{d:D},Reps K B vs ds->ds[i]?=some d->∃v,vs[i]?=some v/\Rep K B v d
 | _,_,_,_,.nil,e=>by simp at e
 | _,_,0,_,.cons h _,e=>by simp at e;subst e;exact⟨_,rfl,h⟩
 | _,_,i+1,d,.cons _ r,e=>by
  obtain⟨v,aa,ab⟩:=Reps.get (i:=i) (d:=d) r (by simpa using e);exact⟨v,by simpa using aa,ab⟩
theorem Reps.getV:∀{vs:List V}{ds:List D}{i:Nat}{v:V},Reps K B vs ds->vs[i]?=some v->∃d,ds[i]?=some d/\Rep K B v d
 | _,_,_,_,.nil,e=>by simp at e
 | _,_,0,_,.cons h _,e=>by simp at e;subst e;exact⟨_,rfl,h⟩
 | _,_,i+1,v,.cons _ r,e=>by
  obtain⟨d,aa,ab⟩:=Reps.getV (i:=i) (v:=v) r (by simpa using e);exact⟨d,by simpa using aa,ab⟩
theorem Reps.append:∀{vs ws:List V}{ds es:List D},Reps K B vs ds->Reps K B ws es->Reps K B (vs++ws) (ds++es)
 | _,_,_,_,.nil,s=>s
 | _,_,_,_,.cons h r,s=>.cons h (Reps.append r s)
theorem Reps.take:∀{vs:List V}{ds:List D}(n:Nat),Reps K B vs ds->Reps K B (vs.take n) (ds.take n)
 | _,_,0,_=>.nil
 | _,_,_+1,.nil=>.nil
 | _,_,n+1,.cons h r=>.cons h (Reps.take n r)
theorem Reps.drop:∀{vs:List V}{ds:List D}(n:Nat),Reps K B vs ds->Reps K B (vs.drop n) (ds.drop n)
 | _,_,0,r=>r
 | _,_,_+1,.nil=>.nil
 | _,_,n+1,.cons _ r=>Reps.drop n r
theorem Reps.ints:∀(ns:List Int),Reps K B (ns.map V.int) (ns.map D.int)
 | []=>.nil
 | n::r=>.cons (.int n) (Reps.ints r)
end
def gh(H:ao)(b:Addr):Prop:=∃x y:Int,H b=some (.lst [.int x,.int y])/\0<=x/\0<=y/\y<2147483647
def cP(σ:St)(ρ:List aH)(i:Nat)(a:Addr):Prop:=(σ[i]?=some (some (.ref a))/\(ρ[i]?=some .bag∨∃ds,ρ[i]?=some (.own ds)))∨∃c,ρ[i]?=some (.deep c)/\a∈c.adr::c.ins
structure Wd (R:ao) (W:Addr->Prop) (B H:ao):Prop where
 fr:∀a o,R a=some o->¬W a->H a=some o
 bh:cp B H
 wb:∀a,W a->B a=none
 wh:∀a,W a->gh H a
 wr:∀a,W a->R a≠none
open Classical in
noncomputable def fE(R:ao)(W:Addr->Prop)(B:ao):ao:=fun a=>match R a with
 | some (.lst vs)=>if W a then B a else some (.lst vs)
 | _=>B a
theorem oR{R:ao}{W:Addr->Prop}{B az:ao}(s:cp B az):cp (fE R W B) (fE R W az):=fun a o h=>by
 unfold fE at h ⊢;split at h
 ·split at h
  ·rename_i z;rw[if_pos z];exact s a o h
  ·rename_i z;rw[if_neg z];exact h
 ·exact s a o h
def jS(K:PySem.W.Frag)(B H:ao)(a:Addr):lF->Prop
 | .l ds=>∃vs,H a=some (.lst vs)/\Reps K B vs ds
 | .d b t ks ds=>∃bq as vs,(∀c,t=some c->c=a)/\H a=some (iV b a bq ks as vs)/\Reps K B (as.map V.ref) (ks.map (ir b))/\(b=false->∀k∈ks,∃l,k=[l])/\Reps K B vs ds
theorem jS.mono{K:PySem.W.Frag}{B az H H':ao}{a:Addr}{c:lF}(h:jS K B H a c)(s:cp B az)(e:H' a=H a):jS K az H' a c:=by
 cases c with
 | l ds=>obtain⟨vs,aa,ab⟩:=h;exact⟨vs,by rw[e];exact aa,ab.mono s⟩
 | d b t ks ds=>obtain⟨bq,as,vs,h0,aa,ab,aL,bo⟩:=h;exact⟨bq,as,vs,h0,by rw[e];exact aa,ab.mono s,aL,bo.mono s⟩
theorem jS.ne{K:PySem.W.Frag}{B H:ao}{a:Addr}{c:lF}(h:jS K B H a c):H a≠none:=by
 cases c with
 | l ds=>obtain⟨vs,aa,ab⟩:=h;rw[aa];simp
 | d b t ks ds=>obtain⟨bq,as,vs,_,aa,_⟩:=h;rw[aa];simp
structure oS (K:PySem.W.Frag) (B H:ao) (as:List Addr) (hN:List (List D)):Prop where
 len:as.length=hN.length
 at_:∀(i:Nat)(a:Addr)(ds:List D),as[i]?=some a->hN[i]?=some ds->∃vs,H a=some (.lst vs)/\Reps K B vs ds
theorem oS.mono{K:PySem.W.Frag}{B az H H':ao}{as:List Addr}{hN:List (List D)}(h:oS K B H as hN)(s:cp B az)(e:∀a∈as,H' a=H a):oS K az H' as hN :=
 ⟨h.len,fun i a ds aa ab=>by
  obtain⟨vs,a4,bS⟩:=h.at_ i a ds aa ab
  exact⟨vs,by rw[e a (aaD aa)];exact a4,bS.mono s⟩⟩
theorem oS.ne{K:PySem.W.Frag}{B H:ao}{as:List Addr}{hN:List (List D)}(h:oS K B H as hN){a:Addr}(m:a∈as):H a≠none:=by
 obtain⟨i,aD⟩:=abl m
 have lt:i<as.length:=by
  by_cases z:i<as.length
  ·exact z
  ·rw[aaF (by omega)]at aD;cases aD
 obtain⟨vs,a4,_⟩:=h.at_ i a _ aD (aan (by rw[<-h.len];exact lt));rw[a4];simp
def ql(K:PySem.W.Frag)(B H:ao):kz->Prop
 | .ll a as hN=>H a=some (.lst (as.map V.ref))/\oS K B H as hN
 | .dl b a ks as hN=>∃bq rZ,H a=some (iV b a bq ks rZ (as.map V.ref))/\Reps K B (rZ.map V.ref) (ks.map (ir b))/\(b=false->∀k∈ks,∃l,k=[l])/\oS K B H as hN
structure D7 (K:PySem.W.Frag) (R B H:ao) (c:kz):Prop where
 fr:∀a∈c.adr::c.ins,R a=none/\B a=none
 nd:(c.adr::c.ins).Nodup
 ok:ql K B H c
theorem ql.mono{K:PySem.W.Frag}{B az H H':ao}{c:kz}(h:ql K B H c)(s:cp B az)(e:∀a∈c.adr::c.ins,H' a=H a):ql K az H' c:=by
 cases c with
 | ll a as hN=>exact⟨by rw[e a ZJ];exact h.1,h.2.mono s fun x m=>e x (ZL _ m)⟩
 | dl b a ks as hN =>
  obtain⟨bq,rZ,aa,ab,aL,bo⟩:=h;exact⟨bq,rZ,by rw[e a ZJ];exact aa,ab.mono s,aL,bo.mono s fun x m=>e x (ZL _ m)⟩
theorem ql.ne{K:PySem.W.Frag}{B H:ao}{c:kz}(h:ql K B H c){a:Addr}(m:a∈c.adr::c.ins):H a≠none:=by
 cases c with
 | ll b as hN =>
  rcases Z6.mp m with e|m
  ·rw[show a=b from e,h.1];simp
  ·exact h.2.ne m
 | dl b p ks as hN =>
  obtain⟨bq,rZ,aa,ab,aL,bo⟩:=h;rcases Z6.mp m with e|m
  ·rw[show a=p from e,aa];simp
  ·exact bo.ne m
def D8(K:PySem.W.Frag)(R:ao)(W:Addr->Prop)(B H:ao)(o:Option V):aH->Prop
 | .no=>True
 | .val d=>∃v,o=some v/\Rep K B v d
 | .own c=>∃a,o=some (.ref a)/\R a=none/\B a=none/\jS K B H a c
 | .bag=>∃b,o=some (.ref b)/\(W b∨R b=none)/\B b=none/\gh H b
 | .new d=>∃v,o=some v/\Rep K (fE R W B) v d
 | .pin v d=>o=some v/\Rep K (fE R W B) v d
 | .deep c=>o=some (.ref c.adr)/\D7 K R B H c
structure Ev (K:PySem.W.Frag) (R:ao) (W:Addr->Prop) (B H:ao) (σ:St) (ρ:List aH):Prop extends Wd R W B H where
 len:σ.length=ρ.length
 ok:∀(i:Nat)(k:aH),ρ[i]?=some k->D8 K R W B H (σ[i]?).join k
 sep:∀(i j:Nat)(a:Addr),cP σ ρ i a->cP σ ρ j a->i=j
structure bM (R B az:ao):Prop where
 s:cp B az
 n:∀a o,az a=some o->B a=some o∨R a=none
theorem bM.refl(R B:ao):bM R B B:=⟨cp.refl _,fun _ _ h=>.inl h⟩
theorem bM.trans{R B az D9:ao}(g:bM R B az)(h:bM R az D9):bM R B D9:=⟨g.s.trans h.s,fun a o e=>(h.n a o e).elim (g.n a o) .inr⟩
theorem Wd.fresh{R:ao}{W:Addr->Prop}{B H:ao}(w:Wd R W B H){p:Addr}(h:H p=none):R p=none/\¬W p/\B p=none:=by
 have nw:¬W p:=fun z=>by
  obtain⟨x,y,e,_⟩:=w.wh p z;rw[h]at e;cases e
 refine⟨?_,nw,w.bh.free h⟩;cases q:R p with
 | none=>rfl
 | some o=>rw[w.fr p o q nw]at h;cases h
theorem join_some{α:Type}{o:Option (Option α)}{v:α}(h:o.join=some v):o=some (some v):=by
 cases o with
 | none=>cases h
 | some x=>exact congrArg some h
section
variable{K:PySem.W.Frag}{R:ao}{W:Addr->Prop}{B az H H':ao}{σ:St}{ρ:List aH}
theorem Ev.val(e:Ev K R W B H σ ρ){i:Nat}{d:D}(h:ρ[i]?=some (.val d)):∃v,σ[i]?=some (some v)/\Rep K B v d:=by
 obtain⟨v,aa,ab⟩:=e.ok i _ h;exact⟨v,join_some aa,ab⟩
theorem Ev.ownAt(e:Ev K R W B H σ ρ){i:Nat}{ds:List D}(h:ρ[i]?=some (.own ds)):∃a vs,σ[i]?=some (some (.ref a))/\R a=none/\B a=none/\H a=some (.lst vs)/\Reps K B vs ds:=by
 obtain⟨a,aa,ab,aL,vs,bo,de⟩:=e.ok i _ h;exact⟨a,vs,join_some aa,ab,aL,bo,de⟩
theorem Ev.ownC(e:Ev K R W B H σ ρ){i:Nat}{c:lF}(h:ρ[i]?=some (.own c)):∃a,σ[i]?=some (some (.ref a))/\R a=none/\B a=none/\jS K B H a c:=by
 obtain⟨a,aa,ab⟩:=e.ok i _ h;exact⟨a,join_some aa,ab⟩
theorem Ev.bagAt(e:Ev K R W B H σ ρ){i:Nat}(h:ρ[i]?=some .bag):∃b,σ[i]?=some (some (.ref b))/\(W b∨R b=none)/\B b=none/\gh H b:=by
 obtain⟨a,aa,ab⟩:=e.ok i _ h;exact⟨a,join_some aa,ab⟩
theorem Ev.deepAt(e:Ev K R W B H σ ρ){i:Nat}{c:kz}(h:ρ[i]?=some (.deep c)):σ[i]?=some (some (.ref c.adr))/\D7 K R B H c:=by
 obtain⟨aa,ab⟩:=e.ok i _ h;exact⟨join_some aa,ab⟩
theorem Ev.mutOk(e:Ev K R W B H σ ρ){i:Nat}{a:Addr}(m:cP σ ρ i a):B a=none/\H a≠none:=by
 rcases m with⟨aa,ab|⟨ds,ab⟩⟩|⟨c,aa,ab⟩
 ·obtain⟨b,ai,_,bG,x,y,c4,_⟩:=e.bagAt ab;rw[aa]at ai;cases ai;exact⟨bG,by rw[c4];simp⟩
 ·obtain⟨b,ai,_,bG,c4⟩:=e.ownC ab;rw[aa]at ai;cases ai;exact⟨bG,c4.ne⟩
 ·have q:=(e.deepAt aa).2;exact⟨(q.fr a ab).2,q.ok.ne ab⟩
theorem Mo{i:Nat}{a:Addr}(m:cP σ ρ i a)(n:∀c,ρ[i]?≠some (.deep c)):σ[i]?=some (some (.ref a))/\(ρ[i]?=some .bag∨∃ds,ρ[i]?=some (.own ds)):=by
 rcases m with m|⟨c,h,_⟩
 ·exact m
 ·exact absurd h (n c)
theorem oT{i:Nat}{a:Addr}(m:cP σ ρ i a)(h:ρ[i]?=some .bag):σ[i]?=some (some (.ref a)):=(Mo m fun c z=>by rw[h]at z;cases z).1
theorem Ev.move(e:Ev K R W B H σ ρ)(w:Wd R W az H')(s:cp B az)(m:∀i a,cP σ ρ i a->az a=none/\(ρ[i]?=some .bag->gh H' a)/\(ρ[i]?≠some .bag->H' a=H a)):Ev K R W az H' σ ρ:=by
 refine⟨w,e.len,fun i k h=>?_,e.sep⟩;cases k with
 | no=>trivial
 | new d =>
  obtain⟨v,aa,ab⟩:=e.ok i _ h;exact⟨v,aa,ab.mono (oR s)⟩
 | pin v d =>
  obtain⟨aa,ab⟩:=e.ok i _ h;exact⟨aa,ab.mono (oR s)⟩
 | val d =>
  obtain⟨v,aa,ab⟩:=e.ok i _ h;exact⟨v,aa,ab.mono s⟩
 | own ds =>
  obtain⟨a,aa,ab,aL,bo⟩:=e.ok i _ h;obtain⟨bw,b8,jT⟩:=m i a (.inl ⟨join_some aa,.inr ⟨ds,h⟩⟩);exact⟨a,aa,ab,bw,bo.mono s (jT (by rw[h];simp))⟩
 | deep c =>
  obtain⟨aa,ab⟩:=e.ok i _ h
  have bF:∀a∈c.adr::c.ins,az a=none/\H' a=H a:=fun a iu=>by
   obtain⟨bw,b8,jT⟩:=m i a (.inr ⟨c,h,iu⟩);exact⟨bw,jT (by rw[h];simp)⟩
  exact⟨aa,fun a iu=>⟨(ab.fr a iu).1,(bF a iu).1⟩,ab.nd,ab.ok.mono s fun a iu=>(bF a iu).2⟩
 | bag =>
  obtain⟨b,aa,ab,aL,bo⟩:=e.ok i _ h;obtain⟨bw,b8,jT⟩:=m i b (.inl ⟨join_some aa,.inl h⟩);exact⟨b,aa,ab,bw,b8 h⟩
theorem gh.upd{H:ao}{b p:Addr}{o:eV}(h:gh H b)(n:b≠p):gh (L2.upd H p o) b:=by
 obtain⟨x,y,e,q⟩:=h;exact⟨x,y,by rw[dz n];exact e,q⟩
theorem Wd.alloc(w:Wd R W B H){p:Addr}(h:H p=none)(o:eV):Wd R W (upd B p o) (upd H p o):=by
 obtain⟨f1,f2,bO⟩:=w.fresh h;refine⟨fun a u q nw=>?_,fun a u q=>?_,fun a z=>?_,fun a z=>?_,w.wr⟩
 ·rw[dz (by rintro rfl;rw[f1]at q;cases q)];exact w.fr a u q nw
 ·unfold L2.upd at q ⊢;split
  ·rename_i z;rw[if_pos z]at q;exact q
  ·rename_i z;rw[if_neg z]at q;exact w.bh a u q
 ·rw[dz (by rintro rfl;exact f2 z)];exact w.wb a z
 ·exact(w.wh a z).upd (by rintro rfl;exact f2 z)
theorem Wd.allocH(w:Wd R W B H){p:Addr}(h:H p=none)(o:eV):Wd R W B (upd H p o):=by
 obtain⟨f1,f2,bO⟩:=w.fresh h;refine⟨fun a u q nw=>?_,fun a u q=>?_,w.wb,fun a z=>?_,w.wr⟩
 ·rw[dz (by rintro rfl;rw[f1]at q;cases q)];exact w.fr a u q nw
 ·rw[dz (by rintro rfl;rw[bO]at q;cases q)];exact w.bh a u q
 ·exact(w.wh a z).upd (by rintro rfl;exact f2 z)
theorem Ev.notNew(e:Ev K R W B H σ ρ){p:Addr}(h:H p=none){i:Nat}{a:Addr}(m:cP σ ρ i a):a≠p:=by
 rintro rfl;exact(e.mutOk m).2 h
theorem Ev.alloc(e:Ev K R W B H σ ρ){p:Addr}(h:H p=none)(o:eV):Ev K R W (upd B p o) (upd H p o) σ ρ:=by
 obtain⟨f1,f2,bO⟩:=e.toWd.fresh h;refine e.move (e.toWd.alloc h o) (u5 bO o) fun i a m=>?_;have n:=e.notNew h m;refine⟨by rw[dz n];exact(e.mutOk m).1,fun z=>?_,fun _=>dz n⟩;obtain⟨b,ai,_,_,c4⟩:=e.bagAt z;rw[oT m z]at ai;cases ai;exact c4.upd n
theorem Ev.allocH(e:Ev K R W B H σ ρ){p:Addr}(h:H p=none)(o:eV):Ev K R W B (upd H p o) σ ρ:=by
 refine e.move (e.toWd.allocH h o) (cp.refl _) fun i a m=>?_;have n:=e.notNew h m;refine⟨(e.mutOk m).1,fun z=>?_,fun _=>dz n⟩;obtain⟨b,ai,_,_,c4⟩:=e.bagAt z;rw[oT m z]at ai;cases ai;exact c4.upd n
theorem Ev.grow(e:Ev K R W B H σ ρ){p:Addr}(h:H p=none)(o:eV):bM R B (upd B p o):=by
 obtain⟨f1,f2,bO⟩:=e.toWd.fresh h;refine⟨u5 bO o,fun a u q=>?_⟩;by_cases z:a=p
 ·subst z;exact .inr f1
 ·rw[dz z]at q;exact .inl q
theorem Ev.freezeO(e:Ev K R W B H σ ρ){a:Addr}{o:eV}(h:H a=some o)(ak:R a=none)(af:B a=none)(hm:∀i,¬cP σ ρ i a):Ev K R W (upd B a o) H σ ρ/\bM R B (upd B a o):=by
 have nw:¬W a:=fun z=>e.wr a z ak;refine⟨e.move ⟨e.fr,fun b u q=>?_,fun b z=>?_,e.wh,e.wr⟩ (u5 af _) (fun i b m=>?_),⟨u5 af _,fun b u q=>?_⟩⟩
 ·by_cases z:b=a
  ·subst z;rw[en]at q;cases q;exact h
  ·rw[dz z]at q;exact e.bh b u q
 ·rw[dz (by rintro rfl;exact nw z)];exact e.wb b z
 ·have n:b≠a:=by rintro rfl;exact hm i m
  refine⟨by rw[dz n];exact(e.mutOk m).1,fun z=>?_,fun _=>rfl⟩;obtain⟨c,ai,_,_,c4⟩:=e.bagAt z;rw[oT m z]at ai;cases ai;exact c4
 ·by_cases z:b=a
  ·subst z;exact .inr ak
  ·rw[dz z]at q;exact .inl q
theorem Ev.freeze(e:Ev K R W B H σ ρ){a:Addr}{vs:List V}(h:H a=some (.lst vs))(ak:R a=none)(af:B a=none)(hm:∀i,¬cP σ ρ i a):Ev K R W (upd B a (.lst vs)) H σ ρ/\bM R B (upd B a (.lst vs)):=e.freezeO h ak af hm
theorem kA{α:Type}{l:List α}{i j:Nat}{x y:α}(h:(l.set i x)[j]?=some y):(j=i/\y=x)∨(j≠i/\l[j]?=some y):=by
 by_cases e:i=j
 ·subst e;rw[List.getElem?_set_self']at h;cases q:l[i]? with
  | none=>rw[q]at h;cases h
  | some z=>rw[q]at h;exact .inl ⟨rfl,(aab h).symm⟩
 ·rw[aaV e]at h;exact .inr ⟨fun z=>e z.symm,h⟩
def aH.adrs:aH->List Addr
 | .deep c=>c.adr::c.ins
 | _=>[]
theorem u'{i j:Nat}{v:V}{k:aH}{a:Addr}(m:cP (σ.set i (some v)) (ρ.set i k) j a):(j=i/\((v=.ref a/\(k=.bag∨∃ds,k=.own ds))∨a∈k.adrs))∨(j≠i/\cP σ ρ j a):=by
 rcases m with⟨aa,ab⟩|⟨c,aa,ab⟩
 ·rcases kA aa with⟨e,aa⟩|⟨e,aa⟩
  ·refine .inl ⟨e,.inl ⟨(aab aa).symm,?_⟩⟩;rcases ab with ab|⟨ds,ab⟩
   ·rcases kA ab with⟨_,ab⟩|⟨n,_⟩
    ·exact .inl ab.symm
    ·exact absurd e n
   ·rcases kA ab with⟨_,ab⟩|⟨n,_⟩
    ·exact .inr ⟨ds,ab.symm⟩
    ·exact absurd e n
  ·refine .inr ⟨e,.inl ⟨aa,?_⟩⟩;rcases ab with ab|⟨ds,ab⟩
   ·rcases kA ab with⟨n,_⟩|⟨_,ab⟩
    ·exact absurd n e
    ·exact .inl ab
   ·rcases kA ab with⟨n,_⟩|⟨_,ab⟩
    ·exact absurd n e
    ·exact .inr ⟨ds,ab⟩
 ·rcases kA aa with⟨e,aa⟩|⟨e,aa⟩
  ·exact .inl ⟨e,.inr (by rw[<-aa];exact ab)⟩
  ·exact .inr ⟨e,.inr ⟨c,aa,ab⟩⟩
theorem r0{i j:Nat}{v:V}{k:aH}{a:Addr}(m:cP (σ.set i (some v)) (ρ.set i k) j a)(cu:k≠.bag)(dn:∀c,k≠.own c)(kq:k.adrs=[]):j≠i/\cP σ ρ j a:=by
 rcases u' m with⟨_,⟨_,z|⟨c,z⟩⟩|z⟩|m
 ·exact absurd z cu
 ·exact absurd z (dn c)
 ·rw[kq]at z;cases z
 ·exact m
theorem Ev.set(e:Ev K R W B H σ ρ)(i:Nat){v:V}{k:aH}(ah:D8 K R W B H (some v) k)(hm:∀a,v=.ref a->(k=.bag∨∃ds,k=.own ds)->∀j,j≠i->¬cP σ ρ j a)(hd:∀a∈k.adrs,∀j,j≠i->¬cP σ ρ j a:=by intro _ z;cases z):Ev K R W B H (σ.set i (some v)) (ρ.set i k):=by
 refine⟨e.toWd,by rw[aba,aba];exact e.len,fun j k' h=>?_,fun x y a aB a5=>?_⟩
 ·rcases kA h with⟨rfl,rfl⟩|⟨n,h⟩
  ·have lt:j<σ.length:=by
    rw[e.len];by_cases z:j<ρ.length
    ·exact z
    ·rw[aaF (by rw[aba];omega)]at h;cases h
   have q:((σ.set j (some v))[j]?).join=some v:=by rw[aa8 lt];rfl
   rw[q];exact ah
  ·rw[aaV (fun z=>n z.symm)];exact e.ok j k' h
 ·rcases u' aB with⟨ai,z1⟩|⟨cu,bw⟩
  ·rcases u' a5 with⟨av,_⟩|⟨dn,b8⟩
   ·rw[ai,av]
   ·rcases z1 with⟨v1,bY⟩|z1
    ·exact absurd b8 (hm a v1 bY y dn)
    ·exact absurd b8 (hd a z1 y dn)
  ·rcases u' a5 with⟨av,aQ⟩|⟨dn,b8⟩
   ·rcases aQ with⟨v2,ck⟩|aQ
    ·exact absurd bw (hm a v2 ck x cu)
    ·exact absurd bw (hd a aQ x cu)
   ·exact e.sep x y a bw b8
theorem Ev.setV(e:Ev K R W B H σ ρ)(i:Nat){v:V}{d:D}(r:Rep K B v d):Ev K R W B H (σ.set i (some v)) (ρ.set i (.val d)):=
 e.set i ⟨v,rfl,r⟩ fun _ _ z=>by rcases z with z|⟨_,z⟩<;>cases z
theorem Ev.setO(e:Ev K R W B H σ ρ)(i:Nat){a:Addr}{vs:List V}{ds:List D}(ak:R a=none)(af:B a=none)(eJ:H a=some (.lst vs))(r:Reps K B vs ds)(hm:∀j,j≠i->¬cP σ ρ j a):Ev K R W B H (σ.set i (some (.ref a))) (ρ.set i (.own ds)):=
 e.set i ⟨a,rfl,ak,af,vs,eJ,r⟩ fun b z _=>by cases z;exact hm
theorem Ev.setC(e:Ev K R W B H σ ρ)(i:Nat){a:Addr}{c:lF}(ak:R a=none)(af:B a=none)(eJ:jS K B H a c)(hm:∀j,j≠i->¬cP σ ρ j a):Ev K R W B H (σ.set i (some (.ref a))) (ρ.set i (.own c)):=
 e.set i ⟨a,rfl,ak,af,eJ⟩ fun b z _=>by cases z;exact hm
theorem Ev.writeC(e:Ev K R W B H σ ρ){i:Nat}{a:Addr}{c d0:lF}{o:eV}(h:σ[i]?=some (some (.ref a)))(aE:ρ[i]?=some (.own c))(r:jS K B (upd H a o) a d0):Ev K R W B (upd H a o) σ (ρ.set i (.own d0)):=by
 obtain⟨eI,ai,av,bG,c4⟩:=e.ownC aE;rw[h]at ai;cases ai;have nw:¬W a:=fun z=>e.wr a z av;have iv:cP σ ρ i a:=.inl ⟨h,.inr ⟨c,aE⟩⟩;refine⟨⟨fun b u q z=>?_,fun b u q=>?_,e.wb,fun b z=>?_,e.wr⟩,by rw[aba];exact e.len,fun j k q=>?_,fun x y b aB a5=>?_⟩
 ·rw[dz (by rintro rfl;rw[av]at q;cases q)];exact e.fr b u q z
 ·rw[dz (by rintro rfl;rw[bG]at q;cases q)];exact e.bh b u q
 ·exact(e.wh b z).upd (by rintro rfl;exact nw z)
 ·rcases kA q with⟨rfl,rfl⟩|⟨n,q⟩
  ·exact⟨a,by rw[h];rfl,av,bG,r⟩
  ·have z:=e.ok j k q;cases k with
   | no=>trivial
   | new d=>exact z
   | pin v d=>exact z
   | val d=>exact z
   | own es =>
    obtain⟨b,z1,aQ,fF,eY⟩:=z;exact⟨b,z1,aQ,fF,eY.mono (cp.refl _) (dz (by rintro rfl;exact n (e.sep j i b (.inl ⟨join_some z1,.inr ⟨es,q⟩⟩) iv)))⟩
   | deep d =>
    exact⟨z.1,z.2.fr,z.2.nd,z.2.ok.mono (cp.refl _) fun b gB=>dz (by rintro rfl;exact n (e.sep j i b (.inr ⟨d,q,gB⟩) iv))⟩
   | bag =>
    obtain⟨b,z1,aQ,fF,eY⟩:=z;exact⟨b,z1,aQ,fF,eY.upd (by rintro rfl;exact n (e.sep j i b (.inl ⟨join_some z1,.inl q⟩) iv))⟩
 ·have back:∀x,cP σ (ρ.set i (.own d0)) x b->cP σ ρ x b:=fun x m=>by
   rcases m with⟨bw,b8⟩|⟨d,bw,b8⟩
   ·by_cases z:x=i
    ·subst z;exact .inl ⟨bw,.inr ⟨c,aE⟩⟩
    ·refine .inl ⟨bw,?_⟩;rw[aaV (fun w=>z w.symm)]at b8;exact b8
   ·rcases kA bw with⟨_,z⟩|⟨_,bw⟩
    ·cases z
    ·exact .inr ⟨d,bw,b8⟩
  exact e.sep x y b (back x aB) (back y a5)
theorem Ev.write(e:Ev K R W B H σ ρ){i:Nat}{a:Addr}{ds ds':List D}{vs:List V}(h:σ[i]?=some (some (.ref a)))(aE:ρ[i]?=some (.own ds))(r:Reps K B vs ds'):Ev K R W B (upd H a (.lst vs)) σ (ρ.set i (.own ds')):=
 e.writeC h aE ⟨vs,en,r⟩
theorem Ev.fz(e:Ev K R W B H σ ρ){i:Nat}{ds:List D}(aE:ρ[i]?=some (.own ds)):∃az,Ev K R W az H σ (ρ.set i (.val (.lst ds)))/\bM R B az:=by
 obtain⟨a,vs,ai,av,bG,c4,eL⟩:=e.ownAt aE;have iv:cP σ ρ i a:=.inl ⟨ai,.inr ⟨ds,aE⟩⟩;have f:=(e.setV (d:=.non) i (v:=.non) .non)
 have f2:=f.freeze c4 av bG (fun j m=>by
  obtain⟨n,m⟩:=r0 m (by simp) (by simp) rfl
  exact n (e.sep j i a m iv))
 refine⟨_,?_,f2.2⟩;have g:=f2.1.setV i (v:=.ref a) (d:=.lst ds) (.lst en (eL.mono f2.2.s));rw[abw,abw]at g
 have q:σ.set i (some (.ref a))=σ:=by
  apply abJ;intro j;by_cases z:i=j
  ·subst z
   have lt:i<σ.length:=by
    by_cases z:i<σ.length
    ·exact z
    ·rw[aaF (by omega)]at ai;cases ai
   rw[aa8 lt,ai]
  ·rw[aaV z]
 rw[q]at g;exact g
theorem Ev.fzD(e:Ev K R W B H σ ρ){i:Nat}{b:Bool}{t:Option Addr}{ks:List (List (List Int))}{ds:List D}(aE:ρ[i]?=some (.own (.d b t ks ds))):∃az,Ev K R W az H σ (ρ.set i (.val (.dct b ks ds)))/\bM R B az:=by
 obtain⟨a,ai,av,bG,bq,as,vs,_,c4,eL,jU,D'⟩:=e.ownC aE;have iv:cP σ ρ i a:=.inl ⟨ai,.inr ⟨_,aE⟩⟩;have f:=(e.setV (d:=.non) i (v:=.non) .non)
 have f2:=f.freezeO c4 av bG (fun j m=>by
  obtain⟨n,m⟩:=r0 m (by simp) (by simp) rfl
  exact n (e.sep j i a m iv))
 refine⟨_,?_,f2.2⟩;have g:=f2.1.setV i (v:=.ref a) (d:=.dct b ks ds) (.dct en (eL.mono f2.2.s) jU (D'.mono f2.2.s));rw[abw,abw]at g
 have q:σ.set i (some (.ref a))=σ:=by
  apply abJ;intro j;by_cases z:i=j
  ·subst z
   have lt:i<σ.length:=by
    by_cases z:i<σ.length
    ·exact z
    ·rw[aaF (by omega)]at ai;cases ai
   rw[aa8 lt,ai]
  ·rw[aaV z]
 rw[q]at g;exact g
end
end L3
namespace L3
open PySem L2
open PySem.Builtin.Int (intBits)
abbrev a7:=List aH->(D->Prop)->Prop
abbrev cO:=List aH->(List D->Prop)->Prop
abbrev dA:=List aH->(Bool->Prop)->Prop
inductive Arg where
 | val (d:D)|bag (i:Nat)
abbrev hO:=List aH->(List Arg->Prop)->Prop
structure fW where
 nx:List aH->Prop
 rt:aH->Prop
 bk:List aH->Prop:=fun _=>False
 ct:List aH->Prop:=fun _=>False
abbrev cI:=fW->List aH->Prop
abbrev ec:=D->List aH->(List aH->Prop)->Prop
abbrev iW:=List D->List aH->(List aH->Prop)->Prop
section
variable(K:PySem.W.Frag)
def eM(t:TE)(u:a7):Prop:=∀(ρ:List aH)(k:D->Prop),u ρ k->∀(R:ao)(W:Addr->Prop)(B H:ao)(σ:St)(Q:cN),Ev K R W B H σ ρ ->
 (∀d v az H',k d->Ev K R W az H' σ ρ->bM R B az->Rep K az v d->Q v H')->t σ H Q
def qm(t:TE)(u:cO):Prop:=∀(ρ:List aH)(k:List D->Prop),u ρ k->∀(R:ao)(W:Addr->Prop)(B H:ao)(σ:St)(Q:cN),Ev K R W B H σ ρ ->
 (∀ds a vs az H',k ds->Ev K R W az H' σ ρ->bM R B az->R a=none->az a=none->H' a=some (.lst vs)->Reps K az vs ds->(∀i,¬cP σ ρ i a)->Q (.ref a) H')->t σ H Q
def hP(t:TT)(u:dA):Prop:=∀(ρ:List aH)(k:Bool->Prop),u ρ k->∀(R:ao)(W:Addr->Prop)(B H:ao)(σ:St)(Q:Bool->ao->Prop),Ev K R W B H σ ρ ->
 (∀b az H',k b->Ev K R W az H' σ ρ->bM R B az->Q b H')->t σ H Q
def va(t:eX)(u:cO):Prop:=∀(ρ:List aH)(k:List D->Prop),u ρ k->∀(R:ao)(W:Addr->Prop)(B H:ao)(σ:St)(Q:List V->ao->Prop),Ev K R W B H σ ρ ->
 (∀ds vs az H',k ds->Ev K R W az H' σ ρ->bM R B az->Reps K az vs ds->Q vs H')->t σ H Q
inductive jj (B:ao) (σ:St) (ρ:List aH):List V->List Arg->Prop where
 | nil:jj B σ ρ [] []
 | val {v:V} {d:D} {vs:List V} {as:List Arg} (h:Rep K B v d) (r:jj B σ ρ vs as):jj B σ ρ (v::vs) (.val d::as)
 | bag {v:V} {i:Nat} {vs:List V} {as:List Arg} (h:σ[i]?=some (some v)) (af:ρ[i]?=some .bag) (r:jj B σ ρ vs as):jj B σ ρ (v::vs) (.bag i::as)
def Ea(t:eX)(u:hO):Prop:=∀(ρ:List aH)(k:List Arg->Prop),u ρ k->∀(R:ao)(W:Addr->Prop)(B H:ao)(σ:St)(Q:List V->ao->Prop),Ev K R W B H σ ρ ->
 (∀as vs az H',k as->Ev K R W az H' σ ρ->bM R B az->jj K az σ ρ vs as->Q vs H')->t σ H Q
def d4(R B:ao):ao:=fun a=>match B a with
 | some (.lst vs)=>if(R a).isNone then some (.lst vs)else none
 | o=>o
def zG(R:ao)(B H:ao)(v:V):aH->Prop
 | .no=>False
 | .val d=>Rep K B v d
 | .own c=>∃a,v=.ref a/\R a=none/\B a=none/\jS K B H a c
 | .bag=>∃b,v=.ref b/\R b=none/\B b=none/\gh H b
 | .new d=>Rep K (d4 R B) v d
 | .pin _ _=>False
 | .deep _=>False
structure r1 (R:ao) (W:Addr->Prop) (B:ao) (U:fW) (D:Ends):Prop where
 nx:∀ρ σ az H',U.nx ρ->Ev K R W az H' σ ρ->bM R B az->D.nx σ H'
 bk:∀ρ σ az H',U.bk ρ->Ev K R W az H' σ ρ->bM R B az->D.bk σ H'
 ct:∀ρ σ az H',U.ct ρ->Ev K R W az H' σ ρ->bM R B az->D.ct σ H'
 rt:∀r v az H',U.rt r->Wd R W az H'->bM R B az->zG K R az H' v r->D.rt v H'
def Eb(t:fM)(u:cI):Prop:=∀(U:fW)(ρ:List aH),u U ρ->∀(R:ao)(W:Addr->Prop)(B H:ao)(σ:St)(D:Ends),Ev K R W B H σ ρ->r1 K R W B U D->t D σ H
def qn(g:gC)(u:ec):Prop:=∀(d:D)(ρ:List aH)(k:List aH->Prop),u d ρ k->∀(R:ao)(W:Addr->Prop)(B H:ao)(σ:St)(v:V)(Q:St->ao->Prop),Ev K R W B H σ ρ->Rep K B v d ->
 (∀bj a6,k bj->Ev K R W B H a6 bj->(∀j a,cP a6 bj j a->cP σ ρ j a)->Q a6 H)->g v σ H Q
def Mp(g:kn)(u:iW):Prop:=∀(ds:List D)(ρ:List aH)(k:List aH->Prop),u ds ρ k->∀(R:ao)(W:Addr->Prop)(B H:ao)(σ:St)(vs:List V)(Q:St->ao->Prop),Ev K R W B H σ ρ->Reps K B vs ds ->
 (∀bj a6,k bj->Ev K R W B H a6 bj->(∀j a,cP a6 bj j a->cP σ ρ j a)->Q a6 H)->g vs σ H Q
def jk(B:ao)(J:h5)(ds:List D):Prop:=∀(H:ao),cp B H->∀i,(i<ds.length->J.go i H)/\(ds.length<=i->J.stop i H)/\∀x H',i<ds.length->J.yld i H x H'->H'=H/\∃d,ds[i]?=some d/\Rep K B x d
def zH(t:TI)(u:cO):Prop:=∀(ρ:List aH)(k:List D->Prop),u ρ k->∀(R:ao)(W:Addr->Prop)(B H:ao)(σ:St)(Q:h5->ao->Prop),Ev K R W B H σ ρ ->
 (∀ds J az H',k ds->Ev K R W az H' σ ρ->bM R B az->jk K az J ds->Q J H')->t σ H Q
end
theorem hQ{R B:ao}:cp (d4 R B) B:=fun a o h=>by
 unfold d4 at h;split at h
 ·rename_i vs e
  split at h
  ·rw[e];exact h
  ·cases h
 ·exact h
theorem qo{R B az:ao}(s:cp B az):cp (d4 R B) (d4 R az):=fun a o h=>by
 have eD:=s a o (hQ a o h);unfold d4 at h ⊢;rw[eD];split at h
 ·rename_i vs e
  split at h
  ·rename_i z
   have:=aab h;subst this;dsimp only;rw[if_pos z]
  ·cases h
 ·rename_i ne
  cases o with
  | lst vs=>exact absurd h (ne vs)
  | _=>rfl
theorem zI{R Ec B:ao}(w:∀a,Ec a=none->R a=none):cp (d4 Ec B) (d4 R B):=fun a o h=>by
 have eD:=hQ a o h;unfold d4 at h ⊢;rw[eD]at h ⊢;cases o with
 | lst vs =>
  dsimp only at h ⊢;split at h
  ·rename_i z
   rw[if_pos (by rw[adv]at z ⊢;exact w a z)]
  ·cases h
 | _=>rfl
theorem vb{R B:ao}{a:Addr}{vs:List V}(h:B a=some (.lst vs))(n:R a=none):d4 R B a=some (.lst vs):=by
 unfold d4;rw[h];dsimp only;rw[if_pos (by rw[n];rfl)]
theorem r2{R B:ao}{a:Addr}{vs:List V}(h:d4 R B a=some (.lst vs)):B a=some (.lst vs)/\R a=none:=by
 have eD:=hQ a _ h;refine⟨eD,?_⟩;unfold d4 at h;rw[eD]at h;dsimp only at h;split at h
 ·rename_i z;rw[adv]at z;exact z
 ·cases h
theorem r1.grow{K:PySem.W.Frag}{R:ao}{W:Addr->Prop}{B az:ao}{U:fW}{D:Ends}(s:r1 K R W B U D)(g:bM R B az):r1 K R W az U D :=
 ⟨fun ρ σ C H h e q=>s.nx ρ σ C H h e (g.trans q),fun ρ σ C H h e q=>s.bk ρ σ C H h e (g.trans q),fun ρ σ C H h e q=>s.ct ρ σ C H h e (g.trans q),fun r v C H h e q z=>s.rt r v C H h e (g.trans q) z⟩
section
variable(X:aM)
def br(e:Expr)(u:a7):Prop:=∃t,b2 X e t/\eM X.K t u
def jV(e:Expr)(u:cO):Prop:=∃t,b2 X e t/\qm X.K t u
def ht(e:Expr)(u:dA):Prop:=∃t,ik X e t/\hP X.K t u
def oU(e:Expr)(u:dA):Prop:=∃t,mb X e t/\hP X.K t u
def oV(es:List Expr)(u:cO):Prop:=∃t,hq X es t/\va X.K t u
def lG(es:List Expr)(u:hO):Prop:=∃t,hq X es t/\Ea X.K t u
def e7(s:Stmt)(u:cI):Prop:=∃t,il X s t/\Eb X.K t u
def fX(s:List Stmt)(u:cI):Prop:=∃t,h4 X s t/\Eb X.K t u
def iX(e:Expr)(u:ec):Prop:=∃t,iO X e t/\qn X.K t u
def r3(e:List Expr)(u:iW):Prop:=∃t,oG X e t/\Mp X.K t u
def lH(bE e:Expr)(u:cO):Prop:=∃t,jJ X bE e t/\zH X.K t u
end
def dC(i:Nat):a7:=fun ρ k=>∃d,ρ[i]?=some (.val d)/\k d
def qp(d:D):a7:=fun _ k=>k d
def r4(C:Int->Int->Prop)(g:Int->Int->D)(bJ bT:a7):a7:=fun ρ k=>bJ ρ fun x=>bT ρ fun y=>∃i j,x=.int i/\y=.int j/\C i j/\k (g i j)
def r5(g:Int->Int->D)(bJ bT:a7):a7:=fun ρ k=>bJ ρ fun x=>bT ρ fun y=>∃i j,x=.int i/\y=.int j/\k (g i j)
def Ed(bJ:a7):a7:=fun ρ k=>bJ ρ fun x=>∃i,x=.int i/\k (.int (-i))
section
variable{K:PySem.W.Frag}{X:aM}
theorem Mq(i:Nat):eM K (yW i) (dC i):=by
 intro ρ k h R W B H σ Q e q;obtain⟨d,h,z⟩:=h;obtain⟨v,ai,r⟩:=e.val h;exact⟨v,ai,q d v B H z e (bM.refl _ _) r⟩
theorem Ee{v:V}{d:D}(h:∀B,Rep K B v d):eM K (p5 v) (qp d):=fun ρ k z R W B H σ Q e q=>q d v B H z e (bM.refl _ _) (h B)
theorem qq{bV tb:TE}{bJ bT:a7}{r:e6}{f:D->D->(D->Prop)->Prop}(ax:eM K bV bJ)(af:eM K tb bT)(ak:∀(x y:D) (k:D->Prop),f x y k->∀(R:ao) (W:Addr->Prop) (B H:ao) (σ:St) (ρ:List aH) (v w:V) (Q:cN),Ev K R W B H σ ρ->Rep K B v x->Rep K B w y->(∀d v az H',k d->Ev K R W az H' σ ρ->bM R B az->Rep K az v d->Q v H')->r v w H Q):
  eM K (ml r bV tb) (fun ρ k=>bJ ρ fun x=>bT ρ fun y=>f x y k):=by
 intro ρ k h R W B H σ Q e q;refine ax ρ _ h R W B H σ _ e fun x v a0 H1 aa ai g1 ar=>?_;refine af ρ _ aa R W a0 H1 σ _ ai fun y w bH a3 ab av g2 aF=>?_;exact ak x y k ab R W bH a3 σ ρ v w Q av (ar.mono g2.s) aF fun d u oW cU aL bG g3 fP=>q d u oW cU aL bG ((g1.trans g2).trans g3) fP
theorem Mr{bV:TE}{bJ:a7}{r:V->ao->cN->Prop}{f:D->(D->Prop)->Prop}(ax:eM K bV bJ)(ak:∀(x:D) (k:D->Prop),f x k->∀(R:ao) (W:Addr->Prop) (B H:ao) (σ:St) (ρ:List aH) (v:V) (Q:cN),Ev K R W B H σ ρ->Rep K B v x->(∀d v az H',k d->Ev K R W az H' σ ρ->bM R B az->Rep K az v d->Q v H')->r v H Q):
  eM K (y7 r bV) (fun ρ k=>bJ ρ fun x=>f x k):=by
 intro ρ k h R W B H σ Q e q;refine ax ρ _ h R W B H σ _ e fun x v a0 H1 aa ai g1 ar=>?_;exact ak x k aa R W a0 H1 σ ρ v Q ai ar fun d u oW cU aL bG g3 fP=>q d u oW cU aL bG (g1.trans g3) fP
theorem Rep.intV{B:ao}{v:V}{i:Int}(r:Rep K B v (.int i)):v=.int i:=by cases r;rfl
theorem Rep.blV{B:ao}{v:V}{b:Bool}(r:Rep K B v (.bl b)):v=.bl b:=by cases r;rfl
theorem Rep.nonV{B:ao}{v:V}(r:Rep K B v .non):v=.non:=by cases r;rfl
theorem Rep.tupV{B:ao}{v:V}{ds:List D}(r:Rep K B v (.tup ds)):∃a vs,v=.ref a/\B a=some (.tup vs)/\Reps K B vs ds:=by
 cases r with|tup h r=>exact⟨_,_,rfl,h,r⟩
theorem Rep.lstV{B:ao}{v:V}{ds:List D}(r:Rep K B v (.lst ds)):∃a vs,v=.ref a/\B a=some (.lst vs)/\Reps K B vs ds:=by
 cases r with|lst h r=>exact⟨_,_,rfl,h,r⟩
theorem Rep.scrV{B:ao}{v:V}{ns:List Int}(r:Rep K B v (.scr ns)):∃a,v=.ref a/\cw K B a (ns.map V.int):=by
 cases r with|scr h=>exact⟨_,rfl,h⟩
theorem vc{C:Int->Int->Prop}{f:Int->Int->V}{g:Int->Int->D}{bV tb:TE}{bJ bT:a7}(aC:∀B i j,Rep K B (f i j) (g i j))(ax:eM K bV bJ)(af:eM K tb bT):eM K (ml (qa C f) bV tb) (r4 C g bJ bT):=
 qq ax af fun x y k h R W B H σ ρ v w Q e bc cx q=>by
  obtain⟨i,j,rfl,rfl,hc,ah⟩:=h;exact⟨i,j,bc.intV,cx.intV,hc,q _ _ B H ah e (bM.refl _ _) (aC B i j)⟩
theorem vd{f:Int->Int->V}{g:Int->Int->D}{bV tb:TE}{bJ bT:a7}(aC:∀B i j,Rep K B (f i j) (g i j))(ax:eM K bV bJ)(af:eM K tb bT):eM K (ml (jN f) bV tb) (r5 g bJ bT):=
 qq ax af fun x y k h R W B H σ ρ v w Q e bc cx q=>by
  obtain⟨i,j,rfl,rfl,ah⟩:=h;exact⟨i,j,bc.intV,cx.intV,q _ _ B H ah e (bM.refl _ _) (aC B i j)⟩
theorem Ms{bV:TE}{bJ:a7}(ax:eM K bV bJ):eM K (y7 (y8 fun i=>.int (-i)) bV) (Ed bJ):=
 Mr (f:=fun x k=>∃i,x=.int i/\k (.int (-i))) ax fun x k h R W B H σ ρ v Q e bc q=>by
  obtain⟨i,rfl,ah⟩:=h;exact⟨i,bc.intV,q _ _ B H ah e (bM.refl _ _) (.int _)⟩
variable{a b:Expr}{bJ bT:a7}{pos:Pos}
theorem ae(i:Nat){x:Str}{pos:Pos}(bD:X.N[i]?=some x:=by rfl)(aP:gb X.env.scope x:=by first|exact Sz rfl|exact ZN (Sz rfl)|exact ZN (ZN rfl))(hd:(x==("__debug__":Str))=false:=by decide)(dB:(x==("__classdict__":Str))=false:=by decide):br X (.Name x pos) (dC i):=⟨_,hG bD aP hd dB,Mq i⟩
theorem aA{i j pos}:br X (.Constant (.int i) j pos) (qp (.int i)):=⟨_,et,Ee fun _=>.int _⟩
theorem hR{b j pos}:br X (.Constant (.bool b) j pos) (qp (.bl b)):=⟨_,J',Ee fun _=>.bl _⟩
theorem ed(ax:br X a bJ)(af:br X b bT):br X (.BinOp a .Add b pos) (r5 (fun i j=>.int (i+j)) bJ bT):=by
 obtain⟨_,aa,ar⟩:=ax;obtain⟨_,ab,aF⟩:=af;exact⟨_,ff uS aa ab,vd (fun _ _ _=>.int _) ar aF⟩
theorem e8(ax:br X a bJ)(af:br X b bT):br X (.BinOp a .Sub b pos) (r5 (fun i j=>.int (i-j)) bJ bT):=by
 obtain⟨_,aa,ar⟩:=ax;obtain⟨_,ab,aF⟩:=af;exact⟨_,ff K9 aa ab,vd (fun _ _ _=>.int _) ar aF⟩
theorem cz(ax:br X a bJ)(af:br X b bT):br X (.BinOp a .Mult b pos) (r4 zy (fun i j=>.int (i*j)) bJ bT):=by
 obtain⟨_,aa,ar⟩:=ax;obtain⟨_,ab,aF⟩:=af;exact⟨_,ff rX aa ab,vc (fun _ _ _=>.int _) ar aF⟩
theorem dH(ax:br X a bJ)(af:br X b bT):br X (.BinOp a .FloorDiv b pos) (r4 qj (fun i j=>.int (i.fdiv j)) bJ bT):=by
 obtain⟨_,aa,ar⟩:=ax;obtain⟨_,ab,aF⟩:=af;exact⟨_,ff u4 aa ab,vc (fun _ _ _=>.int _) ar aF⟩
theorem ve(ax:br X a bJ)(af:br X b bT):br X (.BinOp a .Mod b pos) (r4 (fun _ j=>0<j) (fun i j=>.int (i%j)) bJ bT):=by
 obtain⟨_,aa,ar⟩:=ax;obtain⟨_,ab,aF⟩:=af;exact⟨_,ff mm aa ab,vc (fun _ _ _=>.int _) ar aF⟩
theorem Ef(ax:br X a bJ)(af:br X b bT):br X (.BinOp a .Pow b pos) (r4 y' (fun i j=>.int (i^j.toNat)) bJ bT):=by
 obtain⟨_,aa,ar⟩:=ax;obtain⟨_,ab,aF⟩:=af;exact⟨_,ff uT aa ab,vc (fun _ _ _=>.int _) ar aF⟩
theorem iw(ax:br X a bJ):br X (.UnaryOp .USub a pos) (Ed bJ):=by
 obtain⟨_,aa,ar⟩:=ax;exact⟨_,K8 La aa,Ms ar⟩
def Eg(op:CmpOp)(f:Int->Int->Bool)(X:aM):Prop:=fO X (compareOp op) (jN fun i j=>.bl (f i j))
theorem lI{op:CmpOp}{f:Int->Int->Bool}(aE:Eg op f X)(ax:br X a bJ)(af:br X b bT)(hm:behindInMarks op b=false):br X (.Compare a [op] [b] pos) (r5 (fun i j=>.bl (f i j)) bJ bT):=by
 obtain⟨_,aa,ar⟩:=ax;obtain⟨_,ab,aF⟩:=af;exact⟨_,za aE aa ab hm,vd (fun _ _ _=>.bl _) ar aF⟩
def oX(bJ:a7):dA:=fun ρ k=>bJ ρ fun x=>∃c,x=.bl c/\k c
def Eh(u:dA):dA:=fun ρ k=>u ρ fun c=>k (!c)
def Ei(u w:dA):dA:=fun ρ k=>u ρ fun c=>if c=true then w ρ k else k false
def Ej(u w:dA):dA:=fun ρ k=>u ρ fun c=>if c=true then k true else w ρ k
theorem r6{bV:TE}{bJ:a7}(ax:eM K bV bJ):hP K (rF bV) (oX bJ):=by
 intro ρ k h R W B H σ Q e q;refine ax ρ _ h R W B H σ _ e fun x v a0 H1 aa ai g1 ar=>?_;obtain⟨c,rfl,ah⟩:=aa;exact⟨c,ar.blV,q c a0 H1 ah ai g1⟩
theorem gR{e:Expr}{u:a7}(h:br X e u)(he:∀whole,isTrue e X.env whole=(do let v <-whole;standAt e.pos;holding [v] (truthy v)):=by intro _;rfl):ht X e (oX u):=by
 obtain⟨_,aa,ar⟩:=h;exact⟨_,Ka aa he,r6 ar⟩
theorem e9{op:CmpOp}{f:Int->Int->Bool}(aE:Eg op f X)(ax:br X a bJ)(af:br X b bT)(hm:behindInMarks op b=false):ht X (.Compare a [op] [b] pos) (oX (r5 (fun i j=>.bl (f i j)) bJ bT)):=by
 obtain⟨_,aa,ar⟩:=ax;obtain⟨_,ab,aF⟩:=af;exact⟨_,oM aE aa ab hm,r6 (vd (fun _ _ _=>.bl _) ar aF)⟩
theorem Mt{t:TT}{u:dA}(h:hP K t u):hP K (Dn t) (Eh u):=fun ρ k z R W B H σ Q e q=>h ρ _ z R W B H σ _ e fun b az H' aa ai g1=>q (!b) az H' aa ai g1
theorem Mu{t t':TT}{u ep:dA}(h:hP K t u)(h':hP K t' ep):hP K (Dl t t') (Ei u ep):=by
 intro ρ k z R W B H σ Q e q;refine h ρ _ z R W B H σ _ e fun b a0 H1 aa ai g1=>?_;cases b with
 | true =>
  rw[if_pos rfl]at aa ⊢;exact h' ρ _ aa R W a0 H1 σ _ ai fun c bH a3 ab av g2=>q c bH a3 ab av (g1.trans g2)
 | false =>
  rw[if_neg aal]at aa ⊢;exact q false a0 H1 aa ai g1
theorem Mv{t t':TT}{u ep:dA}(h:hP K t u)(h':hP K t' ep):hP K (Dm t t') (Ej u ep):=by
 intro ρ k z R W B H σ Q e q;refine h ρ _ z R W B H σ _ e fun b a0 H1 aa ai g1=>?_;cases b with
 | false =>
  rw[if_neg aal]at aa ⊢;exact h' ρ _ aa R W a0 H1 σ _ ai fun c bH a3 ab av g2=>q c bH a3 ab av (g1.trans g2)
 | true =>
  rw[if_pos rfl]at aa ⊢;exact q true a0 H1 aa ai g1
theorem g5{u:dA}(h:ht X a u):ht X (.UnaryOp .Not a pos) (Eh u):=by
 obtain⟨_,aa,ar⟩:=h;exact⟨_,Kf aa,Mt ar⟩
theorem Mw{u:dA}(h:ht X a u):oU X (.BoolOp .And [a] pos) u:=by
 obtain⟨_,aa,ar⟩:=h;exact⟨_,Kb aa,ar⟩
theorem lJ{u:dA}(h:ht X a u):oU X (.BoolOp .Or [a] pos) u:=by
 obtain⟨_,aa,ar⟩:=h;exact⟨_,Kc aa,ar⟩
theorem w_and{rest:List Expr}{u ep:dA}(h:ht X a u)(h':oU X (.BoolOp .And (b::rest) pos) ep):oU X (.BoolOp .And (a::b::rest) pos) (Ei u ep):=by
 obtain⟨_,aa,ar⟩:=h;obtain⟨_,ab,aF⟩:=h';exact⟨_,Kd aa ab,Mu ar aF⟩
theorem w_or{rest:List Expr}{u ep:dA}(h:ht X a u)(h':oU X (.BoolOp .Or (b::rest) pos) ep):oU X (.BoolOp .Or (a::b::rest) pos) (Ej u ep):=by
 obtain⟨_,aa,ar⟩:=h;obtain⟨_,ab,aF⟩:=h';exact⟨_,Ke aa ab,Mv ar aF⟩
theorem kB{u:dA}(h:oU X a u):ht X a u:=by
 obtain⟨_,aa,ar⟩:=h;exact⟨_,aa.pt,ar⟩
def Mx(u w:a7):a7:=fun ρ k=>u ρ fun x=>∃c,x=.bl c/\if c=true then w ρ k else k (.bl false)
def My(u:a7):a7:=fun ρ k=>u ρ fun x=>∃c,x=.bl c/\k (.bl (!c))
theorem r7{op:BoolOp}(h:br X a bJ):br X (.BoolOp op [a] pos) bJ:=by
 obtain⟨_,aa,ar⟩:=h;exact⟨_,Ki aa,ar⟩
theorem qr{rest:List Expr}(h:br X a bJ)(h':br X (.BoolOp .And (b::rest) pos) bT):br X (.BoolOp .And (a::b::rest) pos) (Mx bJ bT):=by
 obtain⟨_,aa,ar⟩:=h;obtain⟨_,ab,aF⟩:=h';refine⟨_,Kj aa ab,fun ρ k z R W B H σ Q e q=>?_⟩;refine ar ρ _ z R W B H σ _ e fun x v a0 H1 z1 ai g1 s1=>?_;obtain⟨c,rfl,z1⟩:=z1;refine⟨c,s1.blV,?_⟩;cases c with
 | true =>
  rw[if_pos rfl]at z1 ⊢;exact aF ρ _ z1 R W a0 H1 σ _ ai fun d w bH a3 ab av g2 s2=>q d w bH a3 ab av (g1.trans g2) s2
 | false =>
  rw[if_neg aal]at z1 ⊢;exact q _ _ a0 H1 z1 ai g1 (.bl _)
theorem Mz(h:br X a bJ):br X (.UnaryOp .Not a pos) (My bJ):=by
 obtain⟨_,aa,ar⟩:=h;refine⟨_,Kk aa,fun ρ k z R W B H σ Q e q=>?_⟩;refine ar ρ _ z R W B H σ _ e fun x v a0 H1 z1 ai g1 s1=>?_;obtain⟨c,rfl,z1⟩:=z1;exact⟨c,s1.blV,q _ _ a0 H1 z1 ai g1 (.bl _)⟩
def MA(c:dA)(u w:a7):a7:=fun ρ k=>c ρ fun b=>if b=true then u ρ k else w ρ k
theorem Ek{c:Expr}{fR:dA}(hc:ht X c fR)(ax:br X a bJ)(af:br X b bT):br X (.IfExp c a b pos) (MA fR bJ bT):=by
 obtain⟨_,h0,fY⟩:=hc;obtain⟨_,aa,ar⟩:=ax;obtain⟨_,ab,aF⟩:=af;refine⟨_,Km h0 aa ab,fun ρ k z R W B H σ Q e q=>?_⟩;refine fY ρ _ z R W B H σ _ e fun c a0 H1 z1 ai g1=>?_;cases c with
 | true =>
  rw[if_pos rfl]at z1 ⊢;exact ar ρ _ z1 R W a0 H1 σ _ ai fun d w bH a3 ab av g2 s2=>q d w bH a3 ab av (g1.trans g2) s2
 | false =>
  rw[if_neg aal]at z1 ⊢;exact aF ρ _ z1 R W a0 H1 σ _ ai fun d w bH a3 ab av g2 s2=>q d w bH a3 ab av (g1.trans g2) s2
def r8:cO:=fun _ k=>k []
def mu(u:a7)(w:cO):cO:=fun ρ k=>u ρ fun d=>w ρ fun ds=>k (d::ds)
variable{e:Expr}{es:List Expr}{u:a7}{w:cO}
theorem MB:va K zd r8:=fun ρ k h R W B H σ Q e q=>q [] [] B H h e (bM.refl _ _) .nil
theorem MC{cC:TE}{t:eX}(aa:eM K cC u)(ab:va K t w):va K (ze cC t) (mu u w):=by
 intro ρ k h R W B H σ Q e q;refine aa ρ _ h R W B H σ _ e fun d v a0 H1 z1 ai g1 ar=>?_;refine ab ρ _ z1 R W a0 H1 σ _ ai fun ds vs bH a3 aQ av g2 aF=>?_;exact q _ _ bH a3 aQ av (g1.trans g2) (.cons (ar.mono g2.s) aF)
theorem bU:oV X [] r8:=⟨_,fD,MB⟩
theorem aU(ax:br X e u)(ak:oV X es w)(aq:starEach (e::es) X.env=(false,eval e X.env)::starEach es X.env:=by rfl):oV X (e::es) (mu u w):=by
 obtain⟨_,aa,ar⟩:=ax;obtain⟨_,ab,aF⟩:=ak;exact⟨_,eh aa ab aq,MC ar aF⟩
def vf(w:cO):a7:=fun ρ k=>w ρ fun ds=>ds.length<=sizeLine/\k (.tup ds)
theorem c8{bK}(h:oV X es w):br X (.Tuple es bK pos) (vf w):=by
 obtain⟨_,aa,ar⟩:=h;refine⟨_,zf aa,fun ρ k z R W B H σ Q e q=>?_⟩;refine ar ρ _ z R W B H σ _ e fun ds vs a0 H1 z1 ai g1 s1=>?_;refine⟨by rw[s1.length];exact z1.1,fun p ag=>?_⟩;have g2:=ai.grow ag (.tup vs);exact q _ _ _ _ z1.2 (ai.alloc ag _) (g1.trans g2) (.tup en (s1.mono g2.s))
def MD(w:cO):cO:=fun ρ k=>w ρ fun ds=>ds.length<=sizeLine/\k ds
theorem fv(h:oV X es w):jV X (.List es pos) (MD w):=by
 obtain⟨_,aa,ar⟩:=h;refine⟨_,zg aa,fun ρ k z R W B H σ Q e q=>?_⟩;refine ar ρ _ z R W B H σ _ e fun ds vs a0 H1 z1 ai g1 s1=>?_;refine⟨by rw[s1.length];exact z1.1,fun p ag=>?_⟩;obtain⟨f1,f2,bO⟩:=ai.toWd.fresh ag;exact q ds p vs a0 _ z1.2 (ai.allocH ag _) g1 f1 bO en s1 fun i m=>ai.notNew ag m rfl
def r9(w:cO):a7:=fun ρ k=>w ρ fun ds=>k (.lst ds)
theorem ME{t:TE}(h:qm K t w):eM K t (r9 w):=by
 intro ρ k z R W B H σ Q e q;refine h ρ _ z R W B H σ _ e fun ds a vs a0 H1 z1 ai g1 ak af eJ ix hm=>?_;obtain⟨av,g2⟩:=ai.freeze eJ ak af hm;exact q _ _ _ _ z1 av (g1.trans g2) (.lst en (ix.mono g2.s))
theorem dD(h:jV X e w):br X e (r9 w):=by
 obtain⟨_,aa,ar⟩:=h;exact⟨_,aa,ME ar⟩
def El(bJ bT:a7):a7:=fun ρ k=>bJ ρ fun x=>bT ρ fun y=>∃ds i d,(x=.tup ds∨x=.lst ds)/\y=.int i/\dE ds i=some d/\k d
theorem r'{B:ao}{vs:List V}{ds:List D}{i:Int}{d:D}(r:Reps K B vs ds)(h:dE ds i=some d):∃v,dE vs i=some v/\Rep K B v d:=by
 unfold dE at h ⊢;rw[r.length];cases q:ixN ds.length i with
 | none=>rw[q]at h;cases h
 | some j =>
  rw[q]at h;exact r.get h
theorem aV(ax:br X a bJ)(af:br X b bT)(aq:qf b):br X (.Subscript a b pos) (El bJ bT):=by
 obtain⟨_,aa,ar⟩:=ax;obtain⟨_,ab,aF⟩:=af;refine⟨_,jP mq aa ab aq,qq ar aF fun x y k h R W B H σ ρ v ly Q e bc cx q=>?_⟩;obtain⟨ds,i,d,aB,rfl,ax,ah⟩:=h;rcases aB with rfl|rfl
 ·obtain⟨p,vs,rfl,ag,ix⟩:=bc.tupV;obtain⟨z,a',h9⟩:=r' ix ax;exact⟨p,vs,i,z,rfl,cx.intV,.inl (e.bh _ _ ag),a',q d z B H ah e (bM.refl _ _) h9⟩
 ·obtain⟨p,vs,rfl,ag,ix⟩:=bc.lstV;obtain⟨z,a',h9⟩:=r' ix ax;exact⟨p,vs,i,z,rfl,cx.intV,.inr (e.bh _ _ ag),a',q d z B H ah e (bM.refl _ _) h9⟩
end
abbrev FS:=List aH->(aH->Prop)->Prop
def kC:List aH->Nat
 | []=>0
 | .bag::r=>kC r+1
 | _::r=>kC r
inductive iY (K:PySem.W.Frag) (W:Addr->Prop) (B:ao):List V->List aH->Prop where
 | nil:iY K W B [] []
 | val {v:V} {d:D} {vs:List V} {as:List aH} (h:Rep K B v d) (r:iY K W B vs as):iY K W B (v::vs) (.val d::as)
 | bag {b:Addr} {vs:List V} {as:List aH} (h:W b) (r:iY K W B vs as):iY K W B (.ref b::vs) (.bag::as)
structure MF (K:PySem.W.Frag) (W:Addr->Prop) (B H:ao) (v:V) (r:aH) (az H':ao):Prop where
 wd:Wd H W az H'
 g:bM H B az
 res:zG K H az H' v r
def aK(K:PySem.W.Frag)(n:Nat)(F:FS):gN:=fun vs H Q _=>∃(W:Addr->Prop)(B:ao)(as:List aH)(k:aH->Prop),F as k/\as.length=n/\Nat.ble (kC as) 1=true/\cp B H/\(∀a,W a->B a=none/\gh H a)/\iY K W B vs as /\
 ∀r v az H',k r->MF K W B H v r az H'->Q v H'
section
variable{K:PySem.W.Frag}{R:ao}{W:Addr->Prop}{B az H H':ao}{σ:St}{ρ:List aH}
theorem iY.length:∀{vs:List V}{as:List aH},iY K W B vs as->vs.length=as.length
 | _,_,.nil=>rfl
 | _,_,.val _ r=>by rw[Z8,Z8,r.length]
 | _,_,.bag _ r=>by rw[Z8,Z8,r.length]
theorem iY.get:∀{vs:List V}{as:List aH},iY K W B vs as->∀(i:Nat)(k:aH),as[i]?=some k->(∃v d,vs[i]?=some v/\k=.val d/\Rep K B v d)∨(∃b,vs[i]?=some (.ref b)/\k=.bag/\W b)
 | _,_,.nil,i,k,e=>by simp at e
 | _,_,.val h r,0,k,e=>by simp at e;subst e;exact .inl ⟨_,_,rfl,rfl,h⟩
 | _,_,.val h r,i+1,k,e=>by simpa using r.get i k (by simpa using e)
 | _,_,.bag h r,0,k,e=>by simp at e;subst e;exact .inr ⟨_,rfl,rfl,h⟩
 | _,_,.bag h r,i+1,k,e=>by simpa using r.get i k (by simpa using e)
theorem nt:∀{as:List aH}{i:Nat},kC as=0->as[i]?≠some .bag
 | [],i,_=>by simp
 | .bag::r,i,h=>by simp[kC]at h
 | .no::r,0,h=>by simp
 | .no::r,i+1,h=>by simpa using nt (as:=r) (i:=i) h
 | .val d::r,0,h=>by simp
 | .val d::r,i+1,h=>by simpa using nt (as:=r) (i:=i) h
 | .new d::r,0,h=>by simp
 | .new d::r,i+1,h=>by simpa using nt (as:=r) (i:=i) h
 | .pin v d::r,0,h=>by simp
 | .pin v d::r,i+1,h=>by simpa using nt (as:=r) (i:=i) h
 | .own d::r,0,h=>by simp
 | .own d::r,i+1,h=>by simpa using nt (as:=r) (i:=i) h
 | .deep d::r,0,h=>by simp
 | .deep d::r,i+1,h=>by simpa using nt (as:=r) (i:=i) h
theorem nu:∀{as:List aH}{i j:Nat},kC as<=1->as[i]?=some .bag->as[j]?=some .bag->i=j
 | [],i,j,_,e,_=>by simp at e
 | .bag::r,0,0,_,_,_=>rfl
 | .bag::r,0,j+1,h,_,e=>absurd (by simpa using e) (nt (as:=r) (i:=j) (by simp[kC]at h;exact h))
 | .bag::r,i+1,_,h,e,_=>absurd (by simpa using e) (nt (as:=r) (i:=i) (by simp[kC]at h;exact h))
 | .no::r,0,_,_,e,_=>by simp at e
 | .no::r,i+1,0,_,_,e=>by simp at e
 | .no::r,i+1,j+1,h,e,aT=>by rw[nu (as:=r) (i:=i) (j:=j) h (by simpa using e) (by simpa using aT)]
 | .val d::r,0,_,_,e,_=>by simp at e
 | .val d::r,i+1,0,_,_,e=>by simp at e
 | .val d::r,i+1,j+1,h,e,aT=>by rw[nu (as:=r) (i:=i) (j:=j) h (by simpa using e) (by simpa using aT)]
 | .new d::r,0,_,_,e,_=>by simp at e
 | .new d::r,i+1,0,_,_,e=>by simp at e
 | .new d::r,i+1,j+1,h,e,aT=>by rw[nu (as:=r) (i:=i) (j:=j) h (by simpa using e) (by simpa using aT)]
 | .pin v d::r,0,_,_,e,_=>by simp at e
 | .pin v d::r,i+1,0,_,_,e=>by simp at e
 | .pin v d::r,i+1,j+1,h,e,aT=>by rw[nu (as:=r) (i:=i) (j:=j) h (by simpa using e) (by simpa using aT)]
 | .own d::r,0,_,_,e,_=>by simp at e
 | .own d::r,i+1,0,_,_,e=>by simp at e
 | .own d::r,i+1,j+1,h,e,aT=>by rw[nu (as:=r) (i:=i) (j:=j) h (by simpa using e) (by simpa using aT)]
 | .deep d::r,0,_,_,e,_=>by simp at e
 | .deep d::r,i+1,0,_,_,e=>by simp at e
 | .deep d::r,i+1,j+1,h,e,aT=>by rw[nu (as:=r) (i:=i) (j:=j) h (by simpa using e) (by simpa using aT)]
theorem Ev.after{mv:Addr->Prop}(e:Ev K R W B H σ ρ)(g6:∀a,mv a->∃i:Nat,σ[i]?=some (some (.ref a))/\ρ[i]?=some .bag)(wd:Wd H mv az H')(g:bM H B az):Ev K R W az H' σ ρ/\bM R B az:=by
 have nb:∀a,B a=none->H a≠none->az a=none:=fun a aa ab=>by
  cases q:az a with
  | none=>rfl
  | some o =>
   rcases g.n a o q with z|z
   ·rw[aa]at z;cases z
   ·exact absurd z ab
 have st:∀a,¬mv a->H a≠none->H' a=H a:=fun a aa ab=>by
  cases q:H a with
  | none=>exact absurd q ab
  | some o=>exact wd.fr a o q aa
 have Em:∀a,gh H a->gh H' a:=fun a h=>by
  by_cases z:mv a
  ·exact wd.wh a z
  ·obtain⟨x,y,ai,q⟩:=h;exact⟨x,y,by rw[st a z (by rw[ai];simp)];exact ai,q⟩
 have MG:∀a,gh H a->H a≠none:=fun a ⟨x,y,ai,_⟩=>by rw[ai];simp
 refine⟨e.move ⟨fun a o h nw=>?_,wd.bh,fun a h=>nb a (e.wb a h) (MG a (e.wh a h)),fun a h=>Em a (e.wh a h),e.wr⟩ g.s (fun i a m=>⟨nb a (e.mutOk m).1 (e.mutOk m).2,fun z=>?_,fun z=>?_⟩),⟨g.s,fun a o h=>?_⟩⟩
 ·have aa:=e.fr a o h nw;refine wd.fr a o aa fun z=>?_;obtain⟨i,z1,aQ⟩:=g6 a z;obtain⟨b,bI,c9,_⟩:=e.bagAt aQ;rw[z1]at bI;cases bI;rcases c9 with c9|c9
  ·exact nw c9
  ·rw[c9]at h;cases h
 ·obtain⟨b,bI,_,_,mw⟩:=e.bagAt z;rw[oT m z]at bI;cases bI;exact Em _ mw
 ·refine st a (fun q=>?_) (e.mutOk m).2;obtain⟨j,z1,aQ⟩:=g6 a q;have:=e.sep i j a m (.inl ⟨z1,.inl aQ⟩);subst this;exact z aQ
 ·rcases g.n a o h with z|z
  ·exact .inl z
  ·exact .inr (e.toWd.fresh z).1
theorem Ev.start{N:List Str}{vs:List V}{as:List aH}(af:kC as<=1)(sB:cp B H)(hw:∀a,W a->B a=none/\gh H a)(d1:iY K W B vs as):Ev K H W B H (L2.start N vs) (as++aad (N.length-as.length) .no):=by
 have aj:=d1.length;have wd:Wd H W B H:=⟨fun _ _ h _=>h,sB,fun a h=>(hw a h).1,fun a h=>(hw a h).2,fun a h=>by obtain⟨x,y,q,_⟩:=(hw a h).2;rw[q];simp⟩
 have lo:∀i k,as[i]?=some k->(L2.start N vs)[i]?=(vs[i]?).map some:=fun i k h=>by
  have lt:i<as.length:=by
   by_cases z:i<as.length
   ·exact z
   ·rw[aaF (by omega)]at h;cases h
  unfold L2.start;rw[aaM (by rw[Zf];omega),aag]
 have cs:∀(i:Nat)(k:aH),(as++aad (N.length-as.length) aH.no)[i]?=some k->as[i]?=some k∨k=aH.no:=fun i k h=>by
  by_cases z:i<as.length
  ·rw[aaM z]at h;exact .inl h
  ·rw[aaJ (by omega)]at h;rw[abk]at h;split at h
   ·exact .inr (aab h).symm
   ·cases h
 have hu:∀i:Nat,(as++aad (N.length-as.length) aH.no)[i]?=some aH.bag->as[i]?=some aH.bag:=fun i h=>by
  rcases cs i _ h with h|h
  ·exact h
  ·cases h
 refine⟨wd,by unfold L2.start;simp[aj],fun i k h=>?_,fun i j a bw b8=>?_⟩
 ·rcases cs i k h with h|rfl
  ·rw[lo i k h];rcases d1.get i k h with⟨v,d,aa,rfl,r⟩|⟨b,aa,rfl,r⟩
   ·rw[aa];exact⟨v,rfl,r⟩
   ·rw[aa];exact⟨b,rfl,.inl r,(hw b r).1,(hw b r).2⟩
  ·trivial
 ·have one:∀i,cP (L2.start N vs) (as++aad (N.length-as.length) aH.no) i a->as[i]?=some .bag:=fun i m=>by
   rcases m with⟨_,z|⟨ds,z⟩⟩|⟨c,z,_⟩
   ·exact hu i z
   ·rcases cs i _ z with z|z
    ·rcases d1.get i _ z with⟨v,d,_,q,_⟩|⟨b,_,q,_⟩<;>cases q
    ·cases z
   ·rcases cs i _ z with z|z
    ·rcases d1.get i _ z with⟨v,d,_,q,_⟩|⟨b,_,q,_⟩<;>cases q
    ·cases z
  exact nu af (one i bw) (one j b8)
theorem df{P:Program}{w:World}{mg:Str->Option Value}{base:Heap}{x:Str}{st:Stmt}{N ps:List Str}{lv n:Nat}{F:FS}(oY:cD K mg x st ps)(S:cG N ps (b0 st))(aN:ps.length=n)(jg:∀(f:Addr) (cdv:Value) (A:Around) (outer:List abK) (s:Shared) (H:ao) (E:fB),eC lv (A.deeper (aci x (b0 st) s.heap.objs.size f cdv))->∃u,fX (kv jh P w K mg base N x (b0 st) f cdv A outer s H E).nox (ky st) u/\∀as k,as.length=n->F as k->u { nx:=fun _=>k (.val .non),rt:=k } (as++aad (N.length-n) .no)):aI P w K mg base x ps (lv+1) (aK K n F):=by
 refine oY.ok S (fun vs H Q E h=>?_) (fun f cdv A outer s H vs Q E ak h=>?_)
 ·obtain⟨W,B,as,k,_,aj,_,_,_,d1,_⟩:=h;rw[d1.length,aj,aN]
 ·obtain⟨W,B,as,k,jl,aj,af,sB,hw,d1,q⟩:=h;obtain⟨u,⟨t,bB,rt⟩,bA⟩:=jg f cdv A outer s H E ak;have ev:=Ev.start (N:=N) (acR af) sB hw d1;rw[aj]at ev;refine⟨t,bB,rt _ _ (bA as k aj jl) H W B H (L2.start N vs) _ ev ⟨fun ρ σ az H' h e g=>?_,fun _ _ _ _ h=>h.elim,fun _ _ _ _ h=>h.elim,fun r v az H' h e g z=>q r v az H' h ⟨e,g,z⟩⟩⟩;exact q _ _ az H' h ⟨e.toWd,g,.non⟩
end
def Arg.sl:Arg->aH
 | .val d=>.val d
 | .bag _=>.bag
def bN:aH->(D->Prop)->Prop
 | .val d,k=>k d
 | .own (.l ds),k=>k (.lst ds)
 | .new d,k=>k d
 | _,_=>False
def nv:hO:=fun _ k=>k []
def eE(u:a7)(w:hO):hO:=fun ρ k=>u ρ fun d=>w ρ fun as=>k (.val d::as)
def MH(i:Nat)(w:hO):hO:=fun ρ k=>ρ[i]?=some .bag/\w ρ fun as=>k (.bag i::as)
def sh(as:List Arg)(n:Nat):Bool:=Nat.beq as.length n&&Nat.ble (kC (as.map Arg.sl)) 1
def kD(n:Nat)(F:FS)(w:hO):a7:=fun ρ k=>w ρ fun as=>sh as n=true/\F (as.map Arg.sl) fun r=>bN r k
def MI(n:Nat)(F:FS)(w:hO):cO:=fun ρ k=>w ρ fun as=>sh as n=true/\F (as.map Arg.sl) fun r=>∃ds:List D,r=.own ds/\k ds
section
variable{K:PySem.W.Frag}{X:aM}{e:Expr}{es:List Expr}{u:a7}{w:hO}{pos p:Pos}{n:Nat}{F:FS}
theorem aS:lG X [] nv:=⟨_,fD,fun ρ k h R W B H σ Q e q=>q [] [] B H h e (bM.refl _ _) .nil⟩
theorem aw(ax:br X e u)(ak:lG X es w)(aq:starEach (e::es) X.env=(false,eval e X.env)::starEach es X.env:=by rfl):lG X (e::es) (eE u w):=by
 obtain⟨_,aa,ar⟩:=ax;obtain⟨_,ab,aF⟩:=ak;refine⟨_,eh aa ab aq,fun ρ k h R W B H σ Q e q=>?_⟩;refine ar ρ _ h R W B H σ _ e fun d v a0 H1 z1 ai g1 s1=>?_;refine aF ρ _ z1 R W a0 H1 σ _ ai fun as vs bH a3 aQ av g2 s2=>?_;exact q _ _ bH a3 aQ av (g1.trans g2) (.val (s1.mono g2.s) s2)
theorem fZ(i:Nat){x:Str}{px:Pos}(ak:lG X es w)(bD:X.N[i]?=some x:=by rfl)(aP:gb X.env.scope x:=by first|exact Sz rfl|exact ZN (Sz rfl)|exact ZN (ZN rfl))(hd:(x==("__debug__":Str))=false:=by decide)(dB:(x==("__classdict__":Str))=false:=by decide)(aq:starEach (.Name x px::es) X.env=(false,eval (.Name x px) X.env)::starEach es X.env:=by rfl):lG X (.Name x px::es) (MH i w):=by
 obtain⟨_,ab,aF⟩:=ak;refine⟨_,eh (hG bD aP hd dB) ab aq,fun ρ k h R W B H σ Q e q=>?_⟩;obtain⟨af,h⟩:=h;obtain⟨b,a9,bf⟩:=e.bagAt af;refine⟨_,a9,?_⟩;refine aF ρ _ h R W B H σ _ e fun as vs bH a3 aQ av g2 s2=>?_;exact q _ _ bH a3 aQ av g2 (.bag a9 af s2)
theorem jj.toIn{B:ao}{σ:St}{ρ:List aH}{W:Addr->Prop}{R H:ao}{ny:Addr->Prop}(e:Ev K R ny B H σ ρ):∀{vs:List V}{as:List Arg},jj K B σ ρ vs as->(∀i b,Arg.bag i∈as->σ[i]?=some (some (.ref b))->W b)->iY K W B vs (as.map Arg.sl)
 | _,_,.nil,_=>.nil
 | _,_,.val h r,hw=>.val h (jj.toIn e r fun i b m=>hw i b (ZL _ m))
 | _,_,.bag h af r,hw=>by
  obtain⟨b,a9,_⟩:=e.bagAt af;rw[h]at a9;cases a9;exact .bag (hw _ b ZJ h) (jj.toIn e r fun i c m=>hw i c (ZL _ m))
theorem jj.bagIn{B:ao}{σ:St}{ρ:List aH}:∀{vs:List V}{as:List Arg}{i:Nat},jj K B σ ρ vs as->Arg.bag i∈as->ρ[i]?=some .bag
 | _,_,_,.nil,m=>by simp at m
 | _,_,_,.val h r,m=>by
  rcases Z6.mp m with m|m
  ·cases m
  ·exact r.bagIn m
 | _,_,_,.bag h af r,m=>by
  rcases Z6.mp m with m|m
  ·cases m;exact af
  ·exact r.bagIn m
theorem qs{R:ao}{W:Addr->Prop}{B H:ao}{σ:St}{ρ:List aH}{vs:List V}{as:List Arg}{k:aH->Prop}{Q:cN}{E:fB}(e:Ev K R W B H σ ρ)(ok:jj K B σ ρ vs as)(aq:sh as n=true)(jl:F (as.map Arg.sl) k)(q:∀r v az H',k r->Ev K R W az H' σ ρ->bM R B az->zG K H az H' v r->Q v H'):aK K n F vs H Q E:=by
 rw[sh,abL]at aq;have aa:as.length=n:=Nat.eq_of_beq_eq_true aq.1;have g6:∀a,(∃i:Nat,Arg.bag i∈as/\σ[i]?=some (some (.ref a)))->∃i:Nat,σ[i]?=some (some (.ref a))/\ρ[i]?=some .bag:=fun a ⟨i,m,z⟩=>⟨i,z,ok.bagIn m⟩;refine⟨fun a=>∃i:Nat,Arg.bag i∈as/\σ[i]?=some (some (.ref a)),B,as.map Arg.sl,k,jl,by rw[Zf];exact aa,aq.2,e.bh,fun a h=>?_,ok.toIn e fun i b m z=>⟨i,m,z⟩,fun r v az H' ah ex=>?_⟩
 ·obtain⟨i,z1,aQ⟩:=g6 a h;obtain⟨b,a9,_,dO,fw⟩:=e.bagAt aQ;rw[z1]at a9;cases a9;exact⟨dO,fw⟩
 ·obtain⟨av,g2⟩:=e.after g6 ex.wd ex.g;exact q r v az H' ah av g2 ex.res
theorem aW{x:Str}{ps:List Str}{j lv:Nat}(c:aI X.prog X.w X.K X.mg X.base x ps j (aK X.K n F))(ak:eC lv X.A)(aC:eB X x)(ax:lG X (e::es) w)(gQ:j<=lv:=by decide)(g0:(x==("__debug__":Str))=false:=by decide)(he:starEach (e::es) X.env=(false,eval e X.env)::starEach es X.env:=by rfl)(eK:(backTo pos (starEach es X.env)).any (·.1)=false:=by rfl):
  br X (.Call (.Name x p) (e::es) [] pos) (kD n F w):=by
 obtain⟨_,aa,ar⟩:=ax;refine⟨_,qk c ak aC aa gQ g0 he eK,fun ρ k h R W B H σ Q e q=>?_⟩;refine ar ρ _ h R W B H σ _ e fun as vs a0 H1 z1 ai g1 s1=>?_;rw[Z'];refine qs ai s1 z1.1 z1.2 fun r v bH a3 ah av g2 res=>?_;cases r with
 | no=>exact ah.elim
 | bag=>exact ah.elim
 | pin v d=>exact ah.elim
 | deep c=>exact ah.elim
 | val d=>exact q d v bH a3 ah av (g1.trans g2) res
 | new d=>exact q d v bH a3 ah av (g1.trans g2) (Rep.mono hQ res)
 | own c =>
  cases c with
  | d _ _ _ _=>exact ah.elim
  | l ds =>
  obtain⟨a,rfl,f1,f2,us,bO,f4⟩:=res
  obtain⟨bG,g3⟩:=av.freeze bO (ai.toWd.fresh f1).1 f2 fun i m=>absurd f1 (by
   have bw:cP σ ρ i a:=m
   exact(ai.mutOk bw).2)
  exact q _ _ _ _ ah bG ((g1.trans g2).trans g3) (.lst en (f4.mono g3.s))
theorem MJ{x:Str}{ps:List Str}{j lv:Nat}(c:aI X.prog X.w X.K X.mg X.base x ps j (aK X.K n F))(ak:eC lv X.A)(aC:eB X x)(ax:lG X (e::es) w)(gQ:j<=lv:=by decide)(g0:(x==("__debug__":Str))=false:=by decide)(he:starEach (e::es) X.env=(false,eval e X.env)::starEach es X.env:=by rfl)(eK:(backTo pos (starEach es X.env)).any (·.1)=false:=by rfl):
  jV X (.Call (.Name x p) (e::es) [] pos) (MI n F w):=by
 obtain⟨_,aa,ar⟩:=ax;refine⟨_,qk c ak aC aa gQ g0 he eK,fun ρ k h R W B H σ Q e q=>?_⟩;refine ar ρ _ h R W B H σ _ e fun as vs a0 H1 z1 ai g1 s1=>?_;rw[Z'];refine qs ai s1 z1.1 z1.2 fun r v bH a3 ah av g2 res=>?_;obtain⟨ds,rfl,ah⟩:=ah;obtain⟨a,rfl,f1,f2,us,bO,f4⟩:=res;exact q ds a us bH a3 ah av (g1.trans g2) (ai.toWd.fresh f1).1 f2 bO f4 fun i m=>(ai.mutOk m).2 f1
end
def sb:D->Option Nat
 | .tup ds=>some ds.length
 | .lst ds=>some ds.length
 | .scr ns=>some ns.length
 | _=>none
def MK(u:a7):a7:=fun ρ k=>u ρ fun x=>∃n,sb x=some n/\k (.int n)
def ML(i:Nat):a7:=fun ρ k=>∃ds:List D,ρ[i]?=some (.own ds)/\k (.int ds.length)
def MM(u:a7):a7:=fun ρ k=>u ρ fun x=>∃i,x=.int i/\k (.int (if i<0 then -i else i))
def MN(u:a7):a7:=fun ρ k=>u ρ fun x=>(∃i,x=.int i/\k (.int i))∨∃c,x=.bl c/\k (.int (if c then 1 else 0))
def En:D->Option String
 | .int _=>some "int"
 | .bl _=>some "bool"
 | .tup _=>some "tuple"
 | .lst _=>some "list"
 | .non=>some "NoneType"
 | .str _=>some "str"
 | _=>none
def MO(u:a7)(n:String):a7:=fun ρ k=>u ρ fun x=>∃t b,En x=some t/\(∀K,acI K (.type t) (.type n)=some b)/\k (.bl b)
section
variable{K:PySem.W.Frag}{X:aM}{e:Expr}{es:List Expr}{u:a7}{pos p:Pos}{n:Nat}
theorem vg{cC:TE}{r:List V->ao->cN->Prop}{f:D->(D->Prop)->Prop}(ax:eM K cC u)(ak:∀(x:D) (k:D->Prop),f x k->∀(R:ao) (W:Addr->Prop) (B H:ao) (σ:St) (ρ:List aH) (v:V) (Q:cN),Ev K R W B H σ ρ->Rep K B v x->(∀d v az H',k d->Ev K R W az H' σ ρ->bM R B az->Rep K az v d->Q v H')->r [v] H Q):
  eM K (zj r (ze cC zd)) (fun ρ k=>u ρ fun x=>f x k):=by
 intro ρ k h R W B H σ Q e q;refine ax ρ _ h R W B H σ _ e fun x v a0 H1 aa ai g1 ar=>?_;exact ak x k aa R W a0 H1 σ ρ v Q ai ar fun d u oW cU aL bG g3 fP=>q d u oW cU aL bG (g1.trans g3) fP
theorem jW(ax:br X e u)(aC:eB X "len")(hm:X.mg "len"=none)(aq:starEach [e] X.env=(false,eval e X.env)::starEach [] X.env:=by rfl):br X (.Call (.Name "len" p) [e] [] pos) (MK u):=by
 obtain⟨_,aa,ar⟩:=ax;refine⟨_,oN zl aC hm PySem.boot_len (eh aa fD aq) (by decide) (by decide) aq,vg (f:=fun x k=>∃n,sb x=some n/\k (.int n)) ar fun x k h R W B H σ ρ v Q e bc q=>?_⟩;obtain⟨n,aN,ah⟩:=h;cases x<;>first|(cases aN;done)|skip
 ·obtain⟨a,vs,rfl,ax,r⟩:=bc.tupV;cases aN;rw[<-r.length]at ah;exact⟨a,vs,rfl,.inr (eu.of (e.bh _ _ ax)),q _ _ B H ah e (bM.refl _ _) (.int _)⟩
 ·obtain⟨a,vs,rfl,ax,r⟩:=bc.lstV;cases aN;rw[<-r.length]at ah;exact⟨a,vs,rfl,.inl (cw.of (e.bh _ _ ax)),q _ _ B H ah e (bM.refl _ _) (.int _)⟩
 ·obtain⟨a,rfl,ax⟩:=bc.scrV;cases aN;refine⟨a,_,rfl,.inl (e.bh.seq ax),?_⟩;rw[Zf];exact q _ _ B H ah e (bM.refl _ _) (.int _)
theorem MP(i:Nat){x:Str}{px:Pos}(aC:eB X "len")(hm:X.mg "len"=none)(bD:X.N[i]?=some x:=by rfl)(aP:gb X.env.scope x:=by first|exact Sz rfl|exact ZN (Sz rfl)|exact ZN (ZN rfl))(hd:(x==("__debug__":Str))=false:=by decide)(dB:(x==("__classdict__":Str))=false:=by decide)(aq:starEach [.Name x px] X.env=(false,eval (.Name x px) X.env)::starEach [] X.env:=by rfl):br X (.Call (.Name "len" p) [.Name x px] [] pos) (ML i):=by
 refine⟨_,oN zl aC hm PySem.boot_len (eh (hG bD aP hd dB) fD aq) (by decide) (by decide) aq,fun ρ k h R W B H σ Q e q=>?_⟩;obtain⟨ds,aE,ah⟩:=h;obtain⟨a,vs,ai,av,bG,c4,eL⟩:=e.ownAt aE;rw[<-eL.length]at ah;exact⟨_,ai,a,vs,rfl,.inl (cw.of c4),q _ _ B H ah e (bM.refl _ _) (.int _)⟩
theorem vh(ax:br X e u)(aC:eB X "abs")(hm:X.mg "abs"=none)(aq:starEach [e] X.env=(false,eval e X.env)::starEach [] X.env:=by rfl):br X (.Call (.Name "abs" p) [e] [] pos) (MM u):=by
 obtain⟨_,aa,ar⟩:=ax;refine⟨_,oN Lg aC hm (by decide +kernel) (eh aa fD aq) (by decide) (by decide) aq,vg (f:=fun x k=>∃i,x=.int i/\k (.int (if i<0 then -i else i))) ar fun x k h R W B H σ ρ v Q e bc q=>?_⟩;obtain⟨i,rfl,ah⟩:=h;exact⟨i,by rw[bc.intV],q _ _ B H ah e (bM.refl _ _) (.int _)⟩
theorem Eo(ax:br X e u)(aC:eB X "int")(hm:X.mg "int"=none)(aq:starEach [e] X.env=(false,eval e X.env)::starEach [] X.env:=by rfl):br X (.Call (.Name "int" p) [e] [] pos) (MN u):=by
 obtain⟨_,aa,ar⟩:=ax;refine⟨_,DL Lh aC hm (by decide +kernel) (eh aa fD aq) (by decide) (by decide) aq,vg (f:=fun x k=>(∃i,x=.int i/\k (.int i))∨∃c,x=.bl c/\k (.int (if c then 1 else 0))) ar fun x k h R W B H σ ρ v Q e bc q=>?_⟩;rcases h with⟨i,rfl,ah⟩|⟨c,rfl,ah⟩
 ·exact .inl ⟨i,by rw[bc.intV],q _ _ B H ah e (bM.refl _ _) (.int _)⟩
 ·exact .inr ⟨c,by rw[bc.blV],q _ _ B H ah e (bM.refl _ _) (.int _)⟩
theorem MQ{B H:ao}{v:V}{x:D}{t:String}(s:cp B H)(r:Rep K B v x)(h:En x=some t):iR K H v (.type t):=by
 cases r<;>cases h
 ·exact .non
 ·exact .bl _
 ·exact .int _
 ·exact .str _
 ·exact .tup (s _ _ (by assumption))
 ·exact .lst (s _ _ (by assumption))
theorem mx{T:String}{y:Str}{lK:Pos}(ax:br X e u)(aC:eB X "isinstance")(hm:X.mg "isinstance"=none)(eb:b2 X (.Name y lK) (p5 (.ty T)))(aq:starEach [e,.Name y lK] X.env=(false,eval e X.env)::starEach [.Name y lK] X.env)(jL:starEach [.Name y lK] X.env=(false,eval (.Name y lK) X.env)::starEach [] X.env)(eK:(backTo pos (starEach [.Name y lK] X.env)).any (·.1)=false):br X (.Call (.Name "isinstance" p) [e,.Name y lK] [] pos) (MO u T):=by
 obtain⟨_,aa,ar⟩:=ax;refine⟨_,oN Mj aC hm (by decide +kernel) (eh aa (eh eb fD jL) aq) (by decide) (by decide) aq eK,fun ρ k h R W B H σ Q e q=>?_⟩;refine ar ρ _ h R W B H σ _ e fun x v a0 H1 aa ai g1 s1=>?_;obtain⟨t,b,bB,ah,z⟩:=aa;exact⟨v,_,T,b,rfl,MQ ai.bh s1 bB,ah _,q _ _ a0 H1 z ai g1 (.bl _)⟩
end
section
variable{K:PySem.W.Frag}{X:aM}{e:Expr}{es:List Expr}{u:a7}{w:cO}{pos p:Pos}
def zJ:cI:=fun U ρ=>U.nx ρ
def sd(s t:cI):cI:=fun U ρ=>s { U with nx:=t U } ρ
def vi(u:a7):cI:=fun U ρ=>u ρ fun d=>U.rt (.val d)
def MR(w:cO):cI:=fun U ρ=>w ρ fun ds=>U.rt (.own ds)
def MS(i:Nat)(u:a7):cI:=fun U ρ=>u ρ fun d=>U.nx (ρ.set i (.val d))
def zK(i:Nat)(w:cO):cI:=fun U ρ=>w ρ fun ds=>U.nx (ρ.set i (.own ds))
def zL(c:dA)(s t:cI):cI:=fun U ρ=>c ρ fun b=>if b=true then s U ρ else t U ρ
def MT(i:Nat)(s:cI):cI:=fun U ρ=>∃ds:List D,ρ[i]?=some (.own ds)/\s U (ρ.set i (.val (.lst ds)))
theorem ez:fX X [] zJ:=⟨_,rG,fun U ρ h R W B H σ D e s=>s.nx ρ σ B H h e (bM.refl _ _)⟩
theorem bC{st:Stmt}{s:cI}(h:e7 X st s):fX X [st] s:=by
 obtain⟨_,aa,ar⟩:=h;exact⟨_,m8 aa,ar⟩
theorem a8{st:Stmt}{rest:List Stmt}{s t:cI}(h:e7 X st s)(h':fX X rest t):fX X (st::rest) (sd s t):=by
 obtain⟨_,aa,ar⟩:=h;obtain⟨_,ab,aF⟩:=h';refine⟨_,km aa ab,fun U ρ h R W B H σ D e dw=>?_⟩;exact ar _ ρ h R W B H σ _ e ⟨fun bj a6 az H' z aT g=>aF U bj z R W az H' a6 D aT (dw.grow g),dw.bk,dw.ct,dw.rt⟩
theorem lL{st:List Stmt}{s:cI}(i:Nat)(h:fX X st s):fX X st (MT i s):=by
 obtain⟨_,aa,ar⟩:=h;refine⟨_,aa,fun U ρ h R W B H σ D e dw=>?_⟩;obtain⟨ds,aE,z⟩:=h;obtain⟨az,aT,g⟩:=e.fz aE;exact ar U _ z R W az H σ D aT (dw.grow g)
theorem zM{st:Stmt}:e7 X st (fun _ _=>False):=⟨_,Kt,fun U ρ h=>h.elim⟩
theorem MU{st:List Stmt}:fX X st (fun _ _=>False):=⟨Dp,fun _ _ _ _ _ _ h=>h.elim,fun U ρ h=>h.elim⟩
theorem cc(h:br X e u):e7 X (.Return (some e) pos) (vi u):=by
 obtain⟨_,aa,ar⟩:=h;refine⟨_,md aa,fun U ρ h R W B H σ D e s=>?_⟩;exact ar ρ _ h R W B H σ _ e fun d v a0 H1 z1 ai g1 s1=>s.rt _ v a0 H1 z1 ai.toWd g1 s1
theorem zN(h:jV X e w):e7 X (.Return (some e) pos) (MR w):=by
 obtain⟨_,aa,ar⟩:=h;refine⟨_,md aa,fun U ρ h R W B H σ D e s=>?_⟩;exact ar ρ _ h R W B H σ _ e fun ds a vs a0 H1 z1 ai g1 f1 f2 bO f4 d2=>s.rt (.own ds) _ a0 H1 z1 ai.toWd g1 ⟨a,rfl,f1,f2,vs,bO,f4⟩
theorem cF{i:Nat}{x:Str}{pos':Pos}(bD:X.N.Nodup)(aD:X.N[i]?=some x)(aB:Loc X.env.scope x)(he:br X e u)(aq:swapsWith e (some (.Name x pos')) pos.line X.env=pure false:=by rfl)(hf:X.fn x=true∨X.env.scope.names.lookup x=some .local:=by first|exact .inl rfl|exact .inr rfl|assumption):
  e7 X (.Assign [.Name x pos'] e pos) (MS i u):=by
 obtain⟨_,aa,ar⟩:=he;refine⟨_,oH bD aD aB aa aq hf,fun U ρ h R W B H σ D e s=>?_⟩;exact ar ρ _ h R W B H σ _ e fun d v a0 H1 z1 ai g1 s1=>s.nx _ _ a0 H1 z1 (ai.setV i s1) g1
theorem lM{i:Nat}{x:Str}{pos':Pos}(bD:X.N.Nodup)(aD:X.N[i]?=some x)(aB:Loc X.env.scope x)(he:jV X e w)(aq:swapsWith e (some (.Name x pos')) pos.line X.env=pure false:=by rfl)(hf:X.fn x=true∨X.env.scope.names.lookup x=some .local:=by first|exact .inl rfl|exact .inr rfl|assumption):
  e7 X (.Assign [.Name x pos'] e pos) (zK i w):=by
 obtain⟨_,aa,ar⟩:=he;refine⟨_,oH bD aD aB aa aq hf,fun U ρ h R W B H σ D e s=>?_⟩;exact ar ρ _ h R W B H σ _ e fun ds a vs a0 H1 z1 ai g1 f1 f2 bO f4 d2=>s.nx _ _ a0 H1 z1 (ai.setO i f1 f2 bO f4 fun j _=>d2 j) g1
theorem ei{c:Expr}{a b:List Stmt}{fR:dA}{s t:cI}(hc:ht X c fR)(ax:fX X a s)(af:fX X b t):e7 X (.If c a b pos) (zL fR s t):=by
 obtain⟨_,h0,fY⟩:=hc;obtain⟨_,aa,ar⟩:=ax;obtain⟨_,ab,aF⟩:=af;refine⟨_,rI h0 aa ab,fun U ρ h R W B H σ D e dw=>?_⟩;refine fY ρ _ h R W B H σ _ e fun c a0 H1 z1 ai g1=>?_;cases c with
 | true =>
  rw[if_pos rfl]at z1 ⊢;exact ar U ρ z1 R W a0 H1 σ D ai (dw.grow g1)
 | false =>
  rw[if_neg aal]at z1 ⊢;exact aF U ρ z1 R W a0 H1 σ D ai (dw.grow g1)
def gi(i:Nat):ec:=fun d ρ k=>k (ρ.set i (.val d))
def my:iW:=fun ds ρ k=>ds=[]/\k ρ
def g7(g:ec)(gj:iW):iW:=fun ds ρ k=>∃d r,ds=d::r/\g d ρ fun bj=>gj r bj k
def mz(n:Nat)(gj:iW):ec:=fun d ρ k=>∃ds,d=.tup ds/\ds.length=n/\gj ds ρ k
def MV(u:a7)(g:ec):cI:=fun U ρ=>u ρ fun d=>g d ρ U.nx
theorem b9{i:Nat}{x:Str}(bD:X.N.Nodup)(aD:X.N[i]?=some x)(aB:Loc X.env.scope x)(hf:X.fn x=true∨X.env.scope.names.lookup x=some .local:=by first|exact .inl rfl|exact .inr rfl|assumption):iX X (.Name x pos) (gi i):=
 ⟨_,uM bD aD aB hf,fun d ρ k h R W B H σ v Q e r q=>q _ _ h (e.setV i r) fun j a m=>by
  exact(r0 m (by simp) (by simp) rfl).2⟩
theorem f3:r3 X [] my:=⟨_,Ds,fun ds ρ k h R W B H σ vs Q e r q=>by
 obtain⟨rfl,h⟩:=h;cases r
 exact⟨rfl,q _ _ h e fun _ _ m=>m⟩⟩
theorem c1{g:ec}{gj:iW}(aa:iX X e g)(ab:r3 X es gj)(aq:(assignEach (e::es) X.env).map (·.2)=assign e X.env::(assignEach es X.env).map (·.2):=by rfl):r3 X (e::es) (g7 g gj):=by
 obtain⟨_,aa,ar⟩:=aa;obtain⟨_,ab,aF⟩:=ab;refine⟨_,Dt aa ab aq,fun ds ρ k h R W B H σ vs Q e r q=>?_⟩;obtain⟨d,hI,rfl,h⟩:=h;cases r with
 | cons b3 rs =>
  refine⟨_,_,rfl,ar d ρ _ h R W B H σ _ _ e b3 fun bj a6 z aT bF=>?_⟩;exact aF hI bj k z R W B H a6 _ _ aT rs fun zO qt aQ av b8=>q zO qt aQ av fun j a m=>bF j a (b8 j a m)
theorem gk{cf:Nat}{gj:iW}{n:Nat}(hc:X.calm=true)(h:r3 X es gj)(aN:(assignEach es X.env).length=n:=by rfl)(me:(assignEach es X.env).findIdx? (·.1)=none:=by rfl):iX X (.Tuple es cf pos) (mz n gj):=by
 obtain⟨_,aa,ar⟩:=h;refine⟨_,Du hc aa aN me,fun d ρ k h R W B H σ v Q e r q=>?_⟩;obtain⟨ds,rfl,aj,h⟩:=h;obtain⟨a,vs,rfl,ax,rs⟩:=r.tupV;exact⟨a,vs,rfl,eu.of (e.bh _ _ ax),by rw[rs.length];exact aj,ar ds ρ k h R W B H σ vs Q e rs q⟩
theorem hS{bE:Expr}{g:ec}(he:br X e u)(aC:iX X bE g)(aq:swapsWithSole [bE] e pos.line X.env=pure false:=by rfl)(hw:swappedStores [bE] e X.env=pure none:=by rfl)(aa:(assignEach [bE] X.env).map (·.2)=[assign bE X.env]:=by rfl):e7 X (.Assign [bE] e pos) (MV u g):=by
 obtain⟨_,ax,ar⟩:=he;obtain⟨_,af,aF⟩:=aC;refine⟨_,uN ax af aq hw aa,fun U ρ h R W B H σ D e s=>?_⟩;refine ar ρ _ h R W B H σ _ e fun d v a0 H1 z1 ai g1 s1=>?_;exact aF d ρ _ z1 R W a0 H1 σ v _ ai s1 fun bj a6 aQ av _=>s.nx _ _ a0 H1 aQ av g1
def MW(i j:Nat)(w:cO):cI:=fun U ρ=>w ρ fun ds=>∃x y,ds=[x,y]/\U.nx ((ρ.set i (.val x)).set j (.val y))
theorem Ep{i j:Nat}{x y:Str}{a b:Expr}{px py pt:Pos}{kt ck oI}(hc:X.calm=true)(bD:X.N.Nodup)(aD:X.N[i]?=some x)(bP:X.N[j]?=some y)(mf:i≠j)(aB:X.env.scope.names.lookup x=some .local)(a5:X.env.scope.names.lookup y=some .local)(ax:oV X [a,b] w)(hw:swappedStores [.Tuple [.Name x px,.Name y py] kt pt] (.Tuple [a,b] ck oI) X.env=pure (some [x,y]))(aq:swapsWithSole [.Tuple [.Name x px,.Name y py] kt pt] (.Tuple [a,b] ck oI) pos.line X.env=pure false:=by rfl):
  e7 X (.Assign [.Tuple [.Name x px,.Name y py] kt pt] (.Tuple [a,b] ck oI) pos) (MW i j w):=by
 obtain⟨_,aa,ar⟩:=ax;refine⟨_,Kz hc bD aD bP mf aB a5 aa hw aq,fun U ρ h R W B H σ D e s=>?_⟩;refine ar ρ _ h R W B H σ _ e fun ds vs a0 H1 z1 ai g1 s1=>?_;obtain⟨x,y,rfl,z1⟩:=z1;cases s1 with
 | cons jX rb=>cases rb with
  | cons rb rc =>
   cases rc;exact⟨_,_,rfl,s.nx _ _ a0 H1 z1 ((ai.setV i jX).setV j rb) g1⟩
def MX(c:dA)(s:cI):cI:=fun U ρ=>∃M:Nat->List aH->Prop,(∃m,M m ρ)/\∀m ρ,M m ρ->c ρ fun b=>if b=true then s { U with nx:=fun bj=>∃m',m'<m/\M m' bj,ct:=fun bj=>∃m',m'<m/\M m' bj,bk:=U.nx } ρ else U.nx ρ
theorem Er{c:Expr}{body:List Stmt}{fR:dA}{s:cI}(ag:PassesOwn (model X.prog X.w) X.A X.env X.xe)(hc:ht X c fR)(af:fX X body s):e7 X (.While c body [] pos) (MX fR s):=by
 obtain⟨_,h0,fY⟩:=hc;obtain⟨_,aa,ar⟩:=af;refine⟨_,KL ag h0 aa,fun U ρ h R W B H σ D e dw=>?_⟩;obtain⟨M,⟨m0,hm⟩,turn⟩:=h;refine⟨fun m a6 H'=>∃bj az,M m bj/\Ev X.K R W az H' a6 bj/\bM R B az,⟨m0,ρ,B,hm,e,bM.refl _ _⟩,?_⟩;rintro m gc H1 ⟨gG,a0,Es,ai,g1⟩;refine fY gG _ (turn m gG Es) R W a0 H1 gc _ ai fun b bH a3 aQ av g2=>?_;cases b with
 | true =>
  rw[if_pos rfl]at aQ ⊢;refine⟨fun a6 H'=>∃bj az,(∃m',m'<m/\M m' bj)/\Ev X.K R W az H' a6 bj/\bM R B az,?_,?_⟩
  ·rintro a6 H' ⟨bj,az,⟨m',l,q⟩,aT,g'⟩;exact⟨m',l,bj,az,q,aT,g'⟩
  ·have vj:=g1.trans g2;exact ar _ gG aQ R W bH a3 gc _ av ⟨fun bj a6 az H' z aT g=>⟨bj,az,z,aT,vj.trans g⟩,fun bj a6 az H' z aT g=>dw.nx bj a6 az H' z aT (vj.trans g),fun bj a6 az H' z aT g=>⟨bj,az,z,aT,vj.trans g⟩,fun r v az H' z aT g q=>dw.rt r v az H' z aT (vj.trans g) q⟩
 | false =>
  rw[if_neg aal]at aQ ⊢;exact dw.nx gG gc bH a3 aQ av (g1.trans g2)
theorem jk.list{B:ao}{a:Addr}{vs:List V}{ds:List D}(h:B a=some (.lst vs))(r:Reps K B vs ds):jk K B (y1 K a) ds:=by
 intro H s i;have dm:=s _ _ h;have q:cw K H a vs:=cw.of dm;refine⟨fun aD=>?_,fun aD=>⟨vs,q,by rw[r.length];exact aD⟩,fun x H' aD ⟨ai,av⟩=>⟨ai,?_⟩⟩
 ·obtain⟨v,e,_⟩:=r.get (aan aD);exact⟨vs,v,q,e⟩
 ·exact r.getV (av vs q)
theorem jk.tup{B:ao}{a:Addr}{vs:List V}{ds:List D}(h:B a=some (.tup vs))(r:Reps K B vs ds):jk K B (y2 K a) ds:=by
 intro H s i;have dm:=s _ _ h;have q:eu K H a vs:=eu.of dm;refine⟨fun aD=>?_,fun aD=>⟨vs,q,by rw[r.length];exact aD⟩,fun x H' aD ⟨ai,av⟩=>⟨ai,?_⟩⟩
 ·obtain⟨v,e,_⟩:=r.get (aan aD);exact⟨vs,v,q,e⟩
 ·exact r.getV (av vs q)
theorem jk.rng{B:ao}(n:Nat):jk K B (p7 0 n) ((aau n).map fun i:Nat=>D.int i):=by
 intro H s i;rw[Zf,acj];refine⟨fun aD=>aD,fun aD=>aD,fun x H' aD ⟨ai,av⟩=>⟨ai,?_⟩⟩;refine⟨.int i,?_,?_⟩
 ·rw[aag,ack aD];rfl
 ·rw[av,Int.zero_add];exact .int _
def MY(u:a7):cO:=fun ρ k=>u ρ fun d=>∃ds,d=.lst ds/\k ds
def MZ(u:a7):cO:=fun ρ k=>u ρ fun d=>∃ds,d=.tup ds/\k ds
def M0(u:a7):cO:=fun ρ k=>u ρ fun d=>∃j,d=.int j /\ -(2^62)<=j/\j<2^62/\k ((aau j.toNat).map fun i:Nat=>D.int i)
variable{bE:Expr}
theorem iZ{l:Expr}(aj:br X l u):lH X bE l (MY u):=by
 obtain⟨_,aa,ar⟩:=aj;refine⟨_,y3 aa,fun ρ k h R W B H σ Q e q=>?_⟩;refine ar ρ _ h R W B H σ _ e fun d v a0 H1 z1 ai g1 s1=>?_;obtain⟨ds,rfl,z⟩:=z1;obtain⟨a,vs,rfl,ax,rs⟩:=s1.lstV;exact⟨a,rfl,⟨vs,cw.of (ai.bh _ _ ax)⟩,q ds _ a0 H1 z ai g1 (jk.list ax rs)⟩
theorem Et{l:Expr}(aj:br X l u):lH X bE l (MZ u):=by
 obtain⟨_,aa,ar⟩:=aj;refine⟨_,KS aa,fun ρ k h R W B H σ Q e q=>?_⟩;refine ar ρ _ h R W B H σ _ e fun d v a0 H1 z1 ai g1 s1=>?_;obtain⟨ds,rfl,z⟩:=z1;obtain⟨a,vs,rfl,ax,rs⟩:=s1.tupV;exact⟨a,rfl,⟨vs,eu.of (ai.bh _ _ ax)⟩,q ds _ a0 H1 z ai g1 (jk.tup ax rs)⟩
theorem zP{a:Expr}(ax:br X a u)(aC:eB X "range")(hm:X.mg "range"=none)(aq:starEach [a] X.env=[(false,eval a X.env)]:=by rfl):lH X bE (.Call (.Name "range" p) [a] [] pos) (M0 u):=by
 obtain⟨_,aa,ar⟩:=ax;refine⟨_,KW aC hm (eh aa fD (by exact aq)) aq,fun ρ k h R W B H σ Q e q=>?_⟩;refine ar ρ _ h R W B H σ _ e fun d v a0 H1 z1 ai g1 s1=>?_;obtain⟨j,rfl,M1,eN,z⟩:=z1;exact⟨j,by rw[s1.intV],M1,eN,q _ _ a0 H1 z ai g1 (jk.rng _)⟩
def forR(g:ec)(s:cI)(U:fW):List D->List aH->Prop
 | [],ρ=>U.nx ρ
 | d::ds,ρ=>g d ρ fun bj=>s { U with nx:=forR g s U ds,ct:=forR g s U ds,bk:=U.nx } bj
def M3(w:cO)(g:ec)(s:cI):cI:=fun U ρ=>w ρ fun ds=>forR g s U ds ρ
theorem nz{iter:Expr}{body:List Stmt}{g:ec}{s:cI}(ag:PassesOwn (model X.prog X.w) X.A X.env X.xe)(hc:X.calm=true)(aD:lH X bE iter w)(aC:iX X bE g)(af:fX X body s)(aq:∀x,foldedSetIterable iter X.env x=pure x:=by intro _;rfl):e7 X (.For bE iter body [] pos) (M3 w g s):=by
 obtain⟨_,h0,fY⟩:=aD;obtain⟨_,aa,ar⟩:=aC;obtain⟨_,ab,aF⟩:=af;refine⟨_,rN ag hc h0 aa ab aq,fun U ρ h R W B H σ D e dw=>?_⟩;refine fY ρ _ h R W B H σ _ e fun ds J a0 H1 z1 ai g1 it=>?_;refine⟨fun i m a6 H'=>∃bj az,m=ds.length-i/\i<=ds.length/\forR g s U (ds.drop i) bj/\Ev X.K R W az H' a6 bj/\bM R B az/\cp a0 az,⟨ds.length,ρ,a0,by simp,aaE _,z1,ai,g1,cp.refl _⟩,?_⟩;rintro i m gc a3 ⟨gG,bH,rfl,aD,aQ,av,g2,s2⟩;obtain⟨t1,cY,t3⟩:=it a3 (s2.trans av.bh) i;by_cases cE:i<ds.length
 ·refine .inr ⟨t1 cE,fun a6 H'=>∃bj az,forR g s U (ds.drop (i+1)) bj/\Ev X.K R W az H' a6 bj/\bM R B az/\cp a0 az,?_,?_⟩
  ·rintro a6 H' ⟨bj,az,z,aT,g',s'⟩;exact⟨ds.length-(i+1),by omega,bj,az,rfl,cE,z,aT,g',s'⟩
  ·intro x H' y;obtain⟨rfl,d,hd,bc⟩:=t3 x H' cE y
   have gn:ds.drop i=d::ds.drop (i+1):=by
    rw[abd cE];rw[aan cE]at hd;rw[aab hd]
   rw[gn]at aQ;refine ar d gG _ aQ R W bH _ gc x _ av (bc.mono s2) fun bj a6 er aT _=>?_;exact aF _ bj er R W bH _ a6 _ aT ⟨fun bj a6 az H' z aT g=>⟨bj,az,z,aT,g2.trans g,s2.trans g.s⟩,fun bj a6 az H' z aT g=>dw.nx bj a6 az H' z aT (g2.trans g),fun bj a6 az H' z aT g=>⟨bj,az,z,aT,g2.trans g,s2.trans g.s⟩,fun r v az H' z aT g q=>dw.rt r v az H' z aT (g2.trans g) q⟩
 ·have eZ:i=ds.length:=by omega
  subst eZ;rw[abm]at aQ;exact .inl ⟨cY (Zg _),dw.nx gG gc bH a3 aQ av g2⟩
end
section
variable{K:PySem.W.Frag}{X:aM}{e:Expr}{es:List Expr}{u:a7}{w:cO}{pos p:Pos}
theorem Ev.newO{R:ao}{W:Addr->Prop}{B H:ao}{σ:St}{ρ:List aH}(e:Ev K R W B H σ ρ){q:Addr}(ay:H q=none){vs:List V}{ds:List D}(r:Reps K B vs ds):
  Ev K R W B (upd H q (.lst vs)) σ ρ/\R q=none/\B q=none/\(upd H q (.lst vs)) q=some (.lst vs)/\∀i,¬cP σ ρ i q:=by
 obtain⟨f1,f2,bO⟩:=e.toWd.fresh ay;exact⟨e.allocH ay _,f1,bO,en,fun i m=>e.notNew ay m rfl⟩
def fx{α:Type}(xs:List α)(lo aD:Option Int):List α:=(xs.drop (HT.sIx xs.length 0 lo)).take (HT.sIx xs.length xs.length aD-HT.sIx xs.length 0 lo)
theorem Reps.cut{B:ao}{vs:List V}{ds:List D}(r:Reps K B vs ds)(lo aD:Option Int):Reps K B (fx vs lo aD) (fx ds lo aD):=by
 unfold fx;rw[r.length];exact(r.drop _).take _
theorem zQ{α β:Type}(f:α->β)(xs:List α)(lo aD:Option Int):fx (xs.map f) lo aD=(fx xs lo aD).map f:=by
 unfold fx;rw[Zf,<-List.map_drop,<-List.map_take]
abbrev qu:=List aH->(Option Int->Prop)->Prop
def M4(K:PySem.W.Frag)(t:qe)(u:qu):Prop:=∀(ρ:List aH)(k:Option Int->Prop),u ρ k->∀(R:ao)(W:Addr->Prop)(B H:ao)(σ:St)(Q:Option Int->ao->Prop),Ev K R W B H σ ρ ->
 (∀o az H',k o->Ev K R W az H' σ ρ->bM R B az->Q o H')->t σ H Q
def vk(X:aM)(e:Option Expr)(u:qu):Prop:=∃t,rU X e t/\M4 X.K t u
def M5:qu:=fun _ k=>k none
def M6(u:a7):qu:=fun ρ k=>u ρ fun d=>∃i,d=.int i/\k (some i)
theorem zR:vk X none M5:=⟨_,Ly,fun ρ k h R W B H σ Q e q=>q none B H h e (bM.refl _ _)⟩
theorem oZ(h:br X e u):vk X (some e) (M6 u):=by
 obtain⟨_,aa,ar⟩:=h;refine⟨_,Lz aa,fun ρ k h R W B H σ Q e q=>?_⟩;refine ar ρ _ h R W B H σ _ e fun d v a0 H1 z1 ai g1 s1=>?_;obtain⟨i,rfl,z⟩:=z1;exact⟨i,s1.intV,q _ a0 H1 z ai g1⟩
def Eu:D->Option (List D)
 | .lst ds=>some ds
 | .scr ns=>some (ns.map .int)
 | _=>none
theorem M7{B H:ao}{v:V}{x:D}{ds:List D}(s:cp B H)(r:Rep K B v x)(h:Eu x=some ds):∃a vs,v=.ref a/\cw K H a vs/\Reps K B vs ds:=by
 cases x<;>first|(cases h;done)|skip
 ·obtain⟨a,vs,rfl,ax,rs⟩:=r.lstV;cases h;exact⟨a,vs,rfl,cw.of (s _ _ ax),rs⟩
 ·obtain⟨a,rfl,ax⟩:=r.scrV;cases h;exact⟨a,_,rfl,s.seq ax,Reps.ints _⟩
def M8(u:a7)(l h:qu):cO:=fun ρ k=>u ρ fun x=>l ρ fun lo=>h ρ fun aD=>∃ds,Eu x=some ds/\k (fx ds lo aD)
theorem se{lo aD:Option Expr}{ul Ew:qu}{c5:Pos}(he:br X e u)(aj:vk X lo ul)(eJ:vk X aD Ew):jV X (.Subscript e (.Slice lo aD none c5) pos) (M8 u ul Ew):=by
 obtain⟨_,aa,ar⟩:=he;obtain⟨_,ab,aF⟩:=aj;obtain⟨_,aL,fP⟩:=eJ;refine⟨_,LB LN aa ab aL,fun ρ k h R W B H σ Q e q=>?_⟩;refine ar ρ _ h R W B H σ _ e fun d v a0 H1 z1 ai g1 s1=>?_;refine aF ρ _ z1 R W a0 H1 σ _ ai fun lo bH a3 aQ av g2=>?_;refine fP ρ _ aQ R W bH a3 σ _ av fun aD oW cU fF bG g3=>?_;obtain⟨ds,hd,z⟩:=fF;obtain⟨a,vs,rfl,ax,rs⟩:=M7 bG.bh (s1.mono (g2.trans g3).s) hd;refine⟨a,vs,rfl,ax,fun p ag=>?_⟩;obtain⟨f1,f2,bO,f4,d2⟩:=bG.newO ag (rs.cut lo aD);exact q _ p _ oW _ z f1 ((g1.trans g2).trans g3) f2 bO f4 (rs.cut lo aD) d2
def vl(u v:a7):cO:=fun ρ k=>u ρ fun x=>v ρ fun y=>∃ds es,x=.lst ds/\y=.lst es/\ds.length+es.length<=sizeLine/\k (ds++es)
theorem jm{a b:Expr}{bJ bT:a7}(ax:br X a bJ)(af:br X b bT):jV X (.BinOp a .Add b pos) (vl bJ bT):=by
 obtain⟨_,aa,ar⟩:=ax;obtain⟨_,ab,aF⟩:=af;refine⟨_,ff L5 aa ab,fun ρ k h R W B H σ Q e q=>?_⟩;refine ar ρ _ h R W B H σ _ e fun d v a0 H1 z1 ai g1 s1=>?_;refine aF ρ _ z1 R W a0 H1 σ _ ai fun d' rE bH a3 aQ av g2 s2=>?_;obtain⟨ds,es,rfl,rfl,aj,z⟩:=aQ;obtain⟨a,vs,rfl,ax,rs⟩:=(s1.mono g2.s).lstV;obtain⟨b,ws,rfl,af,rt⟩:=s2.lstV;refine⟨a,b,vs,ws,rfl,rfl,av.bh _ _ ax,av.bh _ _ af,by rw[rs.length,rt.length];exact aj,fun p ag=>?_⟩;obtain⟨f1,f2,bO,f4,d2⟩:=av.newO ag (rs.append rt);exact q _ p _ bH _ z f1 (g1.trans g2) f2 bO f4 (rs.append rt) d2
def M9(u:a7):cO:=fun ρ k=>u ρ fun x=>∃ds,(x=.lst ds∨x=.tup ds)/\k ds
theorem M'(ax:br X e u)(aC:eB X "list")(hm:X.mg "list"=none)(aq:starEach [e] X.env=(false,eval e X.env)::starEach [] X.env:=by rfl):jV X (.Call (.Name "list" p) [e] [] pos) (M9 u):=by
 obtain⟨_,aa,ar⟩:=ax;refine⟨_,DL LO aC hm (by decide +kernel) (eh aa fD aq) (by decide) (by decide) aq,fun ρ k h R W B H σ Q e q=>?_⟩;refine ar ρ _ h R W B H σ _ e fun d v a0 H1 z1 ai g1 s1=>?_;obtain⟨ds,hd,z⟩:=z1;rcases hd with rfl|rfl
 ·obtain⟨a,vs,rfl,ax,rs⟩:=s1.lstV;refine⟨a,vs,rfl,.inl (cw.of (ai.bh _ _ ax)),fun p ag=>?_⟩;obtain⟨f1,f2,bO,f4,d2⟩:=ai.newO ag rs;exact q _ p _ a0 _ z f1 g1 f2 bO f4 rs d2
 ·obtain⟨a,vs,rfl,ax,rs⟩:=s1.tupV;refine⟨a,vs,rfl,.inr (eu.of (ai.bh _ _ ax)),fun p ag=>?_⟩;obtain⟨f1,f2,bO,f4,d2⟩:=ai.newO ag rs;exact q _ p _ a0 _ z f1 g1 f2 bO f4 rs d2
theorem Ex{B:ao}:∀{ns:List Int}{vs:List V},Reps K B vs (ns.map D.int)->vs=ns.map V.int
 | [],_,.nil=>rfl
 | n::r,_,.cons h t=>by rw[h.intV,Ex t];rfl
def zS(i:Nat)(u:a7):cI:=fun U ρ=>∃ds:List D,ρ[i]?=some (.own ds)/\u ρ fun d=>ds.length<sizeLine/\U.nx (ρ.set i (.own (ds++[d])))
theorem nA(i:Nat){x:Str}{px apos cW:Pos}(he:br X e u)(bD:X.N[i]?=some x:=by rfl)(aP:gb X.env.scope x:=by first|exact Sz rfl|exact ZN (Sz rfl)|exact ZN (ZN rfl))(hd:(x==("__debug__":Str))=false:=by decide)(dB:(x==("__classdict__":Str))=false:=by decide)(ip:attributeBase (.Name x px) "append" X.env (eval (.Name x px) X.env)=eval (.Name x px) X.env:=by rfl)(kx:((backTo cW (starEach [e] X.env)).all (fun x => !x.1)&&(backToKw cW (keywordEach [] X.env)).all (fun x=>x.1.isSome)
   && decide ([e].length+([]:List Keyword).length+(if([]:List Keyword).isEmpty then 0 else 1)<30))=true:=by rfl)(iq:(apos.endLine==cW.line)=true:=by rfl)(aq:starEach [e] X.env=(false,eval e X.env)::starEach [] X.env:=by rfl)(oO:(backTo cW (starEach ([]:List Expr) X.env)).any (·.1)=false:=by rfl)(kE:swapsWith (.Call (.Attribute (.Name x px) "append" apos) [e] [] cW) none pos.line X.env=pure false:=by rfl):e7 X (.Expr (.Call (.Attribute (.Name x px) "append" apos) [e] [] cW) pos) (zS i u):=by
 obtain⟨_,aa,ar⟩:=he;refine⟨_,rH (u0 abM PySem.F.slot_list_append PySem.F.type_list_append DU (hG bD aP hd dB) (eh aa fD aq) ip kx iq aq oO) kE,fun U ρ h R W B H σ D e s=>?_⟩;obtain⟨ds,aE,h⟩:=h;obtain⟨a,vs,ai,av,bG,c4,eL⟩:=e.ownAt aE;refine⟨_,ai,.inl ⟨rfl,vs,cw.of c4⟩,?_⟩;refine ar ρ _ h R W B H σ _ e fun d v a0 H1 z1 f1 g1 s1=>?_;obtain⟨eI,kF,bY,ck,fS,iy,nB⟩:=f1.ownAt aE;rw[ai]at bY;cases bY;exact⟨a,kF,v,rfl,rfl,iy,by rw[nB.length];exact z1.1,s.nx _ _ a0 _ z1.2 (f1.write ai aE (nB.append (.cons s1 .nil))) g1⟩
def jn(ρ:List aH)(j:Nat):aH:=match ρ[j]? with
 | some (.val d)=>.val d
 | some .bag=>.bag
 | _=>.no
theorem Ev.scribble{R:ao}{W:Addr->Prop}{B H:ao}{σ:St}{ρ:List aH}(e:Ev K R W B H σ ρ){a:Addr}(ak:R a=none)(af:B a=none)(hm:∀i,¬cP σ ρ i a)(o:eV):Ev K R W B (upd H a o) σ ρ:=by
 have nw:¬W a:=fun z=>e.wr a z ak;refine e.move ⟨fun b q h z=>?_,fun b q h=>?_,e.wb,fun b z=>(e.wh b z).upd (by rintro rfl;exact nw z),e.wr⟩ (cp.refl _) fun i b m=>?_
 ·rw[dz (by rintro rfl;rw[ak]at h;cases h)];exact e.fr b q h z
 ·rw[dz (by rintro rfl;rw[af]at h;cases h)];exact e.bh b q h
 ·have n:b≠a:=by rintro rfl;exact hm i m
  refine⟨(e.mutOk m).1,fun z=>?_,fun _=>dz n⟩;obtain⟨c,aG,_,_,bQ⟩:=e.bagAt z;rw[oT m z]at aG;cases aG;exact bQ.upd n
theorem Na{σ:St}{js:List Nat}{i:Nat}{o:Option V}(h:(hs σ js)[i]?=some o):∃j,js[i]?=some j/\o=(σ[j]?).join:=by
 unfold hs at h;rw[aag]at h;cases q:js[i]? with
 | none=>rw[q]at h;cases h
 | some j=>rw[q]at h;exact⟨j,rfl,(aab h).symm⟩
def Nb(K:PySem.W.Frag)(t:TE)(u:List aH->Prop->Prop):Prop:=∀(ρ:List aH)(k:Prop),u ρ k->∀(R:ao)(W:Addr->Prop)(B H:ao)(σ:St)(Q:cN),Ev K R W B H σ ρ ->
 (∀a az H',k->Ev K R W az H' σ ρ->bM R B az->R a=none->az a=none->gh H' a->(∀i,¬cP σ ρ i a)->Q (.ref a) H')->t σ H Q
def Ey(X:aM)(e:Expr)(u:List aH->Prop->Prop):Prop:=∃t,b2 X e t/\Nb X.K t u
def Nc(n:Nat)(F:FS)(w:hO):List aH->Prop->Prop:=fun ρ k=>w ρ fun as=>sh as n=true/\F (as.map Arg.sl) fun r=>r=.bag/\k
theorem Nd{n:Nat}{F:FS}{w:hO}{x:Str}{ps:List Str}{j lv:Nat}(c:aI X.prog X.w X.K X.mg X.base x ps j (aK X.K n F))(ak:eC lv X.A)(aC:eB X x)(ax:lG X (e::es) w)(gQ:j<=lv:=by decide)(g0:(x==("__debug__":Str))=false:=by decide)(he:starEach (e::es) X.env=(false,eval e X.env)::starEach es X.env:=by rfl)(eK:(backTo pos (starEach es X.env)).any (·.1)=false:=by rfl):
  Ey X (.Call (.Name x p) (e::es) [] pos) (Nc n F w):=by
 obtain⟨_,aa,ar⟩:=ax;refine⟨_,qk c ak aC aa gQ g0 he eK,fun ρ k h R W B H σ Q e q=>?_⟩;refine ar ρ _ h R W B H σ _ e fun as vs a0 H1 z1 ai g1 s1=>?_;rw[Z'];refine qs ai s1 z1.1 z1.2 fun r v bH a3 ah av g2 res=>?_;obtain⟨rfl,ah⟩:=ah;obtain⟨a,rfl,f1,f2,bO⟩:=res;exact q a bH a3 ah av (g1.trans g2) (ai.toWd.fresh f1).1 f2 bO fun i m=>(ai.mutOk m).2 f1
def Nf(i:Nat)(u:List aH->Prop->Prop):cI:=fun U ρ=>u ρ (U.nx (ρ.set i .bag))
theorem Ng{i:Nat}{x:Str}{pos':Pos}{u:List aH->Prop->Prop}(bD:X.N.Nodup)(aD:X.N[i]?=some x)(aB:Loc X.env.scope x)(he:Ey X e u)(aq:swapsWith e (some (.Name x pos')) pos.line X.env=pure false:=by rfl)(hf:X.fn x=true∨X.env.scope.names.lookup x=some .local:=by first|exact .inl rfl|exact .inr rfl|assumption):
  e7 X (.Assign [.Name x pos'] e pos) (Nf i u):=by
 obtain⟨_,aa,ar⟩:=he;refine⟨_,oH bD aD aB aa aq hf,fun U ρ h R W B H σ D e s=>?_⟩;refine ar ρ _ h R W B H σ _ e fun a a0 H1 z1 ai g1 f1 f2 bO f4=>s.nx _ _ a0 H1 z1 (ai.set i ⟨a,rfl,.inr f1,f2,bO⟩ fun b z _ j _=>?_) g1;cases z;exact f4 j
end
end L3
namespace L3
open PySem L2
inductive hv where
 | I|B|N|S|T (ss:List hv)|L (s:hv)
mutual
def has:hv->D->Bool
 | .I,.int _=>true
 | .B,.bl _=>true
 | .N,.non=>true
 | .S,.str _=>true
 | .T ss,.tup xs=>hass ss xs
 | .L s,.lst xs=>xs.all fun x=>has s x
 | _,_=>false
def hass:List hv->List D->Bool
 | [],[]=>true
 | s::ss,x::xs=>has s x&&hass ss xs
 | _,_=>false
end
mutual
def dep:hv->Nat
 | .T ss=>deps ss+1
 | .L s=>dep s+1
 | _=>0
def deps:List hv->Nat
 | []=>0
 | s::ss=>max (dep s) (deps ss)
end
noncomputable def eqD(x y:D):Bool :=@decide (x=y) (abx _)
theorem sf{x y:D}:eqD x y=true↔x=y:=by unfold eqD;exact @decide_eq_true_iff _ (abx _)
theorem o1(x:D):eqD x x=true:=sf.mpr rfl
theorem nC{x y:D}{b:Bool}(h:b=true↔x=y):eqD x y=b:=by
 rw[acS,sf,h]
section
variable{K:PySem.W.Frag}{B:ao}
theorem has_int{x:D}(h:has .I x=true):∃i,x=.int i:=by cases x<;>first|exact⟨_,rfl⟩|(simp[has]at h)
theorem vm{x:D}(h:has .B x=true):∃i,x=.bl i:=by cases x<;>first|exact⟨_,rfl⟩|(simp[has]at h)
theorem vn{x:D}(h:has .N x=true):x=.non:=by cases x<;>first|rfl|(simp[has]at h)
theorem has_str{x:D}(h:has .S x=true):∃i,x=.str i:=by cases x<;>first|exact⟨_,rfl⟩|(simp[has]at h)
theorem vo{x:D}{ss:List hv}(h:has (.T ss) x=true):∃xs,x=.tup xs/\hass ss xs=true:=by
 cases x<;>first|exact⟨_,rfl,by simpa[has]using h⟩|(simp[has]at h)
theorem vp{x:D}{s:hv}(h:has (.L s) x=true):∃xs,x=.lst xs/\∀y∈xs,has s y=true:=by
 cases x<;>first|exact⟨_,rfl,by simpa[has]using h⟩|(simp[has]at h)
theorem si:∀{ss:List hv}{xs:List D},hass ss xs=true->xs.length=ss.length
 | [],[],_=>rfl
 | [],_::_,h=>by simp[hass]at h
 | _::_,[],h=>by simp[hass]at h
 | s::ss,x::xs,h=>by
  simp[hass]at h;simp[si h.2]
mutual
theorem o2:∀(sh:hv){x y:D}{v:V},has sh x=true->has sh y=true->Rep K B v x->Rep K B v y->x=y
 | .I,x,y,v,aa,ab,ar,aF=>by
  obtain⟨i,rfl⟩:=has_int aa;obtain⟨j,rfl⟩:=has_int ab
  have e:=ar.intV.symm.trans aF.intV
  cases e;rfl
 | .B,x,y,v,aa,ab,ar,aF=>by
  obtain⟨i,rfl⟩:=vm aa;obtain⟨j,rfl⟩:=vm ab
  have e:=ar.blV.symm.trans aF.blV
  cases e;rfl
 | .N,x,y,v,aa,ab,ar,aF=>by rw[vn aa,vn ab]
 | .S,x,y,v,aa,ab,ar,aF=>by
  obtain⟨i,rfl⟩:=has_str aa;obtain⟨j,rfl⟩:=has_str ab
  cases ar;cases aF;rfl
 | .T ss,x,y,v,aa,ab,ar,aF=>by
  obtain⟨xs,rfl,a4⟩:=vo aa;obtain⟨ys,rfl,bS⟩:=vo ab
  obtain⟨a,vs,rfl,ax,jX⟩:=ar.tupV
  obtain⟨b,ws,e,af,rb⟩:=aF.tupV
  cases e
  rw[ax]at af;cases af
  rw[reps_fn ss a4 bS jX rb]
 | .L s,x,y,v,aa,ab,ar,aF=>by
  obtain⟨xs,rfl,a4⟩:=vp aa;obtain⟨ys,rfl,bS⟩:=vp ab
  obtain⟨a,vs,rfl,ax,jX⟩:=ar.lstV
  obtain⟨b,ws,e,af,rb⟩:=aF.lstV
  cases e
  rw[ax]at af;cases af
  have:xs=ys:=by
   apply abJ
   intro i
   cases zT:xs[i]? with
   | none =>
    have:ys[i]?=none:=by
     have aa:=jX.length
     have ab:=rb.length
     have aL:=adw.mp zT
     exact adw.mpr (by omega)
    rw[this]
   | some d =>
    obtain⟨v,ev,b3⟩:=jX.get zT
    obtain⟨d',gn,iz⟩:=rb.getV ev
    rw[gn,o2 s (a4 d (aaD zT)) (bS d' (aaD gn)) b3 iz]
  rw[this]
theorem reps_fn:∀(ss:List hv){xs ys:List D}{vs:List V},hass ss xs=true->hass ss ys=true->Reps K B vs xs->Reps K B vs ys->xs=ys
 | [],xs,ys,vs,aa,ab,ar,aF=>by
  have ai:=si aa;have av:=si ab
  rw[abn]at ai av
  rw[adx ai,adx av]
 | s::ss,[],ys,vs,aa,ab,ar,aF=>by simp[hass]at aa
 | s::ss,x::xs,[],vs,aa,ab,ar,aF=>by simp[hass]at ab
 | s::ss,x::xs,y::ys,vs,aa,ab,ar,aF=>by
  simp[hass]at aa ab
  cases ar with
  | cons a1 a9=>cases aF with
   | cons a2 bf=>rw[o2 s aa.1 ab.1 a1 a2,reps_fn ss aa.2 ab.2 a9 bf]
end
end
section
variable{X:aM}{pins:List (Addr×Obj)}{σ:St}{H B:ao}{s:Shared}
theorem Ez{xs ys:List D}{n:Nat}{e:Nat->Bool}(aN:n=xs.length)(aj:xs.length=ys.length)(he:∀j,j<n->(e j=true↔xs[j]?=ys[j]?)):((aau n).all e)=true↔xs=ys:=by
 rw[acm];constructor
 ·intro h;apply abJ;intro i;by_cases aD:i<n
  ·exact(he i aD).mp (h i (aaY.mpr aD))
  ·rw[aaF (by omega),aaF (by omega)]
 ·rintro rfl j bP;exact(he j (aaY.mp bP)).mpr rfl
noncomputable def kG(xs ys:List D)(j:Nat):Bool :=@decide (xs[j]?=ys[j]?) (abx _)
theorem sj{xs ys:List D}{j:Nat}:kG xs ys j=true↔xs[j]?=ys[j]?:=by unfold kG;exact @decide_eq_true_iff _ (abx _)
theorem EA{xs ys:List D}{j:Nat}{x y:D}(aa:xs[j]?=some x)(ab:ys[j]?=some y):kG xs ys j=eqD x y:=by
 rw[acS,sj,sf,aa,ab];constructor
 ·intro h;exact aab h
 ·intro h;rw[h]
structure Nh (A:Around) (s:Shared) (u w:Value) (x y:D):Prop where
 rc:SeqAt.RcAt A s u w (eqD x y)
 ne:SeqAt.RcNeAt A s u w (!eqD x y)
 eq:SeqAt.EqAt A s u w (eqD x y)
mutual
theorem sk(I:Inv X pins σ H s)(sB:cp B H):∀(sh:hv){A:Around}{x y:D}{v w:V}{u ep:Value},has sh x=true->has sh y=true->Rep X.K B v x->Rep X.K B w y->RelV v u->RelV w ep->A.units+dep sh<cLine->Nh A s u ep x y
 | .I,A,x,y,v,w,u,ep,aa,ab,ar,aF,bt,bz,bA=>by
  obtain⟨i,rfl⟩:=has_int aa;obtain⟨j,rfl⟩:=has_int ab
  cases ar.intV;cases aF.intV
  obtain⟨t,rfl⟩:=bt;obtain⟨t',rfl⟩:=bz
  have e:eqD (.int i) (.int j)=(i==j):=nC (by simp)
  refine⟨?_,?_,?_⟩<;>rw[e]
  ·exact SeqAt.RcAt.int_int i t j t'
  ·exact SeqAt.RcNeAt.int_int i t j t'
  ·exact SeqAt.EqAt.int_int i t j t'
 | .B,A,x,y,v,w,u,ep,aa,ab,ar,aF,bt,bz,bA=>by
  obtain⟨i,rfl⟩:=vm aa;obtain⟨j,rfl⟩:=vm ab
  cases ar.blV;cases aF.blV
  cases bt;cases bz
  have e:eqD (.bl i) (.bl j)=(i==j):=nC (by simp)
  refine⟨?_,?_,?_⟩<;>rw[e]
  ·exact SeqAt.RcAt.bool_bool i j
  ·exact SeqAt.RcNeAt.bool_bool i j
  ·exact SeqAt.EqAt.bool_bool i j
 | .N,A,x,y,v,w,u,ep,aa,ab,ar,aF,bt,bz,bA=>by
  cases vn aa;cases vn ab
  cases ar.nonV;cases aF.nonV
  cases bt;cases bz
  have e:eqD .non .non=true:=o1 _
  refine⟨?_,?_,?_⟩<;>rw[e]
  ·exact SeqAt.RcAt.none_none
  ·exact SeqAt.RcNeAt.none_none
  ·exact SeqAt.EqAt.same _
 | .S,A,x,y,v,w,u,ep,aa,ab,ar,aF,bt,bz,bA=>by
  obtain⟨i,rfl⟩:=has_str aa;obtain⟨j,rfl⟩:=has_str ab
  cases ar;cases aF
  obtain⟨t,rfl⟩:=bt;obtain⟨t',rfl⟩:=bz
  have e:eqD (.str i) (.str j)=(i==j):=nC (by simp)
  refine⟨?_,?_,?_⟩<;>rw[e]
  ·exact SeqAt.RcAt.str_str i t j t'
  ·exact SeqAt.RcNeAt.str_str i t j t'
  ·exact SeqAt.EqAt.str_str i t j t'
 | .T ss,A,x,y,v,w,u,ep,aa,ab,ar,aF,bt,bz,bA=>by
  have vq:=ar
  have vr:=aF
  obtain⟨xs,rfl,a4⟩:=vo aa;obtain⟨ys,rfl,bS⟩:=vo ab
  obtain⟨a,vs,rfl,ax,jX⟩:=ar.tupV
  obtain⟨b,ws,rfl,af,rb⟩:=aF.tupV
  cases bt;cases bz
  obtain⟨its,bY,t1,_⟩:=I.tuple (eu.of (sB _ _ ax))
  obtain⟨fV,ck,cY,_⟩:=I.tuple (eu.of (sB _ _ af))
  have bL:dep (.T ss)=deps ss+1:=by simp[dep]
  have EB:=si a4
  have Zm:=si bS
  have z1:=jX.length;have aQ:=rb.length;have fF:=bY.length;have eY:=ck.length
  have o3:=eqs_sh I sB ss (A:=A.in1) a4 bS jX rb bY ck (by show A.units+1+deps ss<cLine;omega)
  have he:∀j (aa:j<its.toArray.size) (ab:j<fV.toArray.size),SeqAt.EqAt A.in1 s its.toArray[j] fV.toArray[j] (kG xs ys j):=fun j g1 g2=>by
   have:=o3 j (by simpa using g1) (by simpa using g2)
   simpa using this
  have e:eqD (.tup xs) (.tup ys)=((aau (min its.toArray.size fV.toArray.size)).all (kG xs ys)&&its.toArray.size==fV.toArray.size):=by
   refine nC ?_
   have s1:its.toArray.size=xs.length:=by simp;omega
   have s2:fV.toArray.size=xs.length:=by simp;omega
   rw[s1,s2,Nat.min_self,abL]
   have:=Ez (xs:=xs) (ys:=ys) (n:=xs.length) (e:=kG xs ys) rfl (by omega) (fun j _=>sj)
   constructor
   ·intro h;rw[this.mp h.1]
   ·intro h;cases h;exact⟨this.mpr rfl,by simp⟩
  have rc:SeqAt.RcAt A s (.ref a) (.ref b) (eqD (.tup xs) (.tup ys)):=by rw[e];exact SeqAt.RcAt.tuples t1 cY (by omega) he
  refine⟨rc,by rw[e];exact SeqAt.RcNeAt.tuples t1 cY (by omega) he,?_⟩
  by_cases hx:a=b
  ·subst hx
   have:=o2 (.T ss) aa ab vq vr
   rw[this,o1]
   exact SeqAt.EqAt.same _
  ·exact SeqAt.EqAt.of_refs hx rc
 | .L sh,A,x,y,v,w,u,ep,aa,ab,ar,aF,bt,bz,bA=>by
  have vq:=ar
  have vr:=aF
  obtain⟨xs,rfl,a4⟩:=vp aa;obtain⟨ys,rfl,bS⟩:=vp ab
  obtain⟨a,vs,rfl,ax,jX⟩:=ar.lstV
  obtain⟨b,ws,rfl,af,rb⟩:=aF.lstV
  cases bt;cases bz
  obtain⟨its,bY,cQ,_⟩:=I.list (cw.of (sB _ _ ax))
  obtain⟨fV,ck,c5,_⟩:=I.list (cw.of (sB _ _ af))
  have t1:=cQ.isList
  have cY:=c5.isList
  have bL:dep (.L sh)=dep sh+1:=by simp[dep]
  have z1:=jX.length;have aQ:=rb.length;have fF:=bY.length;have eY:=ck.length
  have he:∀j (aa:j<its.toArray.size) (ab:j<fV.toArray.size),SeqAt.EqAt A.in1 s its.toArray[j] fV.toArray[j] (kG xs ys j):=fun j g1 g2=>by
   have Ni:j<its.length:=by simpa using g1
   have Nj:j<fV.length:=by simpa using g2
   obtain⟨v1,ai,Nk⟩:=bY.getR (aan Ni)
   obtain⟨v2,av,Nl⟩:=ck.getR (aan Nj)
   obtain⟨aG,f1,zU⟩:=jX.getV ai
   obtain⟨aJ,f2,Nm⟩:=rb.getV av
   rw[EA f1 f2]
   have:=(sk I sB sh (A:=A.in1) (a4 aG (aaD f1)) (bS aJ (aaD f2)) zU Nm Nk Nl (by show A.units+1+dep sh<cLine;omega)).eq
   simpa using this
  by_cases jQ:its.toArray.size=fV.toArray.size
  ·have s1:its.toArray.size=xs.length:=by simp;omega
   have s2:xs.length=ys.length:=by simp at jQ;omega
   have e:eqD (.lst xs) (.lst ys)=(aau its.toArray.size).all (kG xs ys):=by
    refine nC ?_
    rw[Ez (xs:=xs) (ys:=ys) s1 s2 (fun j _=>sj)]
    constructor
    ·intro h;rw[h]
    ·intro h;cases h;rfl
   have rc:SeqAt.RcAt A s (.ref a) (.ref b) (eqD (.lst xs) (.lst ys)):=by rw[e];exact SeqAt.RcAt.lists t1 cY jQ (by omega) he
   refine⟨rc,by rw[e];exact SeqAt.RcNeAt.lists t1 cY jQ (by omega) he,?_⟩
   by_cases hx:a=b
   ·subst hx
    have:=o2 (.L sh) aa ab vq vr
    rw[this,o1]
    exact SeqAt.EqAt.same _
   ·exact SeqAt.EqAt.of_refs hx rc
  ·have e:eqD (.lst xs) (.lst ys)=false:=nC (by
    constructor
    ·intro h;cases h
    ·intro h;cases h;simp at jQ;omega)
   have jY:(its.toArray.size != fV.toArray.size)=true:=by simpa using jQ
   have rc:SeqAt.RcAt A s (.ref a) (.ref b) (eqD (.lst xs) (.lst ys)):=by rw[e];exact SeqAt.RcAt.lists_lengths t1 cY jY (by omega)
   refine⟨rc,by rw[e];exact SeqAt.RcNeAt.lists_lengths t1 cY jY (by omega),?_⟩
   refine SeqAt.EqAt.of_refs (fun hx=>?_) rc
   subst hx
   have:=o2 (.L sh) aa ab vq vr
   cases this
   simp at jQ;omega
theorem eqs_sh(I:Inv X pins σ H s)(sB:cp B H):∀(ss:List hv){A:Around}{xs ys:List D}{vs ws:List V}{us jo:List Value},hass ss xs=true->hass ss ys=true->Reps X.K B vs xs->Reps X.K B ws ys->Vals vs us->Vals ws jo->A.units+deps ss<cLine ->
  ∀j (aa:j<us.length) (ab:j<jo.length),SeqAt.EqAt A s us[j] jo[j] (kG xs ys j)
 | [],A,[],ys,_,_,_,_,aa,ab,.nil,aF,.nil,bz,bA,j,g1,g2=>absurd g1 (by simp)
 | [],A,x::xs,ys,_,_,_,_,aa,ab,ar,aF,bt,bz,bA,j,g1,g2=>by simp[hass]at aa
 | s::ss,A,[],ys,vs,ws,us,jo,aa,ab,ar,aF,bt,bz,bA,j,g1,g2=>by simp[hass]at aa
 | s::ss,A,x::xs,[],vs,ws,us,jo,aa,ab,ar,aF,bt,bz,bA,j,g1,g2=>by simp[hass]at ab
 | s::ss,A,x::xs,y::ys,v::vs,w::ws,u::us,ep::jo,aa,ab,.cons a1 a9,.cons a2 bf,.cons aG bL,.cons aJ b1,bA,0,g1,g2=>by
  have zV:has s x=true:=by simp[hass]at aa;exact aa.1
  have zW:has s y=true:=by simp[hass]at ab;exact ab.1
  have ia:deps (s::ss)=max (dep s) (deps ss):=by simp[deps]
  have:=(sk I sB s (A:=A) zV zW a1 a2 aG aJ (by omega)).eq
  rw[EA (xs:=x::xs) (ys:=y::ys) (j:=0) rfl rfl]
  exact this
 | s::ss,A,x::xs,y::ys,v::vs,w::ws,u::us,ep::jo,aa,ab,.cons a1 a9,.cons a2 bf,.cons aG bL,.cons aJ b1,bA,j+1,g1,g2=>by
  have zV:hass ss xs=true:=by simp[hass]at aa;exact aa.2
  have zW:hass ss ys=true:=by simp[hass]at ab;exact ab.2
  have ia:deps (s::ss)=max (dep s) (deps ss):=by simp[deps]
  have:=eqs_sh I sB ss (A:=A) zV zW a9 bf bL b1 (by omega) j (by simpa using g1) (by simpa using g2)
  have e:kG (x::xs) (y::ys) (j+1)=kG xs ys j:=by
   rw[acS,sj,sj];simp
  rw[e]
  exact this
end
def zX(K:PySem.W.Frag)(ng:Bool):e6:=fun x y H Q=>∃B d e sh,Rep K B x d/\Rep K B y e/\cp B H/\has sh d=true/\has sh e=true/\dep sh<=50/\Q (.bl (if ng then !eqD d e else eqD d e)) H
theorem EC(bA:X.A.units+64<cLine):fO X (compareOp .Eq) (zX X.K false):=by
 intro pins s σ H x y v u Q I bc cx h;obtain⟨B,d,e,sh,ar,aF,sB,aa,ab,hd,q⟩:=h;exact(sk I sB sh (A:=X.A) aa ab ar aF bc cx (by omega)).rc _ _ _ _ ⟨.bl _,H,I,rfl,q⟩
theorem Nn(bA:X.A.units+64<cLine):fO X (compareOp .NotEq) (zX X.K true):=by
 intro pins s σ H x y v u Q I bc cx h;obtain⟨B,d,e,sh,ar,aF,sB,aa,ab,hd,q⟩:=h;exact(sk I sB sh (A:=X.A) aa ab ar aF bc cx (by omega)).ne _ _ _ _ ⟨.bl _,H,I,rfl,q⟩
def zY(K:PySem.W.Frag)(ng:Bool):e6:=fun x y H Q=>∃B d es sh,Rep K B x d/\(Rep K B y (.lst es)∨Rep K B y (.tup es))/\cp B H/\has sh d=true/\(∀e∈es,has sh e=true)/\dep sh<=50/\∀b:Bool,(b=true↔d∈es)->Q (.bl (if ng then !b else b)) H
noncomputable def kH(K:PySem.W.Frag)(B:ao)(sh:hv)(d:D)(u:Value):Bool :=@decide (∃v,RelV v u/\Rep K B v d) (abx _)
theorem zZ{K:PySem.W.Frag}{sh:hv}{d:D}{u:Value}:kH K B sh d u=true↔∃v,RelV v u/\Rep K B v d:=by unfold kH;exact @decide_eq_true_iff _ (abx _)
theorem ED{v w:V}{u:Value}(aa:RelV v u)(ab:RelV w u):v=w:=by
 cases v<;>cases w<;>simp only[RelV]at aa ab<;>first
  | rfl
  | (obtain⟨t,rfl⟩:=aa;obtain⟨t',e⟩:=ab;cases e;rfl)
  | (obtain⟨t,rfl⟩:=aa;obtain⟨t',e⟩:=ab;cases e;done)
  | (obtain⟨t,rfl⟩:=aa;cases ab;done)
  | (obtain⟨t,rfl⟩:=ab;cases aa;done)
  | (subst aa;cases ab;rfl)
  | (subst aa;cases ab;done)
theorem vt{K:PySem.W.Frag}{sh:hv}{d:D}{vs:List V}{es:List D}{its:List Value}(aa:has sh d=true)(ab:∀e∈es,has sh e=true)(r:Reps K B vs es)(l:Vals vs its):its.toArray.any (kH K B sh d)=true↔d∈es:=by
 rw[show its.toArray.any (kH K B sh d)=its.any (kH K B sh d) by simp,List.any_eq_true];constructor
 ·rintro⟨u,bA,z⟩;obtain⟨v,lv,b3⟩:=zZ.mp z;obtain⟨j,bP⟩:=abl bA;obtain⟨w,iT,lw⟩:=l.getR bP;cases ED lv lw;obtain⟨e,kI,re⟩:=r.getV iT;have iv:=aaD kI;rw[o2 sh aa (ab e iv) b3 re];exact iv
 ·intro m;obtain⟨j,bP⟩:=abl m;obtain⟨v,ev,b3⟩:=r.get bP;obtain⟨u,Np,sm⟩:=l.get ev;exact⟨u,aaD Np,zZ.mpr ⟨v,sm,b3⟩⟩
theorem vu(I:Inv X pins σ H s)(sB:cp B H){A:Around}{sh:hv}{d:D}{vs:List V}{es:List D}{its:List Value}{x:V}{v:Value}(aa:has sh d=true)(ab:∀e∈es,has sh e=true)(bc:Rep X.K B x d)(EB:RelV x v)(r:Reps X.K B vs es)(l:Vals vs its)(bA:A.units+dep sh<cLine):∀y,y∈its.toArray->SeqAt.EqAt A s y v (kH X.K B sh d y):=fun y a5=>by
 obtain⟨j,bP⟩:=abl (show y∈its by simpa using a5);obtain⟨w,iT,lw⟩:=l.getR bP;obtain⟨e,kI,re⟩:=r.getV iT;have he:=ab e (aaD kI);have q:=(sk I sB sh (A:=A) he aa re bc lw EB bA).eq
 have z:eqD e d=kH X.K B sh d y:=nC (by
  rw[zZ];constructor
  ·rintro⟨rE,g8,du⟩;cases ED g8 lw;exact o2 sh he aa re du
  ·rintro rfl
   exact⟨w,lw,re⟩)
 rw[<-z];exact q
theorem Nq(bA:X.A.units+64<cLine):fO X (compareOp .In) (zY X.K false):=by
 intro pins s σ H x y v u Q I bc cx h;obtain⟨B,d,es,sh,ar,aF,sB,aa,ab,hd,q⟩:=h;rcases aF with aF|aF
 ·obtain⟨a,vs,rfl,ax,rs⟩:=aF.lstV;cases cx;obtain⟨its,bY,cQ,_⟩:=I.list (cw.of (sB _ _ ax));exact SeqAt.in_listAt (kH X.K B sh d) cQ.isList (vu I sB (A:=X.A.in1) aa ab ar bc rs bY (by show X.A.units+1+_<cLine;omega)) ⟨.bl _,H,I,rfl,q _ (vt aa ab rs bY)⟩
 ·obtain⟨a,vs,rfl,ax,rs⟩:=aF.tupV;cases cx;obtain⟨its,bY,cQ,_⟩:=I.tuple (eu.of (sB _ _ ax));exact SeqAt.in_tupleAt (kH X.K B sh d) cQ (vu I sB (A:=X.A.in1) aa ab ar bc rs bY (by show X.A.units+1+_<cLine;omega)) ⟨.bl _,H,I,rfl,q _ (vt aa ab rs bY)⟩
theorem Nr(bA:X.A.units+64<cLine):fO X (compareOp .NotIn) (zY X.K true):=by
 intro pins s σ H x y v u Q I bc cx h;obtain⟨B,d,es,sh,ar,aF,sB,aa,ab,hd,q⟩:=h;rcases aF with aF|aF
 ·obtain⟨a,vs,rfl,ax,rs⟩:=aF.lstV;cases cx;obtain⟨its,bY,cQ,_⟩:=I.list (cw.of (sB _ _ ax));exact SeqAt.notIn_listAt (kH X.K B sh d) cQ.isList (vu I sB (A:=X.A.in1) aa ab ar bc rs bY (by show X.A.units+1+_<cLine;omega)) ⟨.bl _,H,I,rfl,q _ (vt aa ab rs bY)⟩
 ·obtain⟨a,vs,rfl,ax,rs⟩:=aF.tupV;cases cx;obtain⟨its,bY,cQ,_⟩:=I.tuple (eu.of (sB _ _ ax));exact SeqAt.notIn_tupleAt (kH X.K B sh d) cQ (vu I sB (A:=X.A.in1) aa ab ar bc rs bY (by show X.A.units+1+_<cLine;omega)) ⟨.bl _,H,I,rfl,q _ (vt aa ab rs bY)⟩
end
section
variable{K:PySem.W.Frag}{X:aM}{a b:Expr}{bJ bT:a7}{pos:Pos}
def so(ng:Bool)(bJ bT:a7):a7:=fun ρ k=>bJ ρ fun x=>bT ρ fun y=>∃sh,has sh x=true/\has sh y=true/\dep sh<=50/\k (.bl (if ng then !eqD x y else eqD x y))
def z2(ng:Bool)(bJ bT:a7):a7:=fun ρ k=>bJ ρ fun x=>bT ρ fun y=>∃sh es,(y=.lst es∨y=.tup es)/\has sh x=true/\(∀e∈es,has sh e=true)/\dep sh<=50/\∀b:Bool,(b=true↔x∈es)->k (.bl (if ng then !b else b))
theorem z3{bV tb:TE}{ng:Bool}(ax:eM K bV bJ)(af:eM K tb bT):eM K (ml (zX K ng) bV tb) (so ng bJ bT):=
 qq ax af fun x y k h R W B H σ ρ v w Q e bc cx q=>by
  obtain⟨sh,aa,ab,hd,ah⟩:=h;exact⟨B,x,y,sh,bc,cx,e.bh,aa,ab,hd,q _ _ B H ah e (bM.refl _ _) (.bl _)⟩
theorem EE{bV tb:TE}{ng:Bool}(ax:eM K bV bJ)(af:eM K tb bT):eM K (ml (zY K ng) bV tb) (z2 ng bJ bT):=
 qq ax af fun x y k h R W B H σ ρ v w Q e bc cx q=>by
  obtain⟨sh,es,a5,aa,ab,hd,ah⟩:=h;refine⟨B,x,es,sh,bc,?_,e.bh,aa,ab,hd,fun b af=>q _ _ B H (ah b af) e (bM.refl _ _) (.bl _)⟩;rcases a5 with rfl|rfl
  ·exact .inl cx
  ·exact .inr cx
theorem Nt(bA:X.A.units+64<cLine)(ax:br X a bJ)(af:br X b bT)(hm:behindInMarks .Eq b=false):br X (.Compare a [.Eq] [b] pos) (so false bJ bT):=by
 obtain⟨_,aa,ar⟩:=ax;obtain⟨_,ab,aF⟩:=af;exact⟨_,za (EC bA) aa ab hm,z3 ar aF⟩
theorem z4(bA:X.A.units+64<cLine)(ax:br X a bJ)(af:br X b bT)(hm:behindInMarks .Eq b=false):ht X (.Compare a [.Eq] [b] pos) (oX (so false bJ bT)):=by
 obtain⟨_,aa,ar⟩:=ax;obtain⟨_,ab,aF⟩:=af;exact⟨_,oM (EC bA) aa ab hm,r6 (z3 ar aF)⟩
theorem z5(bA:X.A.units+64<cLine)(ax:br X a bJ)(af:br X b bT)(hm:behindInMarks .NotEq b=false):ht X (.Compare a [.NotEq] [b] pos) (oX (so true bJ bT)):=by
 obtain⟨_,aa,ar⟩:=ax;obtain⟨_,ab,aF⟩:=af;exact⟨_,oM (Nn bA) aa ab hm,r6 (z3 ar aF)⟩
theorem EF(bA:X.A.units+64<cLine)(ax:br X a bJ)(af:br X b bT)(hm:behindInMarks .NotIn b=false):br X (.Compare a [.NotIn] [b] pos) (z2 true bJ bT):=by
 obtain⟨_,aa,ar⟩:=ax;obtain⟨_,ab,aF⟩:=af;exact⟨_,za (Nr bA) aa ab hm,EE ar aF⟩
theorem EG(bA:X.A.units+64<cLine)(ax:br X a bJ)(af:br X b bT)(hm:behindInMarks .In b=false):ht X (.Compare a [.In] [b] pos) (oX (z2 false bJ bT)):=by
 obtain⟨_,aa,ar⟩:=ax;obtain⟨_,ab,aF⟩:=af;exact⟨_,oM (Nq bA) aa ab hm,r6 (EE ar aF)⟩
end
end L3
namespace L3
open PySem L2
open PySem.Builtin.Int (intBits)
theorem Nu{K:PySem.W.Frag}{P:Program}{w:World}{mg:Str->Option Value}{base:Heap}{x qual:Str}{st:Stmt}{f:Addr}{fd:FuncData}{N ps:List Str}{lv n:Nat}{F:FS}(oY:lC K x qual st f fd)(S:cG N ps (b0 st))(aN:ps.length=n)(jg:∀(cdv:Value) (A:Around) (outer:List abK) (s:Shared) (H:ao) (E:fB),eC lv (A.deeper (aci qual (b0 st) s.heap.objs.size f cdv))->∃u,fX (kv jh P w K mg base N qual (b0 st) f cdv A outer s H E).nox (ky st) u/\∀as k,as.length=n->F as k->u { nx:=fun _=>k (.val .non),rt:=k } (as++aad (N.length-n) .no)):iS P w K mg base jh (lv+1) f fd ps (aK K n F):=by
 refine oY.ok S (fun vs H Q E h=>?_) (fun cdv A outer s H vs Q E ak h=>?_)
 ·obtain⟨W,B,as,k,_,aj,_,_,_,d1,_⟩:=h;rw[d1.length,aj,aN]
 ·obtain⟨W,B,as,k,jl,aj,af,sB,hw,d1,q⟩:=h;obtain⟨u,⟨t,bB,rt⟩,bA⟩:=jg cdv A outer s H E ak;have ev:=Ev.start (N:=N) (acR af) sB hw d1;rw[aj]at ev;refine⟨t,bB,rt _ _ (bA as k aj jl) H W B H (L2.start N vs) _ ev ⟨fun ρ σ az H' h e g=>?_,fun _ _ _ _ h=>h.elim,fun _ _ _ _ h=>h.elim,fun r v az H' h e g z=>q r v az H' h ⟨e,g,z⟩⟩⟩;exact q _ _ az H' h ⟨e.toWd,g,.non⟩
def vv(K:PySem.W.Frag):gN:=fun vs H Q _=>∃(a:Addr)(ns:List Int),vs=[.ref a]/\cw K H a (ns.map V.int)/\ns.length<=63/\∀H',Q (.bl true) H'
def EH:FS:=fun as k=>∃ns:List Int,as=[.val (.scr ns)]/\ns.length<=63/\k (.val (.bl true))
theorem Nv{K:PySem.W.Frag}{vs:List V}{H:ao}{Q:cN}{E:fB}(h:vv K vs H Q E):aK K 1 EH vs H Q E:=by
 obtain⟨a,ns,rfl,c7,aj,q⟩:=h;refine⟨fun _=>False,H,[.val (.scr ns)],fun r=>r=.val (.bl true),⟨ns,rfl,aj,rfl⟩,rfl,rfl,cp.refl _,fun _ z=>z.elim,.val (.scr c7) .nil,fun r v az H' ak ex=>?_⟩;subst ak;have:=ex.res;rw[Rep.blV this];exact q H'
def EI(K:PySem.W.Frag):gN:=fun vs H Q _=>∃(a:Addr)(k:Int)(ns:List Int),vs=[.ref a,.int k]/\cw K H a (ns.map V.int)/\0<=k/\∀z,Q (.int z) H
def z6:FS:=fun as k=>∃(ns:List Int)(i:Int),as=[.val (.scr ns),.val (.int i)]/\0<=i/\∀z:Int,k (.val (.int z))
theorem Wd.entry{H B:ao}{W:Addr->Prop}(sB:cp B H)(hw:∀a,W a->B a=none/\gh H a):Wd H W B H :=
 ⟨fun _ _ h _=>h,sB,fun a h=>(hw a h).1,fun a h=>(hw a h).2,fun a h=>by obtain⟨x,y,q,_⟩:=(hw a h).2;rw[q];simp⟩
theorem Nw{K:PySem.W.Frag}{vs:List V}{H:ao}{Q:cN}{E:fB}(h:aK K 2 z6 vs H Q E):EI K vs H Q E:=by
 obtain⟨W,B,as,k,⟨ns,i,rfl,aD,ah⟩,aj,af,sB,hw,d1,q⟩:=h;cases d1 with
 | val ar d1=>cases d1 with
  | val aF d1 =>
   cases d1;obtain⟨a,rfl,ax⟩:=ar.scrV;cases aF.intV;exact⟨a,i,ns,rfl,sB.seq ax,aD,fun z=>q _ _ B H (ah z) ⟨Wd.entry sB hw,bM.refl _ _,.int z⟩⟩
def EJ:gN:=fun vs H Q _=>∃c:Int,vs=[.int c]/\∀(b:Addr)(x y:Int),H b=none->0<=x->0<=y->y<2147483647->Q (.ref b) (upd H b (.lst [.int x,.int y]))
def z7:FS:=fun as k=>∃c:Int,as=[.val (.int c)]/\k .bag
theorem Nx{K:PySem.W.Frag}{vs:List V}{H:ao}{Q:cN}{E:fB}(h:aK K 1 z7 vs H Q E):EJ vs H Q E:=by
 obtain⟨W,B,as,k,⟨c,rfl,ah⟩,aj,af,sB,hw,d1,q⟩:=h;cases d1 with
 | val ar d1 =>
  cases d1;cases ar.intV;refine⟨c,rfl,fun b x y aN x0 bW bI=>?_⟩;have wd:=Wd.entry sB hw;exact q .bag _ B _ ah ⟨wd.allocH aN _,bM.refl _ _,b,rfl,aN,(wd.fresh aN).2.2,x,y,en,x0,bW,bI⟩
def EK(lim:Nat):gN:=fun vs H Q _=>∃(b:Addr)(m:Int),vs=[.ref b,.int m]/\gh H b/\0<m/\intBits m<=lim/\∀(r:Int)(H':ao),Ext b H H'->gh H' b->0<=r->r<m->Q (.int r) H'
def qv(lim:Nat):FS:=fun as k=>∃m:Int,as=[.bag,.val (.int m)]/\0<m/\intBits m<=lim/\∀r:Int,0<=r->r<m->k (.val (.int r))
theorem Ny{K:PySem.W.Frag}{lim:Nat}{vs:List V}{H:ao}{Q:cN}{E:fB}(h:aK K 2 (qv lim) vs H Q E):EK lim vs H Q E:=by
 obtain⟨W,B,as,k,⟨m,rfl,m0,gB,ah⟩,aj,af,sB,hw,d1,q⟩:=h;cases d1 with
 | bag g6 d1=>cases d1 with
  | val aF d1 =>
   cases d1;cases aF.intV
   rename_i b
   refine⟨b,m,rfl,(hw b g6).2,m0,gB,fun r H' ex hu fY ar=>?_⟩;have wd:=Wd.entry sB hw;refine q _ _ B H' (ah r fY ar) ⟨⟨fun a o aa ab=>ex a o (by rintro rfl;exact ab g6) aa,fun a o aa=>ex a o (by rintro rfl;rw[(hw _ g6).1]at aa;cases aa) (sB a o aa),wd.wb,fun a z=>?_,wd.wr⟩,bM.refl _ _,.int r⟩;by_cases e:a=b
   ·subst e;exact hu
   ·obtain⟨x,y,aa,ab⟩:=(hw a z).2;exact⟨x,y,ex a _ e aa,ab⟩
theorem qw{c:Bool}{A B:Prop}(h:c=true)(a:A):if c=true then A else B:=by rw[if_pos h];exact a
theorem qx{c:Bool}{A B:Prop}(h:c=false)(b:B):if c=true then A else B:=by rw[h,if_neg aal];exact b
theorem z8{x y:D}{A B:Prop}(aa:x≠y->A)(ab:x=y->B):if(!eqD x y)=true then A else B:=by
 by_cases h:x=y
 ·rw[sf.mpr h];exact ab h
 ·have:eqD x y=false:=by
   cases q:eqD x y with
   | false=>rfl
   | true=>exact absurd (sf.mp q) h
  rw[this];exact aa h
theorem cR{u:cI}{U:fW}{ρ r:List aH}(e:ρ=r)(h:u U r):u U ρ:=by rw[e];exact h
theorem nD{s t:cI}{U:fW}{ρ:List aH}(first:∀N:List aH->Prop,N ρ->s { U with nx:=N } ρ)(rest:t U ρ):sd s t U ρ:=first (t U) rest
theorem eO{s t:cI}{U:fW}{ρ:List aH}(I:List aH->Prop)(rest:∀bj,I bj->t U bj)(first:∀N:List aH->Prop,(∀bj,I bj->N bj)->s { U with nx:=N } ρ):sd s t U ρ:=first _ rest
theorem EL{s:cI}{U:fW}{n:Nat}(I:List aH->Prop):∀{ds:List D}{ρ:List aH},I ρ->(∀d∈ds,∃c:Int,d=.int c) ->
  (∀(c:Int) ρ,I ρ->∀N:List aH->Prop,(∀r,I r->N r)->s { U with nx:=N,ct:=N,bk:=U.nx } (ρ.set n (.val (.int c))))->(∀ρ,I ρ->U.nx ρ)->forR (gi n) s U ds ρ
 | [],ρ,h0,_,_,ab=>ab ρ h0
 | d::ds,ρ,h0,hd,aa,ab=>by
  obtain⟨c,rfl⟩:=hd d ZJ;exact aa c ρ h0 _ fun r ak=>EL I ak (fun e he=>hd e (ZL _ he)) aa ab
theorem Nz{α:Type}(xs:List α)(lo aD:Option Int):(fx xs lo aD).length<=xs.length:=by
 unfold fx;rw[aa0,abv];omega
theorem NA{α:Type}{xs:List α}{lo aD:Option Int}{x:α}(h:x∈fx xs lo aD):x∈xs:=acT (acn h)
theorem NB{z:Int}{ns:List Int}{lo aD:Option Int}:∀d∈[D.int z]++fx (ns.map D.int) lo aD,∃c:Int,d=.int c:=fun d hd=>by
 rcases aae.mp hd with h|h
 ·exact⟨z,by simpa using h⟩
 ·obtain⟨i,_,e⟩:=Z9.mp (NA h);exact⟨i,e.symm⟩
theorem NC{z:Int}{ns:List Int}{lo aD:Option Int}(h:ns.length<=63):[D.int z].length+(fx (ns.map D.int) lo aD).length<=sizeLine:=by
 have aa:=Nz (ns.map D.int) lo aD;rw[Zf]at aa;have:64<=sizeLine:=by decide
 simp only[aaQ];omega
end L3
namespace L3
open PySem L2
section
variable{X:aM}
theorem ib{cl cs:List (Str×Addr)}(h:∀p∈cl,cs.lookup p.1=some p.2):∀y c,cl.lookup y=some c->cs.lookup y=some c:=fun y c e=>h (y,c) (abu e)
theorem iA{names:List (Str×NameKind)}{cl:List (Str×Addr)}(h:(names.all fun p => !(p.2==.cell||p.2==.free)||(cl.lookup p.1).isSome)=true):∀y,(names.lookup y=some .cell∨names.lookup y=some .free)->∃c,cl.lookup y=some c:=fun y e=>by
 have key:∀k:NameKind,(k==.cell||k==.free)=true->names.lookup y=some k->∃c,cl.lookup y=some c:=fun k ah e=>by
  have q:=acm.mp h (y,k) (abu e);have q:(!(k==.cell||k==.free)||(cl.lookup y).isSome)=true:=q;rw[ah]at q;exact adn.mp (by simpa using q)
 rcases e with e|e
 ·exact key _ rfl e
 ·exact key _ rfl e
end
end L3
namespace L2
open PySem PySem.Spec PyProof.Rows
def nE(X:aM)(ifs:List Expr)(tt:TT):Prop:=∀(pins:List (Addr×Obj))(s:Shared)(σ:St)(H:ao)(Q:Bool->ao->Prop),Inv X pins σ H s->tt σ H Q ->
 wpAny (model X.prog X.w) X.A (forIn ifs true fun t r=>if r=true then do let z <-isTrue t X.env (eval t X.env);pure (aco z)else pure (aco r)) (uI X pins σ Q) X.xe s
def ND:TT:=fun _ H Q=>Q true H
theorem NF{X:aM}:nE X [] ND:=fun _ _ _ H _ I h=>wpAny_tests_nil ⟨H,I,h⟩
theorem NG{X:aM}{c:Expr}{tt:TT}(h:ik X c tt):nE X [c] tt:=fun pins s σ H Q I q=>wpAny_tests_one (h pins s σ H Q I q)
theorem NH{P:Program}{w:World}{A:Around}{R:Result->Shared->Prop}{s:Shared}{elt bE src:Expr}{ifs:List Expr}{sc:Scope}{ps:Pos}{nc acc:Value}{env:abK}(sq:Nat->Shared->Prop)(n:Nat)(h0:sq n s)(turn:∀n s,sq n s->wpAny (model P w) A (pyNext nc) (fun r s1=>match r with
   | none=>R (.ok .next) s1
   | some v=>wpAny (model P w) A (letOwnedTupleGo bE nc v) (fun _ sg=>wpAny (model P w) A (assign bE env v) (fun _ s2 =>
     wpAny (model P w) A (forIn ifs true fun t r=>if r=true then do let z <-isTrue t env (eval t env);pure (aco z)else pure (aco r)) (fun z s3 =>
      if z=true then wpAny (model P w) A (eval elt env) (fun y s4=>wpAny (model P w) A (call (.builtin "list.append") [acc,y]) (fun _ s5=>∃m,m<n/\sq m s5) (notedBy (model P w) A env fun e s'=>R (.error e) s') s4) (notedBy (model P w) A env fun e s'=>R (.error e) s') s3
      else ∃m,m<n/\sq m s3) (notedBy (model P w) A env fun e s'=>R (.error e) s') s2) (notedBy (model P w) A env fun e s'=>R (.error e) s') sg) (notedBy (model P w) A env fun e s'=>R (.error e) s') s1) (notedBy (model P w) A env fun e s'=>R (.error e) s') s):
  codeAny (model P w) A (.compLoop (.ListComp elt [⟨bE,src,ifs,0⟩] sc ps) 0 nc acc env) R s:=by
 refine codeAny_loop rfl sq (fun k s' aP=>?_) n h0;show wpAny _ A ((compTurn (.ListComp elt [⟨bE,src,ifs,0⟩] sc ps) 0 nc acc env).onRaise (fun z=>do noteFrame z env;theTreesLotGoes z)) _ _ s';rw[compTurn_list];refine wpAny_noted (wpAny_bind (wpAny_standAt (wpAny_bind (wpAny_mono (turn k s' aP) (fun r s1 aa=>?_) fun _ _ z=>z))));cases r with
 | none=>exact wpAny_pure aa
 | some v =>
  refine wpAny_bind (wpAny_mono aa (fun _ sg aC=>wpAny_bind (wpAny_mono aC (fun _ s2 ab=>wpAny_bind (wpAny_mono ab (fun z s3 aL=>?_) fun _ _ q=>q)) fun _ _ q=>q)) fun _ _ q=>q);cases z with
  | false=>exact wpAny_pure ⟨rfl,aL⟩
  | true=>exact wpAny_bind (wpAny_bind (wpAny_mono aL (fun y s4 bo=>wpAny_bind (wpAny_mono bo (fun _ s5 de=>wpAny_pure (wpAny_pure ⟨rfl,de⟩)) fun _ _ q=>q)) fun _ _ q=>q))
def NI(J:h5)(g:gC)(tt:TT)(cC:TE)(NJ:St)(D:Addr)(H1:ao)(Q:cN):Prop:=∃W:Nat->Nat->St->ao->Prop,(∃m,W 0 m NJ (upd H1 D (.lst [])))/\∀i m σ H,W i m σ H ->
 (J.stop i H/\Q (.ref D) H)∨(J.go i H/\∀x H',J.yld i H x H'->g x σ H' fun p9 a3=>tt p9 a3 fun b cU=>if b=true then cC p9 cU fun y kJ=>∃ys,kJ D=some (.lst ys)/\ys.length<sizeLine/\∃m',m'<m/\W (i+1) m' p9 (upd kJ D (.lst (ys++[y])))else ∃m',m'<m/\W (i+1) m' p9 cU)
def qy(fu:TI)(g:gC)(tt:TT)(cC:TE)(dF:Nat)(js:List Nat):TE:=fun σ H Q=>fu σ H fun J H1=>∀D,H1 D=none->NI J g tt cC (aad dF none++hs σ js) D H1 Q
section
variable{X:aM}
structure nF (X:aM) (scope:Scope) (cl:List (Str×Addr)) (fr:List Str) (js:List Nat):Prop where
 clos:closureFor scope X.env=pure cl
 cell:∀y∈scope.names,y.2≠.cell
 kind:scope.kind=.function
 names:∀y∈scope.names,y.2=.local->scope.names.lookup y.1=some .local
 sub:∀y c,cl.lookup y=some c->X.env.cells.lookup y=some c
 has:∀y,((relabel scope X.env).names.lookup y=some .cell∨(relabel scope X.env).names.lookup y=some .free)->∃c,cl.lookup y=some c
 frn:∀(i:Nat)(y:Str),fr[i]?=some y->∃j:Nat,js[i]?=some j/\X.N[j]?=some y/\X.env.kindOf y=some .cell/\((relabel scope X.env).names.lookup y=some .cell∨(relabel scope X.env).names.lookup y=some .free)/\∃c,cl.lookup y=some c
 len:js.length=fr.length
theorem EM{elt iter bE:Expr}{ifs:List Expr}{pos:Pos}{scope:Scope}{cl:List (Str×Addr)}{ts fr:List Str}{js:List Nat}{fu:TI}{g:gC}{tt:TT}{cC:TE}{use:Option (Value->Sem Unit)}{RQ:Value->Shared->Prop}{QE:cN}(aD:jJ X bE iter fu)(aC:∀C s H ex,iO (dr X (ts++fr) scope cl C s H ex) bE g)(iB:∀C s H ex,nE (dr X (ts++fr) scope cl C s H ex) ifs tt)(iC:∀C s H ex,b2 (dr X (ts++fr) scope cl C s H ex) elt cC)(F:nF X scope cl fr js)(hc:X.calm=true)(aq:∀v,foldedSetIterable iter X.env v=pure v){pins:List (Addr×Obj)}{s:Shared}{σ:St}{H:ao}(I:Inv X pins σ H s)(h:qy fu g tt cC ts.length js σ H QE)(EN:Sem Value)(NK:EN=newList [])(pp:Pos)(EO:∀(D C:Addr) (fN:ao) (h6:Shared) (m:Str->Option Value),h6.heap.Ns C m->fN C=none->C≠X.env.locals->X.s₀.heap.objs.size<=C->(∀x c,X.env.cells.lookup x=some c->c≠C)->(∀p∈X.pn++pins,p.1≠C)->C∉X.fs->(∀h':Heap,(∀b u,b≠C->h6.heap.get? b=some u->h'.get? b=some u)->Inv X pins σ fN { h6 with heap:=h' })->QE (.ref D) fN->compPost (model X.prog X.w) X.A X.xe use RQ (.ref D) C (.ok .next) h6):
  wpAny (model X.prog X.w) X.A (comprehension (.ListComp elt [⟨bE,iter,ifs,0⟩] scope pos) scope X.env pp EN false (eval iter X.env) use) RQ X.xe s:=by
 refine wpAny_comprehension_free (use:=use) rfl aq F.clos F.kind F.names (cq (aD pins s σ H _ I h) fun Zn s1 aa=>cq aa fun nc s2 ab=>?_);obtain⟨it,cB,hK,J,a3,rfl,d9,T,oK,f2,ab⟩:=ab;have gO:a3 s2.heap.objs.size=none:=d9.fresh;obtain⟨W,⟨m0,w0⟩,turn⟩:=ab _ gO;rw[NK];refine wpAny_newObj_type ?_;have dd:Inv X pins σ (upd a3 s2.heap.objs.size (.lst [])) { s2 with heap:=s2.heap.push { cls:=.type "list",data:=.seq ([]:List Value).toArray } }:=d9.lnew (t':=s2.toks) (its:=[]) .nil (by show 0<=sizeLine;decide);generalize qz:({ s2 with heap:=s2.heap.push { cls:=.type "list",data:=.seq ([]:List Value).toArray } }:Shared)=s3 at dd;have bG:s3.heap=s2.heap.push { cls:=.type "list",data:=.seq ([]:List Value).toArray }:=by rw[<-qz]
 generalize EP:upd a3 s2.heap.objs.size (.lst [])=cU at dd w0;generalize NL:s2.heap.objs.size=D at gO EP w0 turn;have fS:∀b o,s2.heap.get? b=some o->s3.heap.get? b=some o:=fun b o e=>by rw[bG];exact Heap.get?_push_of_some _ e
 have bO:∀b∈cB,jI X pins cU b:=fun b af=>by
  obtain⟨o,aE,_⟩:=T.obj _ _ oK b af;have lt:=Heap.lt_size aE;refine⟨?_,(f2 b af).2⟩;rw[<-EP,dz (by rw[<-NL];exact aat lt)];exact(f2 b af).1
 refine wpAny_newFunctionEnv F.cell (by intro y a5;simp at a5) (fun aa nk NM=>?_) F.kind;have NN:s3.heap.get? s3.heap.objs.size=none:=Heap.get?_none_of_le (Zg _);have iy:∀b o,s3.heap.get? b=some o->aa.get? b=some o:=fun b o e=>NM.extBut b o (aat (Heap.lt_size e)) (Heap.get?_push_of_some _ e);show codeAny (model X.prog X.w) X.A (.compStart (.ListComp elt [⟨bE,iter,ifs,0⟩] scope pos) 0 (.ref it) (.ref D) (compEnvC scope cl s3.heap.objs.size X.env)) (compPost (model X.prog X.w) X.A X.xe use RQ (.ref D) s3.heap.objs.size) _
 have ok:(dr X (ts++fr) scope cl s3.heap.objs.size s3 cU cB).Ok:=by
  refine⟨dd.ok.mod,F.kind,dd.ok.glob,dd.ok.blt,Zg _,fun y z c ai av=>dd.ok.inj y z c (F.sub _ _ ai) (F.sub _ _ av),fun y a5=>F.has y a5,fun y c z=>absurd z aal,dd.ok.hd,dd.ok.frames,.inl rfl,fun b af=>?_,dd.bs,Gq dd.ok.bsz dd.sz,
   fun b o e af=>?_,fun b af hf=>?_,dd.stack,dd.stkFree⟩
  ·obtain⟨o,aE,_⟩:=T.obj _ _ oK b af;exact⟨aat (Heap.lt_size (fS b o aE)),fun y c e=>(bO b af).2.2.2.2.1 y c (F.sub _ _ e)⟩
  ·obtain⟨_,_,_,z,_⟩:=bO b af;rcases z with z|z
   ·exact dd.ok.noex b o e z
   ·exact absurd (aaA (Heap.lt_size (dd.ok.bs b o e).1) z) (aa7 _)
  ·rcases Z6.mp (dd.stkSub b hf)with z|z
   ·exact(bO b af).2.1 z
   ·exact(bO b af).2.2.1 z
 have NO:∀(eJ:Heap),(∀b u,s3.heap.get? b=some u->eJ.get? b=some u)->∀(i:Nat)(y:Str)(v:V),fr[i]?=some y->(hs σ js)[i]?=some (some v)->∃u,RelV v u/\∀m,Look (compEnvC scope cl s3.heap.objs.size X.env) eJ m y u:=fun eJ aZ i y v ai av=>by
  obtain⟨j,NP,sr,ah,NQ,c,vw⟩:=F.frn i y ai
  have NR:σ[j]?=some (some v):=by
   unfold hs at av;rw[aag,NP,abW]at av;have av:=aab av;cases q:σ[j]? with
   | none=>rw[q]at av;simp at av
   | some z=>rw[q]at av;simpa using av
  obtain⟨m,aN,aj⟩:=dd.loc;obtain⟨u,r,l⟩:=aj j y v sr NR (.inr (.inl ah));refine⟨u,r,fun m'=>.inr ⟨NQ,c,vw,?_⟩⟩;rcases l with⟨z,_⟩|⟨_,d0,uH,NS⟩
  ·rw[ah]at z;cases z
  ·have e:=F.sub _ _ vw;rw[uH]at e;cases e;obtain⟨nG,a4,bS⟩:=NS;exact⟨nG,aZ _ _ a4,bS⟩
 have m9:Inv (dr X (ts++fr) scope cl s3.heap.objs.size s3 cU cB) [] (aad ts.length none++hs σ js) cU { s3 with heap:=aa,toks:=s3.toks+([]:List (Str×Value)).length }:=by
  refine⟨ok,rfl,dd.bare,ft.kept iy,⟨_,nk,fun i y v ai av bG=>?_⟩,fun y c e=>?_,dd.fresh,fun y c e=>dd.freeC y c (F.sub _ _ e),fun p ag=>absurd (show p∈([]:List (Addr×Obj))from ag) (by simp),dd.hok.kept iy,?_⟩
  ·by_cases cE:i<ts.length
   ·rw[aaM (by simpa using cE),abk,if_pos cE]at av;cases av
   ·have ai:(ts++fr)[i]?=some y:=ai;rw[aaJ (by omega)]at ai;rw[aaJ (by simp;omega),aa9]at av;obtain⟨u,r,l⟩:=NO aa iy _ y v ai av;exact⟨u,r,l _⟩
  ·obtain⟨v,nG,a4,bS⟩:=dd.cell y c (F.sub _ _ e);exact⟨v,nG,iy _ _ a4,bS⟩
  ·show _=(ts++fr).length
   rw[ZM,ZM,aa9];unfold hs;rw[Zf,F.len]
 have oL:∀{H':ao},(∀b∈cB,H' b=none)->∀b∈cB,jI (dr X (ts++fr) scope cl s3.heap.objs.size s3 cU cB) [] H' b:=fun aN b af=>by
  obtain⟨o,aE,_⟩:=T.obj _ _ oK b af;exact⟨aN b af,(ok.exf b af).1,ok.exfs b af,.inl af,(ok.exf b af).2,fun p ag=>absurd (show p∈([]:List (Addr×Obj))from ag) (by simp)⟩
 have loop:∀s4:Shared,s4={ s3 with heap:=aa,toks:=s3.toks+([]:List (Str×Value)).length } ->
   codeAny (model X.prog X.w) X.A (.compLoop (.ListComp elt [⟨bE,iter,ifs,0⟩] scope pos) 0 (.ref it) (.ref D) (compEnvC scope cl s3.heap.objs.size X.env)) (compPost (model X.prog X.w) X.A X.xe use RQ (.ref D) s3.heap.objs.size) s4:=by
  intro s4 c4;rw[<-c4]at m9;have NT:hK 0 s4.heap:=T.keep _ _ _ oK fun b _ o e=>by rw[c4];exact iy b o (fS b o e)
  refine NH (fun n s'=>∃i a6 H',Inv (dr X (ts++fr) scope cl s3.heap.objs.size s3 cU cB) [] a6 H' s'/\hK i s'.heap/\(∀b∈cB,H' b=none)/\W i n a6 H') m0 ⟨0,_,cU,m9,NT,fun b af=>(bO b af).1,w0⟩ ?_;rintro n s5 ⟨i,vx,fN,oJ,p',uQ,NU⟩;rcases turn i n vx fN NU with⟨stop,q⟩|⟨go,step⟩
  ·refine cq (T.done (dr X (ts++fr) scope cl s3.heap.objs.size s3 cU cB) rfl rfl rfl hc i [] s5 vx fN _ oJ (oL uQ) p' stop) fun r h6 ⟨ak,jM⟩=>?_;subst ak;obtain⟨m,aN,_⟩:=id jM.loc;refine EO D s3.heap.objs.size fN h6 m aN jM.free (ab8 dd.lt) dd.sz (fun y c e z=>?_) (fun p ag z=>?_) (dd.nofs (Zg _)) (fun h' vy=>?_) q
   ·obtain⟨v,nG,a4,bS⟩:=dd.cell y c e;exact absurd (Heap.lt_size a4) (by rw[z];exact aa7 _)
   ·exact absurd (Heap.lt_size (dd.pin p ag).1) (by rw[z];exact aa7 _)
   ·refine dd.call' (s':={ h6 with heap:=h' }) (ch:=cB) jM.os ((show ft (jG X.stack) cB cU fN s3.heap h6.heap from jM.base).but NN vy) (jM.hok.but jM.free vy) jM.bare (fun b af=>?_);obtain⟨_,z1,_,fF,eY,kK⟩:=bO b af;exact⟨fF,z1,eY,kK⟩
  ·refine cq (T.item (dr X (ts++fr) scope cl s3.heap.objs.size s3 cU cB) rfl rfl rfl hc i [] s5 vx fN _ oJ (oL uQ) p' go) fun r h6 ⟨u,ak,fl⟩=>?_;subst ak;refine cq fl fun _ mi ⟨v,iQ,h7,y5,NV,z9,NW⟩=>?_;have NX:=h7.pinned (oL NW) (T.obj _ _ z9)
   have back:∀{qA:Shared}{vz:St}{qB:ao}{n':Nat},Inv (dr X (ts++fr) scope cl s3.heap.objs.size s3 cU cB) ([]++rM cB mi.heap) vz qB qA->W (i+1) n' vz qB->∃i a6 H',Inv (dr X (ts++fr) scope cl s3.heap.objs.size s3 cU cB) [] a6 H' qA/\hK i qA.heap/\(∀b∈cB,H' b=none)/\W i n' a6 H':=fun{qA vz qB n'} qC z'=>by
    refine⟨i+1,vz,qB,qC.unpinned (pins:=[]),T.keep _ _ _ z9 fun b af nG kI=>(qC.pin (b,nG) (aaC _ (aaC _ (uP af kI)))).1,fun b af=>?_,z'⟩;obtain⟨nG,kI,_⟩:=T.obj _ _ z9 b af;exact(qC.pin (b,nG) (aaC _ (aaC _ (uP af kI)))).2.1
   refine wpAny_mono (aC s3.heap.objs.size s3 cU cB _ mi vx iQ v u _ NX y5 (step v iQ NV)) (fun _ NY ⟨NZ,N0,N1,su⟩=>?_) (fun _ _ z=>z.elim);refine wpAny_mono (iB s3.heap.objs.size s3 cU cB _ NY NZ N0 _ N1 su) (fun b qA ⟨qB,qC,qD⟩=>?_) (fun _ _ z=>z.elim);cases b with
   | false =>
    rw[if_neg aal]at qD ⊢;obtain⟨m',lm,z'⟩:=qD;exact⟨m',lm,back qC z'⟩
   | true =>
    rw[if_pos rfl]at qD ⊢;refine wpAny_mono (iC s3.heap.objs.size s3 cU cB _ qA _ qB _ qC qD) (fun N2 N3 ⟨y,ER,N4,N5,ys,N6,N7,m',lm,N8⟩=>?_) (fun _ _ z=>z.elim);have mt:=DU (X:=dr X (ts++fr) scope cl s3.heap.objs.size s3 cU cB) _ N3 _ ER (.ref D) [y] (.ref D) [N2] (fun _ H'=>H'=upd ER D (.lst (ys++[y]))) N4 rfl (.cons N5 .nil) ⟨D,ys,y,rfl,rfl,N6,N7,rfl⟩;refine wpAny_mono mt (fun _ Zo ⟨_,Zp,N9,_,Oa⟩=>?_) (fun _ _ z=>z.elim);subst Oa;exact⟨m',lm,back N9 N8⟩
 exact codeAny_compStart_list (loop _ rfl) (T.self _ 0 _ _ _ (T.keep _ _ _ oK fun b _ o e=>iy b o (fS b o e)) (loop _ rfl))
theorem Aa{elt iter bE:Expr}{ifs:List Expr}{pos:Pos}{scope:Scope}{cl:List (Str×Addr)}{ts fr:List Str}{js:List Nat}{fu:TI}{g:gC}{tt:TT}{cC:TE}(aD:jJ X bE iter fu)(aC:∀C s H ex,iO (dr X (ts++fr) scope cl C s H ex) bE g)(iB:∀C s H ex,nE (dr X (ts++fr) scope cl C s H ex) ifs tt)(iC:∀C s H ex,b2 (dr X (ts++fr) scope cl C s H ex) elt cC)(F:nF X scope cl fr js)(hc:X.calm=true)(aq:∀v,foldedSetIterable iter X.env v=pure v):b2 X (.ListComp elt [⟨bE,iter,ifs,0⟩] scope pos) (qy fu g tt cC ts.length js):=by
 intro pins s σ H Q I h;rw[eval_ListComp];refine EM aD aC iB iC F hc aq I h _ rfl _ fun D C fN h6 m aN _ _ _ _ _ _ hH q=>⟨m,aN,fun h' dQ=>⟨.ref D,fN,hH h' fun b u af e=>dQ.extBut b u af e,rfl,q⟩⟩
theorem ES{elt iter bE:Expr}{ifs:List Expr}{pos:Pos}{scope:Scope}{cl:List (Str×Addr)}{ts fr:List Str}{js:List Nat}{fu:TI}{g:gC}{tt:TT}{cC:TE}{i:Nat}{y:Str}{py nH:Pos}(bD:X.N.Nodup)(sv:X.N[i]?=some y)(a5:X.env.scope.names.lookup y=some .local)(aD:jJ X bE iter fu)(aC:∀C s H ex,iO (dr X (ts++fr) scope cl C s H ex) bE g)(iB:∀C s H ex,nE (dr X (ts++fr) scope cl C s H ex) ifs tt)(iC:∀C s H ex,b2 (dr X (ts++fr) scope cl C s H ex) elt cC)(F:nF X scope cl fr js)(hc:X.calm=true)(aq:∀v,foldedSetIterable iter X.env v=pure v)(kE:swapsWith (.ListComp elt [⟨bE,iter,ifs,0⟩] scope pos) (some (.Name y py)) nH.line X.env=pure true):
  il X (.Assign [.Name y py] (.ListComp elt [⟨bE,iter,ifs,0⟩] scope pos) nH) (yZ (qy fu g tt cC ts.length js) (uL i)):=by
 intro pins s σ H D I h;rw[exec_Assign_Name_used _ _ _ _ kE];refine wpAny_bind (wpAny_standAt (wpAny_bind ?_));show wpAny _ X.A (do let _ <-comprehension (.ListComp elt [⟨bE,iter,ifs,0⟩] scope pos) scope X.env _ (newList []) false (eval iter X.env) (some (assign (.Name y py) X.env))) _ _ s
 refine wpAny_bind (cq (EM (RQ:=fun _ s'=>∃a6 H',Inv X pins a6 H' s'/\D.nx a6 H') (QE:=fun v H1=>uL i v σ H1 D.nx) aD aC iB iC F hc aq I h _ rfl _ ?_) fun _ s' q=>wpAny_pure (wpAny_pure q));intro L C fN h6 m aN hf eW jQ vw Ob Oc hH q;obtain⟨o,es,bq,aE,hd,r⟩:=id aN;have jM:Inv X pins σ fN h6:=hH h6.heap fun b u _ e=>e
 have Od:Inv X (pins++[(C,o)]) σ fN h6:=jM.pins_of fun p ag=>by
  rcases aae.mp ag with z|z
  ·exact jM.pin p (aaC _ z)
  ·have z:p=(C,o):=by simpa using z
   subst z;exact⟨aE,hf,eW,Oc,fun v z=>by rw[hd]at z;cases z⟩
 show wpAny _ X.A (assign (.Name y py) X.env (.ref L)) _ _ _
 refine wpAny_assign_Name (p3 Od bD sv (.inl a5) (v:=.ref L) rfl (fun mi h7=>?_) (.inr a5));have lN:mi.heap.get? C=some o:=(h7.pin (C,o) (aaC _ (aaC _ (aac.mpr rfl)))).1;refine⟨m,⟨o,es,bq,lN,hd,r⟩,fun h' dQ=>⟨_,fN,?_,q⟩⟩;exact h7.unpinned.turned (t':=mi.toks) (fun b u af e=>dQ.extBut b u af e) hf eW (.inr jQ) vw Ob
end
end L2
namespace L3
open PySem L2
def gS(g:ec)(ut:dA)(u:a7):List D->List aH->(List D->Prop)->Prop
 | [],_,k=>k []
 | d::ds,ρ,k=>g d ρ fun gG=>ut gG fun b=>if b=true then u gG fun y=>gS g ut u ds gG fun ys=>k (y::ys)else gS g ut u ds gG k
def lO:dA:=fun _ k=>k true
def nI(w:cO)(g:ec)(ut:dA)(u:a7)(dF:Nat)(js:List Nat):cO:=fun ρ k=>w ρ fun ds=>ds.length<=sizeLine/\gS g ut u ds (aad dF .no++js.map (jn ρ)) k
section
variable{K:PySem.W.Frag}{X:aM}{e:Expr}{es:List Expr}{u:a7}{w:cO}{pos p:Pos}
theorem Ab{ρ:List aH}(j:Nat):jn ρ j=.no∨(∃d,jn ρ j=.val d/\ρ[j]?=some (.val d))∨(jn ρ j=.bag/\ρ[j]?=some .bag):=by
 unfold jn;split
 ·rename_i d bP;exact .inr (.inl ⟨d,rfl,bP⟩)
 ·rename_i bP;exact .inr (.inr ⟨rfl,bP⟩)
 ·exact .inl rfl
theorem Ev.within{R:ao}{W:Addr->Prop}{B H:ao}{σ:St}{ρ:List aH}(e:Ev K R W B H σ ρ)(dF:Nat){js:List Nat}(o4:js.Nodup):
  Ev K H (fun a=>∃j,j∈js/\σ[j]?=some (some (.ref a))/\ρ[j]?=some .bag) B H (aad dF none++hs σ js) (aad dF .no++js.map (jn ρ)):=by
 have hu:∀(a:Addr)(j:Nat),σ[j]?=some (some (V.ref a))->ρ[j]?=some aH.bag->B a=none/\gh H a:=fun a j z1 aQ=>by
  obtain⟨c,aG,_,bZ,bQ⟩:=e.bagAt aQ;rw[z1]at aG;cases aG;exact⟨bZ,bQ⟩
 refine⟨⟨fun _ _ z _=>z,e.bh,fun a ⟨j,_,z1,aQ⟩=>(hu a j z1 aQ).1,fun a ⟨j,_,z1,aQ⟩=>(hu a j z1 aQ).2,fun a ⟨j,_,z1,aQ⟩=>?_⟩,?_,fun n aZ ah=>?_,fun n m a bw b8=>?_⟩
 ·obtain⟨x,y,q,_⟩:=(hu a j z1 aQ).2;rw[q];simp
 ·unfold hs;simp
 ·by_cases cE:n<dF
  ·rw[aaM (by simpa using cE),abk,if_pos cE]at ah;cases ah;trivial
  ·rw[aaJ (by simp;omega),aa9,aag]at ah;cases i0:js[n-dF]? with
   | none=>rw[i0]at ah;cases ah
   | some j =>
    rw[i0]at ah;have ah:=aab ah
    have Ac:((aad dF none++hs σ js)[n]?).join=(σ[j]?).join:=by
     rw[aaJ (by simp;omega),aa9];unfold hs;rw[aag,i0];rfl
    rw[Ac,<-ah];rcases Ab (ρ:=ρ) j with z|⟨ia,z,bP⟩|⟨z,bP⟩<;>rw[z]
    ·trivial
    ·obtain⟨v,v1,v2⟩:=e.ok j _ bP;exact⟨v,v1,v2⟩
    ·obtain⟨c,aG,_,bZ,bQ⟩:=e.ok j _ bP;exact⟨c,aG,.inl ⟨j,aaD i0,join_some aG,bP⟩,bZ,bQ⟩
 ·have back:∀n,cP (aad dF none++hs σ js) (aad dF .no++js.map (jn ρ)) n a->∃j,dF<=n/\js[n-dF]?=some j/\cP σ ρ j a:=fun n bF=>by
   rcases bF with⟨bw,b8⟩|⟨c,bw,_⟩
   rotate_left
   ·by_cases cE:n<dF
    ·rw[aaM (by simpa using cE),abk,if_pos cE]at bw;cases bw
    ·rw[aaJ (by simp;omega),aa9,aag]at bw;cases i0:js[n-dF]? with
     | none=>rw[i0]at bw;cases bw
     | some j =>
      rw[i0,abW]at bw;rcases Ab (ρ:=ρ) j with z|⟨ia,z,bP⟩|⟨z,bP⟩<;>rw[z]at bw<;>cases bw
   by_cases cE:n<dF
   ·rw[aaM (by simpa using cE),abk,if_pos cE]at bw;cases bw
   ·rw[aaJ (by simp;omega),aa9]at bw;obtain⟨j,i0,Oe⟩:=Na bw;rw[aaJ (by simp;omega),aa9,aag,i0]at b8;refine⟨j,by omega,i0,.inl ⟨join_some Oe.symm,.inl ?_⟩⟩;rcases Ab (ρ:=ρ) j with z|⟨ia,z,bP⟩|⟨z,bP⟩
    ·rw[abW,z]at b8;rcases b8 with q|⟨_,q⟩<;>cases q
    ·rw[abW,z]at b8;rcases b8 with q|⟨_,q⟩<;>cases q
    ·exact bP
  obtain⟨j,bt,i0,Of⟩:=back n bw;obtain⟨qE,bz,Og,Oh⟩:=back m b8;have:=e.sep j qE a Of Oh;subst this
  have e':n-dF<js.length:=by
   by_cases z:n-dF<js.length
   ·exact z
   ·rw[aaF (by omega)]at i0;cases i0
  have:=(List.getElem?_inj e' o4).mp (i0.trans Og.symm);omega
theorem vA{R:ao}{W:Addr->Prop}{B:ao}{a:Addr}{vs:List V}(h:R a=some (.lst vs))(nw:¬W a):fE R W B a=some (.lst vs):=by
 unfold fE;rw[h];dsimp only;rw[if_neg nw]
theorem Ad{R:ao}{W:Addr->Prop}{B:ao}{a:Addr}(h:W a):fE R W B a=B a:=by
 unfold fE;split
 ·rw[if_pos h]
 ·rfl
theorem vB{R:ao}{W:Addr->Prop}{B:ao}{a:Addr}(h:∀vs,R a≠some (.lst vs)):fE R W B a=B a:=by
 unfold fE;split
 ·rename_i vs e;exact absurd e (h vs)
 ·rfl
theorem vC{R:ao}{W:Addr->Prop}{B:ao}{a:Addr}{o:eV}(h:fE R W B a=some o):B a=some o∨(¬W a/\R a=some o/\∃vs,o=.lst vs):=by
 unfold fE at h;split at h
 ·rename_i vs e
  split at h
  ·exact .inl h
  ·rename_i z;cases h;exact .inr ⟨z,e,vs,rfl⟩
 ·exact .inl h
theorem ET{R:ao}{W:Addr->Prop}{B H:ao}(w:Wd R W B H):cp B (fE R W B):=fun a o h=>by
 by_cases z:W a
 ·rw[Ad z];exact h
 ·by_cases q:∃vs,R a=some (.lst vs)
  ·obtain⟨vs,q⟩:=q;have aa:=w.fr a _ q z;rw[w.bh a o h]at aa;cases aa;exact vA q z
  ·rw[vB fun vs e=>q ⟨vs,e⟩];exact h
theorem nJ{R:ao}{W:Addr->Prop}{B H:ao}(w:Wd R W B H):cp (fE R W B) H:=fun a o h=>by
 rcases vC h with h|⟨aa,ab,_⟩
 ·exact w.bh a o h
 ·exact w.fr a o ab aa
theorem vD{R:ao}{W mv:Addr->Prop}{B az H:ao}(w:Wd R W B H)(s:cp B az)(sB:cp az H)(hw:∀a,mv a->R a≠none->W a)(af:∀a,mv a->az a=none):cp (fE R W B) (fE H mv az):=fun a o h=>by
 have dm:=nJ w a o h;rcases vC h with h|⟨aa,ab,vs,rfl⟩
 ·have h':=s a o h;by_cases z:mv a
  ·rw[af a z]at h';cases h'
  ·by_cases q:∃vs,H a=some (.lst vs)
   ·obtain⟨vs,q⟩:=q;rw[dm]at q;cases q;exact vA dm z
   ·rw[vB fun vs e=>q ⟨vs,e⟩];exact h'
 ·exact vA dm fun z=>aa (hw a z (by rw[ab];simp))
theorem Ev.rebase{R:ao}{W:Addr->Prop}{B H:ao}{σ:St}{ρ:List aH}(e:Ev K R W B H σ ρ)(hm:∀j a,cP σ ρ j a->W a):Ev K H W B H σ ρ:=by
 refine⟨⟨fun _ _ z _=>z,e.bh,e.wb,e.wh,fun a z=>by obtain⟨gF,ey,hF,_⟩:=e.wh a z;rw[hF];simp⟩,e.len,fun j aZ bP=>?_,e.sep⟩;have:=e.ok j aZ bP;cases aZ with
 | no=>trivial
 | new d =>
  obtain⟨v,aa,ab⟩:=this;exact⟨v,aa,ab.mono (vD e.toWd (cp.refl _) e.bh (fun _ z _=>z) e.wb)⟩
 | pin v d=>exact⟨this.1,this.2.mono (vD e.toWd (cp.refl _) e.bh (fun _ z _=>z) e.wb)⟩
 | val d=>exact this
 | own ds =>
  obtain⟨a,a4,bS,_⟩:=this;exact absurd bS (e.wr a (hm j a (.inl ⟨join_some a4,.inr ⟨ds,bP⟩⟩)))
 | deep c=>exact absurd (this.2.fr _ ZJ).1 (e.wr _ (hm j _ (.inr ⟨c,bP,ZJ⟩)))
 | bag =>
  obtain⟨c,aG,aJ,bZ,bQ⟩:=this;exact⟨c,aG,.inl (hm j c (.inl ⟨join_some aG,.inl bP⟩)),bZ,bQ⟩
theorem Ev.unbase{R:ao}{W:Addr->Prop}{B H az H':ao}{σ:St}{ρ:List aH}(e:Ev K R W B H σ ρ)(hm:∀j a,cP σ ρ j a->W a)(aT:Ev K H W az H' σ ρ)(g:bM H B az):Ev K R W az H' σ ρ/\bM R B az:=by
 refine⟨⟨⟨fun a o z nw=>aT.fr a o (e.fr a o z nw) nw,aT.bh,aT.wb,aT.wh,e.wr⟩,aT.len,fun j aZ bP=>?_,aT.sep⟩,⟨g.s,fun a o z=>?_⟩⟩
 ·have:=aT.ok j aZ bP;cases aZ with
  | no=>trivial
  | new d =>
   obtain⟨v,aa,ab⟩:=e.ok j _ bP;exact⟨v,aa,ab.mono (oR g.s)⟩
  | pin v d =>
   obtain⟨aa,ab⟩:=e.ok j _ bP;exact⟨aa,ab.mono (oR g.s)⟩
  | val d=>exact this
  | own ds =>
   obtain⟨a,a4,bS,_⟩:=e.ok j _ bP;exact absurd bS (e.wr a (hm j a (.inl ⟨join_some a4,.inr ⟨ds,bP⟩⟩)))
  | deep c=>exact absurd ((e.deepAt bP).2.fr _ ZJ).1 (e.wr _ (hm j _ (.inr ⟨c,bP,ZJ⟩)))
  | bag =>
   obtain⟨c,aG,aJ,bZ,bQ⟩:=this;exact⟨c,aG,.inl (hm j c (.inl ⟨join_some aG,.inl bP⟩)),bZ,bQ⟩
 ·rcases g.n a o z with q|q
  ·exact .inl q
  ·exact .inr (e.toWd.fresh q).1
theorem Ae{fu:TI}{g:gC}{tt:TT}{cC:TE}{e0:ec}{ut:dA}{dF:Nat}{js:List Nat}(h0:zH K fu w)(aC:qn K g e0)(bB:hP K tt ut)(aa:eM K cC u)(o4:js.Nodup):qm K (qy fu g tt cC dF js) (nI w e0 ut u dF js):=by
 intro ρ k h R W B H σ Q e q;refine h0 ρ _ h R W B H σ _ e fun ds J a0 H1 z1 ai g1 it=>?_;obtain⟨aj,z1⟩:=z1;intro D gO;obtain⟨f1,f2,bO⟩:=ai.toWd.fresh gO;have nK:∀i,¬cP σ ρ i D:=fun i m=>ai.notNew gO m rfl;have eZ:=ai.within dF o4
 have kL:∀j a,cP (aad dF none++hs σ js) (aad dF .no++js.map (jn ρ)) j a->∃j,j∈js/\σ[j]?=some (some (V.ref a))/\ρ[j]?=some aH.bag:=fun j a m=>by
  have bS:=(eZ.mutOk m).2;rcases m with⟨bw,z|⟨es,z⟩⟩|⟨c,z,oP⟩
  ·obtain⟨c,aG,aJ,_⟩:=eZ.bagAt z;rw[bw]at aG;cases aG;rcases aJ with aJ|aJ
   ·exact aJ
   ·exact absurd aJ bS
  ·obtain⟨c,aG,aJ,_⟩:=eZ.ownC z;rw[bw]at aG;cases aG;exact absurd aJ bS
  ·exact absurd ((eZ.deepAt z).2.fr a oP).1 bS
 generalize nL:(fun a=>∃j,j∈js/\σ[j]?=some (some (V.ref a))/\ρ[j]?=some aH.bag)=fa at eZ;have kL:∀j a,cP (aad dF none++hs σ js) (aad dF .no++js.map (jn ρ)) j a->fa a:=fun j a m=>by rw[<-nL];exact kL j a m
 have g6:∀a,fa a->∃i:Nat,σ[i]?=some (some (.ref a))/\ρ[i]?=some .bag:=fun a z=>by
  rw[<-nL]at z;obtain⟨j,_,z⟩:=z;exact⟨j,z⟩
 have kM:¬fa D:=fun z=>by
  obtain⟨o5,bI,c9⟩:=g6 D z;exact nK o5 (.inl ⟨bI,.inl c9⟩)
 refine⟨fun i m i1 H'=>∃az ys es hT,m=ds.length-i/\i<=ds.length/\Ev K H1 fa az H' i1 hT/\bM H1 a0 az/\H' D=some (.lst ys)/\az D=none/\(∀j a,cP i1 hT j a->fa a)/\ys.length<=i/\Reps K az ys es/\gS e0 ut u (ds.drop i) hT fun r=>k (es++r),
  ⟨ds.length,a0,[],[],_,by simp,aaE _,eZ.allocH gO _,bM.refl _ _,en,bO,kL,Zg _,.nil,by simpa using z1⟩,?_⟩
 rintro i m i1 a3 ⟨bH,ys,es,hT,rfl,aD,av,g2,a5,af,sx,EU,cx,aQ⟩;obtain⟨t1,cY,t3⟩:=it a3 (g2.s.trans av.bh) i;by_cases cE:i<ds.length
 ·refine .inr ⟨t1 cE,fun x H' y=>?_⟩;obtain⟨rfl,d,hd,bc⟩:=t3 x H' cE y
  have gn:ds.drop i=d::ds.drop (i+1):=by
   rw[abd cE];rw[aan cE]at hd;rw[aab hd]
  rw[gn]at aQ;refine aC d hT _ aQ H1 fa bH H' i1 x _ av (bc.mono g2.s) fun hU fU fF bG bF=>?_;have gT:∀j a,cP fU hU j a->fa a:=fun j a m=>sx j a (bF j a m)
  have kN:∀{f5:ao},bM H' bH f5->f5 D=none:=fun{f5} dG=>by
   cases sy:f5 D with
   | none=>rfl
   | some o =>
    rcases dG.n D o sy with z|z
    ·rw[af]at z;cases z
    ·rw[a5]at z;cases z
  refine bB hU _ fF H' fa bH H' fU _ (bG.rebase gT) fun b f5 kJ eY c4 dG=>?_;have sA:kJ D=some (.lst ys):=c4.fr D _ a5 kM;cases b with
  | false =>
   rw[if_neg aal]at eY ⊢;obtain⟨eL,i2⟩:=bG.unbase gT c4 dG;exact⟨ds.length-(i+1),by omega,f5,ys,es,hU,rfl,cE,eL,g2.trans i2,sA,kN dG,gT,by omega,cx.mono dG.s,eY⟩
  | true =>
   rw[if_pos rfl]at eY ⊢;refine aa hU _ eY H' fa f5 kJ fU _ c4 fun ey v sC fN kK eL i2 s5=>?_;have i3:=dG.trans i2;have sD:fN D=some (.lst ys):=eL.fr D _ a5 kM;obtain⟨jU,sE⟩:=bG.unbase gT eL i3;refine⟨ys,sD,by omega,ds.length-(i+1),by omega,sC,ys++[v],es++[ey],hU,rfl,cE,jU.scribble gO (kN i3) (fun j m=>kM (gT j D m)) _,g2.trans sE,en,kN i3,gT,by rw[ZM,aaQ];omega,(cx.mono i3.s).append (.cons s5 .nil),?_⟩;simpa[aao]using kK
 ·have eq:i=ds.length:=by omega
  subst eq;rw[abm]at aQ;obtain⟨c4,dG⟩:=ai.after g6 av.toWd g2;refine .inl ⟨cY (Zg _),q _ D ys bH a3 (by simpa[gS]using aQ) c4 (g1.trans dG) f1 af a5 cx nK⟩
def nM(X:aM)(ifs:List Expr)(ut:dA):Prop:=∃t,nE X ifs t/\hP X.K t ut
theorem jq:nM X [] lO:=⟨_,NF,fun ρ k h R W B H σ Q e q=>q true B H h e (bM.refl _ _)⟩
theorem EV{c:Expr}{ut:dA}(h:ht X c ut):nM X [c] ut:=by
 obtain⟨_,aa,ar⟩:=h;exact⟨_,NG aa,ar⟩
theorem vE{elt:Expr}{α:Type}{Xs:α->aM}(e5:∀a,(Xs a).K=K)(h:∀a,br (Xs a) elt u):∃t,(∀a,b2 (Xs a) elt t)/\eM K t u:=by
 refine⟨fun σ H Q=>∀a,∃t,b2 (Xs a) elt t/\eM K t u/\t σ H Q,fun a pins s σ H Q I q=>?_,fun ρ k q R W B H σ Q e z a=>?_⟩
 ·obtain⟨t,bB,_,ay⟩:=q a;exact bB pins s σ H Q I ay
 ·obtain⟨t,bB,ak⟩:=h a;rw[e5 a]at ak;exact⟨t,bB,ak,ak ρ k q R W B H σ Q e z⟩
theorem sF{ifs:List Expr}{ut:dA}{α:Type}{Xs:α->aM}(e5:∀a,(Xs a).K=K)(h:∀a,nM (Xs a) ifs ut):∃t,(∀a,nE (Xs a) ifs t)/\hP K t ut:=by
 refine⟨fun σ H Q=>∀a,∃t,nE (Xs a) ifs t/\hP K t ut/\t σ H Q,fun a pins s σ H Q I q=>?_,fun ρ k q R W B H σ Q e z a=>?_⟩
 ·obtain⟨t,bB,_,ay⟩:=q a;exact bB pins s σ H Q I ay
 ·obtain⟨t,bB,ak⟩:=h a;rw[e5 a]at ak;exact⟨t,bB,ak,ak ρ k q R W B H σ Q e z⟩
theorem sG{bE:Expr}{e0:ec}{α:Type}{Xs:α->aM}(e5:∀a,(Xs a).K=K)(h:∀a,iX (Xs a) bE e0):∃t,(∀a,iO (Xs a) bE t)/\qn K t e0:=by
 refine⟨fun v σ H Q=>∀a,∃t,iO (Xs a) bE t/\qn K t e0/\t v σ H Q,fun a pins s σ H v x Q I r q=>?_,fun d ρ k q R W B H σ v Q e r z a=>?_⟩
 ·obtain⟨t,bB,_,ay⟩:=q a;exact bB pins s σ H v x Q I r ay
 ·obtain⟨t,bB,ak⟩:=h a;rw[e5 a]at ak;exact⟨t,bB,ak,ak d ρ k q R W B H σ v Q e r z⟩
variable{elt iter bE:Expr}{ifs:List Expr}{scope:Scope}{cl:List (Str×Addr)}{ts fr:List Str}{js:List Nat}{e0:ec}{ut:dA}
theorem nN(aD:lH X bE iter w)(aC:∀C s H ex,iX (dr X (ts++fr) scope cl C s H ex) bE e0)(iB:∀C s H ex,nM (dr X (ts++fr) scope cl C s H ex) ifs ut)(iC:∀C s H ex,br (dr X (ts++fr) scope cl C s H ex) elt u)(F:nF X scope cl fr js)(mA:js.Nodup:=by decide)(hc:X.calm=true:=by rfl)(aq:∀v,foldedSetIterable iter X.env v=pure v:=by intro _;rfl):jV X (.ListComp elt [⟨bE,iter,ifs,0⟩] scope pos) (nI w e0 ut u ts.length js):=by
 obtain⟨_,h0,fY⟩:=aD;obtain⟨vF,mB,rg⟩:=sG (K:=X.K) (Xs:=fun a:Addr×Shared×ao×List Addr=>dr X (ts++fr) scope cl a.1 a.2.1 a.2.2.1 a.2.2.2) (fun _=>rfl) fun a=>aC a.1 a.2.1 a.2.2.1 a.2.2.2;obtain⟨tt,mC,rt⟩:=sF (K:=X.K) (Xs:=fun a:Addr×Shared×ao×List Addr=>dr X (ts++fr) scope cl a.1 a.2.1 a.2.2.1 a.2.2.2) (fun _=>rfl) fun a=>iB a.1 a.2.1 a.2.2.1 a.2.2.2;obtain⟨cC,mD,re⟩:=vE (K:=X.K) (Xs:=fun a:Addr×Shared×ao×List Addr=>dr X (ts++fr) scope cl a.1 a.2.1 a.2.2.1 a.2.2.2) (fun _=>rfl) fun a=>iC a.1 a.2.1 a.2.2.1 a.2.2.2;exact⟨_,Aa h0 (fun C s H ex=>mB (C,s,H,ex)) (fun C s H ex=>mC (C,s,H,ex)) (fun C s H ex=>mD (C,s,H,ex)) F hc aq,Ae fY rg rt re mA⟩
theorem Af{i:Nat}{y:Str}{py nH:Pos}(bD:X.N.Nodup)(sv:X.N[i]?=some y)(a5:X.env.scope.names.lookup y=some .local)(aD:lH X bE iter w)(aC:∀C s H ex,iX (dr X (ts++fr) scope cl C s H ex) bE e0)(iB:∀C s H ex,nM (dr X (ts++fr) scope cl C s H ex) ifs ut)(iC:∀C s H ex,br (dr X (ts++fr) scope cl C s H ex) elt u)(F:nF X scope cl fr js)(mA:js.Nodup:=by decide)(hc:X.calm=true:=by rfl)(aq:∀v,foldedSetIterable iter X.env v=pure v:=by intro _;rfl)(kE:swapsWith (.ListComp elt [⟨bE,iter,ifs,0⟩] scope pos) (some (.Name y py)) nH.line X.env=pure true:=by rfl):
  e7 X (.Assign [.Name y py] (.ListComp elt [⟨bE,iter,ifs,0⟩] scope pos) nH) (zK i (nI w e0 ut u ts.length js)):=by
 obtain⟨_,h0,fY⟩:=aD;obtain⟨vF,mB,rg⟩:=sG (K:=X.K) (Xs:=fun a:Addr×Shared×ao×List Addr=>dr X (ts++fr) scope cl a.1 a.2.1 a.2.2.1 a.2.2.2) (fun _=>rfl) fun a=>aC a.1 a.2.1 a.2.2.1 a.2.2.2;obtain⟨tt,mC,rt⟩:=sF (K:=X.K) (Xs:=fun a:Addr×Shared×ao×List Addr=>dr X (ts++fr) scope cl a.1 a.2.1 a.2.2.1 a.2.2.2) (fun _=>rfl) fun a=>iB a.1 a.2.1 a.2.2.1 a.2.2.2;obtain⟨cC,mD,re⟩:=vE (K:=X.K) (Xs:=fun a:Addr×Shared×ao×List Addr=>dr X (ts++fr) scope cl a.1 a.2.1 a.2.2.1 a.2.2.2) (fun _=>rfl) fun a=>iC a.1 a.2.1 a.2.2.1 a.2.2.2;refine⟨_,ES bD sv a5 h0 (fun C s H ex=>mB (C,s,H,ex)) (fun C s H ex=>mC (C,s,H,ex)) (fun C s H ex=>mD (C,s,H,ex)) F hc aq kE,fun U ρ h R W B H σ D e s=>?_⟩;exact Ae fY rg rt re mA ρ _ h R W B H σ _ e fun ds a vs a0 H1 z1 ai g1 f1 f2 bO f4 d2=>s.nx _ _ a0 H1 z1 (ai.setO i f1 f2 bO f4 fun j _=>d2 j) g1
theorem vG{st:Stmt}{s:cI}(i:Nat)(h:e7 X st s):e7 X st (fun U ρ=>s { U with nx:=fun bj=>∃ds:List D,bj[i]?=some (.own ds)/\U.nx (bj.set i (.val (.lst ds))) } ρ):=by
 obtain⟨_,aa,ar⟩:=h;refine⟨_,aa,fun U ρ h R W B H σ D e dw=>?_⟩;refine ar _ ρ h R W B H σ D e ⟨fun bj a6 az H' z aT g=>?_,dw.bk,dw.ct,dw.rt⟩;obtain⟨ds,aE,z⟩:=z;obtain⟨bH,av,g2⟩:=aT.fz aE;exact dw.nx _ a6 bH H' z av (g.trans g2)
end
theorem qF{α:Type}{f:α->D}{s:cI}{U:fW}{m:Nat}(I:List α->List aH->Prop):∀{rs done:List α}{ρ:List aH},I done ρ ->
  (∀(pre:List α)(r:α)(rest:List α) ρ,done++rs=pre++r::rest->I pre ρ->∀N:List aH->Prop,(∀du,I (pre++[r]) du->N du)->s { U with nx:=N,ct:=N,bk:=U.nx } (ρ.set m (.val (f r))))->(∀ρ,I (done++rs) ρ->U.nx ρ)->forR (gi m) s U (rs.map f) ρ
 | [],done,ρ,h0,_,ab=>ab ρ (by rw[Z'];exact h0)
 | r::rs,done,ρ,h0,aa,ab=>by
  refine aa done r rs ρ rfl h0 _ fun du ak=>?_;have e:done++r::rs=(done++[r])++rs:=by simp
  rw[e]at aa ab;exact qF I ak aa ab
theorem EW{s:cI}{U:fW}{m:Nat}(I:Nat->List aH->Prop):∀{n i:Nat}{ρ:List aH},I i ρ->(∀(j:Nat) ρ,i<=j->j<i+n->I j ρ->∀N:List aH->Prop,(∀r,I (j+1) r->N r)->s { U with nx:=N,ct:=N,bk:=U.nx } (ρ.set m (.val (.int j)))) ->
  (∀ρ,I (i+n) ρ->U.nx ρ)->forR (gi m) s U ((List.range' i n).map fun j:Nat=>D.int j) ρ
 | 0,i,ρ,h0,_,ab=>ab ρ h0
 | n+1,i,ρ,h0,aa,ab=>by
  show forR (gi m) s U (D.int i::(List.range' (i+1) n).map fun j:Nat=>D.int j) ρ
  refine aa i ρ (Zg _) (by omega) h0 _ fun r ak=>?_;exact EW I ak (fun j ρ bP Zq=>aa j ρ (by omega) (by omega)) fun ρ h=>ab ρ (by rw[show i+(n+1)=i+1+n by omega];exact h)
theorem EX{s:cI}{U:fW}{m n:Nat}{ρ:List aH}(I:Nat->List aH->Prop)(h0:I 0 ρ)(aa:∀(j:Nat) ρ,j<n->I j ρ->∀N:List aH->Prop,(∀r,I (j+1) r->N r)->s { U with nx:=N,ct:=N,bk:=U.nx } (ρ.set m (.val (.int j))))(ab:∀ρ,I n ρ->U.nx ρ):forR (gi m) s U ((aau n).map fun j:Nat=>D.int j) ρ:=by
 rw[List.range_eq_range'];exact EW I h0 (fun j ρ _ bP=>aa j ρ (by omega)) fun ρ h=>ab ρ (by rw[aa2]at h;exact h)
theorem lP{α:Type}{f h:α->D}{u:a7}{fs:List aH}:∀{rs:List α}{v0:aH}{k:List D->Prop},(∀r∈rs,∀k:D->Prop,k (h r)->u (.val (f r)::fs) k)->k (rs.map h)->gS (gi 0) lO u (rs.map f) (v0::fs) k
 | [],v0,k,_,ah=>ah
 | r::rs,v0,k,bA,ah=>by
  show(if true=true then u (.val (f r)::fs) fun y=>gS (gi 0) lO u (rs.map f) (.val (f r)::fs) fun ys=>k (y::ys)else gS (gi 0) lO u (rs.map f) (.val (f r)::fs) k)
  rw[if_pos rfl];exact bA r ZJ _ (lP (fun q ay=>bA q (ZL _ ay)) ah)
theorem sH{α β:Type}{f:α->β}{rs:List α}{i:Int}{r:α}(h:dE rs i=some r):dE (rs.map f) i=some (f r):=by
 unfold dE at h ⊢;rw[Zf];cases q:ixN rs.length i with
 | none=>rw[q]at h;cases h
 | some j =>
  rw[q]at h;show(rs.map f)[j]?=_
  rw[aag,show rs[j]?=some r from h];rfl
theorem Oi{α:Type}{rs:List α}{i:Nat}(h:i<rs.length):dE rs (i:Int)=some rs[i]:=by
 unfold dE ixN;rw[if_pos (by omega),if_pos (by omega)];show rs[((i:Int)).toNat]?=_
 rw[show((i:Int)).toNat=i by omega,aan h]
theorem Oj{α:Type}{xs:List α}{i:Int}(h0:0<=i)(aa:i<=xs.length):fx xs (some i) none=xs.drop i.toNat:=by
 unfold fx
 have ai:HT.sIx xs.length 0 (some i)=i.toNat:=by
  unfold HT.sIx
  first|omega|(simp only[];split<;>omega)|(split<;>omega)|(dsimp only;split<;>(try split)<;>omega)
 have av:HT.sIx xs.length xs.length none=xs.length:=rfl;rw[ai,av];exact acU (by rw[abv];omega)
theorem Ol{α:Type}{xs:List α}{i:Int}(h0:0<=i)(aa:i<=xs.length):fx xs none (some i)=xs.take i.toNat:=by
 unfold fx
 have ai:HT.sIx xs.length xs.length (some i)=i.toNat:=by
  unfold HT.sIx
  first|omega|(simp only[];split<;>omega)|(split<;>omega)|(dsimp only;split<;>(try split)<;>omega)
 have av:HT.sIx xs.length 0 none=0:=rfl;rw[ai,av];rfl
section
variable{X:aM}{e:Expr}{u:a7}{pos p:Pos}
def Om(u:a7):a7:=fun ρ k=>u ρ fun x=>∃ds,x=.lst ds/\(∀d∈ds,d=.bl true)/\k (.bl true)
theorem Ag(ax:br X e u)(hc:X.calm=true)(aC:eB X "all")(hm:X.mg "all"=none)(aq:starEach [e] X.env=(false,eval e X.env)::starEach [] X.env:=by rfl):br X (.Call (.Name "all" p) [e] [] pos) (Om u):=by
 obtain⟨_,aa,ar⟩:=ax;refine⟨_,oN (Ml hc) aC hm (by decide +kernel) (eh aa fD aq) (by decide) (by decide) aq,vg (f:=fun x k=>∃ds,x=.lst ds/\(∀d∈ds,d=.bl true)/\k (.bl true)) ar fun x k h R W B H σ ρ v Q e bc q=>?_⟩;obtain⟨ds,rfl,hd,ah⟩:=h;obtain⟨a,vs,rfl,ax,rs⟩:=bc.lstV;refine⟨a,vs,rfl,e.bh _ _ ax,fun y a5=>?_,q _ _ B H ah e (bM.refl _ _) (.bl _)⟩;obtain⟨j,bP⟩:=abl a5;obtain⟨d,gn,iz⟩:=rs.getV bP;have:=hd d (aaD gn);subst this;exact iz.blV
end
section
variable{X:aM}{e:Expr}{u:a7}{pos p:Pos}
def Oo(i:Nat)(u:a7):cI:=fun U ρ=>∃ds:List D,ρ[i]?=some (.own ds)/\u ρ fun d=>∃es,d=.lst es/\ds.length+es.length<=sizeLine/\U.nx (ρ.set i (.own (ds++es)))
theorem EY(i:Nat){x:Str}{px apos cW:Pos}(he:br X e u)(bD:X.N[i]?=some x:=by rfl)(aP:gb X.env.scope x:=by first|exact Sz rfl|exact ZN (Sz rfl)|exact ZN (ZN rfl))(hd:(x==("__debug__":Str))=false:=by decide)(dB:(x==("__classdict__":Str))=false:=by decide)(ip:attributeBase (.Name x px) "extend" X.env (eval (.Name x px) X.env)=eval (.Name x px) X.env:=by rfl)(kx:((backTo cW (starEach [e] X.env)).all (fun x => !x.1)&&(backToKw cW (keywordEach [] X.env)).all (fun x=>x.1.isSome)
   && decide ([e].length+([]:List Keyword).length+(if([]:List Keyword).isEmpty then 0 else 1)<30))=true:=by rfl)(iq:(apos.endLine==cW.line)=true:=by rfl)(aq:starEach [e] X.env=(false,eval e X.env)::starEach [] X.env:=by rfl)(oO:(backTo cW (starEach ([]:List Expr) X.env)).any (·.1)=false:=by rfl)(kE:swapsWith (.Call (.Attribute (.Name x px) "extend" apos) [e] [] cW) none pos.line X.env=pure false:=by rfl):e7 X (.Expr (.Call (.Attribute (.Name x px) "extend" apos) [e] [] cW) pos) (Oo i u):=by
 obtain⟨_,aa,ar⟩:=he;refine⟨_,rH (u0 abM ady adz LV (hG bD aP hd dB) (eh aa fD aq) ip kx iq aq oO) kE,fun U ρ h R W B H σ D e s=>?_⟩;obtain⟨ds,aE,h⟩:=h;obtain⟨a,vs,ai,av,bG,c4,eL⟩:=e.ownAt aE;refine⟨_,ai,.inl ⟨rfl,vs,cw.of c4⟩,?_⟩;refine ar ρ _ h R W B H σ _ e fun d v a0 H1 z1 f1 g1 s1=>?_;obtain⟨eI,kF,bY,ck,fS,iy,nB⟩:=f1.ownAt aE;rw[ai]at bY;cases bY;obtain⟨es,rfl,aj,z⟩:=z1;obtain⟨b,ws,rfl,af,rt⟩:=s1.lstV;exact⟨a,b,kF,ws,rfl,rfl,iy,f1.bh _ _ af,by rw[nB.length,rt.length];exact aj,s.nx _ _ a0 _ z (f1.write ai aE (nB.append rt)) g1⟩
end
end L3
namespace Cut
open PySem L2 L3
open PySem.Builtin.Int (intBits)
def dR(r:Int×Int):D:=.tup [.int r.1,.int r.2]
def dP(p:Int×Int×Int):D:=.tup [.int p.1,.int p.2.1,.int p.2.2]
def sI(t b:Int):Int:=if b<0 then -((Ze t b:Nat):Int)else((Ze t b:Nat):Int)
def cA(t b:Int):Int×Int:=(t.fdiv (sI t b),b.fdiv (sI t b))
theorem g9{t b:Int}(af:b≠0):aO (cA t b).1 (cA t b).2/\(cA t b).1*b=t*(cA t b).2/\(cA t b).1.natAbs<=t.natAbs/\(cA t b).2.natAbs<=b.natAbs:=by
 unfold cA sI;split
 ·exact D2 af rfl (.inr ⟨rfl,by assumption⟩)
 ·exact D2 af rfl (.inl ⟨rfl,by omega⟩)
def g3(a b n:Int):Int:=((Ze (Ze a n:Nat) b:Nat):Int)
def jr(a b n:Int):Int:=if n<0 then -g3 a b n else g3 a b n
def cy(a b n:Int):Int×Int×Int:=(a.fdiv (jr a b n),b.fdiv (jr a b n),n.fdiv (jr a b n))
theorem iD{a b n:Int}(aN:n≠0):lE (cy a b n).1 (cy a b n).2.1 (cy a b n).2.2/\(cy a b n).1*n=a*(cy a b n).2.2/\(cy a b n).2.1*n=b*(cy a b n).2.2/\(cy a b n).1.natAbs<=a.natAbs/\(cy a b n).2.1.natAbs<=b.natAbs/\(cy a b n).2.2.natAbs<=n.natAbs:=by
 unfold cy jr;split
 ·exact D5 aN rfl (.inr ⟨rfl,by assumption⟩)
 ·exact D5 aN rfl (.inl ⟨rfl,by omega⟩)
theorem Oq(a b n:Int):((Ze (Ze a b:Nat) n:Nat):Int)=g3 a b n:=by
 unfold g3;rw[u7];rfl
theorem Ot(a b n:Int):((Ze (Ze n a:Nat) b:Nat):Int)=g3 a b n:=by
 unfold g3;rw[Mm]
theorem EZ{a b n:Int}(aN:n≠0):0<g3 a b n:=D3 aN
theorem E0{a b n:Int}{k:Nat}(aN:n≠0)(h:intBits n<=k):intBits (g3 a b n)<=k:=Mn aN h
theorem kO{a b:Int}{k:Nat}(af:b≠0)(h:intBits b<=k):intBits ((Ze a b:Nat):Int)<=k:=by
 refine intBits_le_of_natAbs ?_ h;exact acQ (by omega) (by simpa using abV.mpr (abT a b))
theorem Ou{x:Int}(h0 : -(10^30)<x)(aa:x<10^30):intBits x<=100:=by
 refine intBits_le_iff.mpr ?_;have Ov:(10:Int)^30=1000000000000000000000000000000:=rfl;have Ow:(2:Nat)^100=1267650600228229401496703205376:=rfl;rw[Ov]at h0 aa;rw[Ow];omega
theorem hV{a s x:Int}(h:a=s*x)(s0:s≠0):a.fdiv s=x:=by rw[h];exact abG x s0
theorem Ox{a b s x y:Int}(aa:a=s*x)(ab:b=s*y):Ze a b=s.natAbs*Ze x y:=by rw[aa,ab,acM]
theorem E1{p q:Int×Int×Int}(h:dP p=dP q):p=q:=by
 obtain⟨a,b,c⟩:=p;obtain⟨d,e,f⟩:=q;unfold dP at h;cases h;rfl
theorem Oy{p q:Int×Int}(h:dR p=dR q):p=q:=by
 obtain⟨a,b⟩:=p;obtain⟨d,e⟩:=q;unfold dR at h;cases h;rfl
theorem Oz{t b:Int}(af:b≠0):cA (-t) (-b)=cA t b:=by
 obtain⟨bt,ai,_⟩:=g9 (t :=-t) (b :=-b) (by omega);obtain⟨bz,av,_⟩:=g9 (t:=t) af
 have e:(cA (-t) (-b)).1*(cA t b).2=(cA t b).1*(cA (-t) (-b)).2:=by
  refine aaN af ?_;grind
 obtain⟨a,c⟩:=zA bt bz e;exact abi a c
theorem OA{a b c d:Int}(af:b≠0)(hd:d≠0)(h:a*d=c*b):cA a b=cA c d:=by
 obtain⟨bt,ai,_⟩:=g9 (t:=a) af;obtain⟨bz,av,_⟩:=g9 (t:=c) hd
 have e:(cA a b).1*(cA c d).2=(cA c d).1*(cA a b).2:=by
  refine aaN (aah af hd) ?_;grind
 obtain⟨x,y⟩:=zA bt bz e;exact abi x y
theorem OB{x y:Int}(h:aO x y):cA x y=(x,y):=by
 obtain⟨l,e,_⟩:=g9 (t:=x) (Zh h.1);obtain⟨a,b⟩:=zA l h e;exact abi a b
abbrev P3:=Int×Int×Int
def crs(p q:P3):P3:=(p.2.1*q.2.2-p.2.2*q.2.1,p.2.2*q.1-p.1*q.2.2,p.1*q.2.1-p.2.1*q.1)
def sc(c:Int)(p:P3):P3:=(c*p.1,c*p.2.1,c*p.2.2)
def lc(a:Int)(p:P3)(b:Int)(q:P3):P3:=(a*p.1+b*q.1,a*p.2.1+b*q.2.1,a*p.2.2+b*q.2.2)
def nP(p:P3):P3:=cy p.1 p.2.1 p.2.2
theorem ee{p q:P3}(aa:p.1=q.1)(ab:p.2.1=q.2.1)(aL:p.2.2=q.2.2):p=q:=abi aa (abi ab aL)
variable{P:Program}{w:World}{K:PySem.W.Frag}{mg:Str->Option Value}{base:Heap}
theorem Ah{c d:Int}{p q:P3}(h:sc c p=sc d q):c*p.1=d*q.1/\c*p.2.1=d*q.2.1/\c*p.2.2=d*q.2.2 :=
 ⟨congrArg (·.1) h,congrArg (·.2.1) h,congrArg (·.2.2) h⟩
theorem Ai(c d:Int)(p q:P3):crs (sc c p) (sc d q)=sc (c*d) (crs p q):=by
 refine ee ?_ ?_ ?_<;>simp only[crs,sc]<;>grind
theorem E2(c d:Int)(p:P3):sc c (sc d p)=sc (c*d) p:=by
 refine ee ?_ ?_ ?_<;>simp only[sc]<;>grind
theorem i4{p:P3}(aN:p.2.2≠0):∃g,g≠0/\p=sc g (nP p):=by
 obtain⟨pt,ai,av,_⟩:=iD (a:=p.1) (b:=p.2.1) aN;have z0:(nP p).2.2≠0:=Zh pt.1;obtain⟨g,aC⟩:=zD pt.2 ai av;have ba:g≠0:=fun z=>aN (by rw[aC,z,aai]);refine⟨g,ba,ee ?_ ?_ ?_⟩
 ·refine aaN z0 ?_;show p.1*(cy p.1 p.2.1 p.2.2).2.2=g*(cy p.1 p.2.1 p.2.2).1*(cy p.1 p.2.1 p.2.2).2.2
  rw[<-ai];grind
 ·refine aaN z0 ?_;show p.2.1*(cy p.1 p.2.1 p.2.2).2.2=g*(cy p.1 p.2.1 p.2.2).2.1*(cy p.1 p.2.1 p.2.2).2.2
  rw[<-av];grind
 ·show p.2.2=g*(cy p.1 p.2.1 p.2.2).2.2
  rw[aak];exact aC
abbrev aR(p:P3):Prop:=lE p.1 p.2.1 p.2.2
theorem fh{p:P3}(aN:p.2.2≠0):aR (nP p):=(iD aN).1
theorem qG{M h:P3}{G c:Int}(E3:G≠0)(hc:c≠0)(ag:aR h)(e:sc G M=sc c h):M.2.2≠0/\nP M=h:=by
 obtain⟨ai,av,bG⟩:=Ah e;have h0:h.2.2≠0:=Zh ag.1
 have m0:M.2.2≠0:=fun z=>by
  rw[z,aai]at bG;exact aah hc h0 bG.symm
 refine⟨m0,?_⟩;obtain⟨pt,f1,f2,_⟩:=iD (a:=M.1) (b:=M.2.1) m0;have bY:M.1*h.2.2=h.1*M.2.2:=adA (aah E3 hc) (by grind);have ck:M.2.1*h.2.2=h.2.1*M.2.2:=adA (aah E3 hc) (by grind);obtain⟨a4,bS,fC⟩:=u9 pt ag (aaN m0 (by grind)) (aaN m0 (by grind));exact ee a4 bS fC
theorem E4{h:P3}(ag:aR h):nP h=h:=(qG (M:=h) (h:=h) (G:=1) (c:=1) (by decide) (by decide) ag rfl).2
structure cm (m:Nat) (p:P3):Prop where
 a:intBits p.1<=m
 b:intBits p.2.1<=m
 c:intBits p.2.2<=m
theorem cm.mono{m n:Nat}{p:P3}(h:cm m p)(l:m<=n):cm n p:=⟨Gq h.a l,Gq h.b l,Gq h.c l⟩
theorem cm.nP{m:Nat}{p:P3}(h:cm m p)(aN:p.2.2≠0):cm m (Cut.nP p):=by
 obtain⟨_,_,_,aG,aJ,bZ⟩:=iD (a:=p.1) (b:=p.2.1) aN;exact⟨d3 aG h.a,d3 aJ h.b,d3 bZ h.c⟩
theorem cm.crs{m n:Nat}{p q:P3}(ag:cm m p)(ay:cm n q):cm (m+n+1) (Cut.crs p q):=by
 have e:∀{x y u v:Int},intBits x<=m->intBits y<=n->intBits u<=m->intBits v<=n->intBits (x*y-u*v)<=m+n+1:=fun a b c d=>Gq (intBits_sub_le (intBits_mul_le a b) (intBits_mul_le c d)) (by omega);exact⟨e ag.b ay.c ag.c ay.b,e ag.c ay.a ag.a ay.c,e ag.a ay.b ag.b ay.a⟩
end Cut
namespace Cut
open PySem L2 L3
open PySem.Builtin.Int (intBits)
abbrev bx:=Int×Int
end Cut
namespace L3
open PySem L2
section
variable{K:PySem.W.Frag}{R:ao}{W:Addr->Prop}{B az H H':ao}{σ:St}{ρ:List aH}
def o6:aH->aH
 | .own (.l ds)=>.val (.lst ds)
 | .own (.d b _ ks ds)=>.val (.dct b ks ds)
 | .deep _=>.no
 | s=>s
def gH(W:Addr->Prop)(σ:St)(ρ:List aH)(a:Addr):Prop:=W a∨∃i:Nat,σ[i]?=some (some (.ref a))/\ρ[i]?=some .bag
def lQ(σ:St)(ρ:List aH)(a:Addr):Prop:=∃(i:Nat)(ds:lF),σ[i]?=some (some (.ref a))/\ρ[i]?=some (.own ds)
open Classical in
noncomputable def nO(B H:ao)(σ:St)(ρ:List aH):ao:=fun a=>if lQ σ ρ a then H a else B a
theorem qH{a:Addr}(h:lQ σ ρ a):nO B H σ ρ a=H a:=by unfold nO;rw[if_pos h]
theorem qI{a:Addr}(h:¬lQ σ ρ a):nO B H σ ρ a=B a:=by unfold nO;rw[if_neg h]
theorem Ev.frW_B(e:Ev K R W B H σ ρ){a:Addr}(h:gH W σ ρ a):B a=none/\gh H a:=by
 rcases h with h|⟨i,aa,ab⟩
 ·exact⟨e.wb a h,e.wh a h⟩
 ·obtain⟨b,aG,_,bZ,bQ⟩:=e.bagAt ab;rw[aa]at aG;cases aG;exact⟨bZ,bQ⟩
theorem Ev.own_out(e:Ev K R W B H σ ρ){a:Addr}(h:lQ σ ρ a):R a=none/\B a=none/\H a≠none/\¬gH W σ ρ a:=by
 obtain⟨i,ds,aa,ab⟩:=h;obtain⟨b,aG,aJ,bZ,bQ⟩:=e.ownC ab;rw[aa]at aG;cases aG;refine⟨aJ,bZ,bQ.ne,fun z=>?_⟩;rcases z with z|⟨j,z1,aQ⟩
 ·exact e.wr a z aJ
 ·have:=e.sep i j a (.inl ⟨aa,.inr ⟨ds,ab⟩⟩) (.inl ⟨z1,.inl aQ⟩);subst this;rw[ab]at aQ;cases aQ
theorem Ev.deep_out(e:Ev K R W B H σ ρ){i:Nat}{c:kz}(h:ρ[i]?=some (.deep c)){a:Addr}(m:a∈c.adr::c.ins):¬gH W σ ρ a:=fun z=>by
 rcases z with z|⟨j,z1,aQ⟩
 ·exact e.wr a z ((e.deepAt h).2.fr a m).1
 ·have:=e.sep i j a (.inr ⟨c,h,m⟩) (.inl ⟨z1,.inl aQ⟩);subst this;rw[h]at aQ;cases aQ
theorem Ev.frB_same(e:Ev K R W B H σ ρ):cp B (nO B H σ ρ):=fun a o h=>by
 by_cases z:lQ σ ρ a
 ·rw[(e.own_out z).2.1]at h;cases h
 ·rw[qI z];exact h
theorem Ev.frame(e:Ev K R W B H σ ρ):Ev K H (gH W σ ρ) (nO B H σ ρ) H σ (ρ.map o6):=by
 have nb:∀a,gH W σ ρ a->nO B H σ ρ a=none:=fun a h=>by
  by_cases z:lQ σ ρ a
  ·exact absurd h (e.own_out z).2.2.2
  ·rw[qI z];exact(e.frW_B h).1
 refine⟨⟨fun _ _ z _=>z,fun a o h=>?_,nb,fun a h=>(e.frW_B h).2,fun a h=>?_⟩,by rw[Zf];exact e.len,fun i k h=>?_,fun i j a bw b8=>?_⟩
 ·by_cases z:lQ σ ρ a
  ·rw[qH z]at h;exact h
  ·rw[qI z]at h;exact e.bh a o h
 ·obtain⟨x,y,q,_⟩:=(e.frW_B h).2;rw[q];simp
 ·rw[aag]at h;cases q:ρ[i]? with
  | none=>rw[q]at h;cases h
  | some cf =>
   rw[q]at h;have h:=aab h;subst h;have z:=e.ok i _ q;cases cf with
   | no=>trivial
   | new d =>
    obtain⟨v,aa,ab⟩:=z;refine⟨v,aa,ab.mono (vD e.toWd e.frB_same (fun a o h=>?_) (fun a z ak=>?_) nb)⟩
    ·by_cases z:lQ σ ρ a
     ·rw[qH z]at h;exact h
     ·rw[qI z]at h;exact e.bh a o h
    ·rcases z with z|⟨i,z1,aQ⟩
     ·exact z
     ·obtain⟨b,aG,aJ,_⟩:=e.bagAt aQ;rw[z1]at aG;cases aG;exact aJ.resolve_right ak
   | deep c=>trivial
   | pin v d =>
    obtain⟨aa,ab⟩:=z;refine⟨aa,ab.mono (vD e.toWd e.frB_same (fun a o h=>?_) (fun a z ak=>?_) nb)⟩
    ·by_cases z:lQ σ ρ a
     ·rw[qH z]at h;exact h
     ·rw[qI z]at h;exact e.bh a o h
    ·rcases z with z|⟨i,z1,aQ⟩
     ·exact z
     ·obtain⟨b,aG,aJ,_⟩:=e.bagAt aQ;rw[z1]at aG;cases aG;exact aJ.resolve_right ak
   | val d =>
    obtain⟨v,aa,ab⟩:=z;exact⟨v,aa,ab.mono e.frB_same⟩
   | own ds =>
    obtain⟨a,aa,ab,aL,z⟩:=z;cases ds with
    | l ds =>
     obtain⟨vs,bo,de⟩:=z;exact⟨.ref a,aa,.lst (by rw[qH ⟨i,_,join_some aa,q⟩];exact bo) (de.mono e.frB_same)⟩
    | d b t ks ds =>
     obtain⟨bq,as,vs,_,bo,de,fl,lN⟩:=z;exact⟨.ref a,aa,.dct (by rw[qH ⟨i,_,join_some aa,q⟩];exact bo) (de.mono e.frB_same) fl (lN.mono e.frB_same)⟩
   | bag =>
    obtain⟨b,aa,ab,aL,bo⟩:=z;have w:gH W σ ρ b:=.inr ⟨i,join_some aa,q⟩;exact⟨b,aa,.inl w,nb b w,bo⟩
 ·have back:∀i,cP σ (ρ.map o6) i a->cP σ ρ i a:=fun i m=>by
   rcases m with⟨aa,ab⟩|⟨c,aa,_⟩
   rotate_left
   ·rw[aag]at aa;cases q:ρ[i]? with
    | none=>rw[q]at aa;cases aa
    | some cf =>
     rw[q]at aa;cases cf with
     | own ds=>cases ds<;>cases aa
     | _=>cases aa
   refine .inl ⟨aa,?_⟩;rw[aag]at ab;cases q:ρ[i]? with
   | none=>rw[q]at ab;rcases ab with ab|⟨_,ab⟩<;>cases ab
   | some cf =>
    rw[q]at ab;cases cf with
    | bag=>exact .inl rfl
    | no=>rcases ab with ab|⟨_,ab⟩<;>cases ab
    | new d=>rcases ab with ab|⟨_,ab⟩<;>cases ab
    | pin v d=>rcases ab with ab|⟨_,ab⟩<;>cases ab
    | deep d=>rcases ab with ab|⟨_,ab⟩<;>cases ab
    | val d=>rcases ab with ab|⟨_,ab⟩<;>cases ab
    | own ds=>cases ds<;>rcases ab with ab|⟨_,ab⟩<;>cases ab
  exact e.sep i j a (back i bw) (back j b8)
theorem Ev.unframe(e:Ev K R W B H σ ρ)(fr:∀a o,H a=some o->¬gH W σ ρ a->H' a=some o)(wh:∀a,gH W σ ρ a->gh H' a):Ev K R W B H' σ ρ:=by
 have OC:∀a,R a≠none->¬W a->¬gH W σ ρ a:=fun a aa ab z=>by
  rcases z with z|⟨i,z1,aQ⟩
  ·exact ab z
  ·obtain⟨b,aG,aJ,_⟩:=e.bagAt aQ;rw[z1]at aG;cases aG;rcases aJ with aJ|aJ
   ·exact ab aJ
   ·exact aa aJ
 refine⟨⟨fun a o h nw=>fr a o (e.fr a o h nw) (OC a (by rw[h];simp) nw),fun a o h=>fr a o (e.bh a o h) fun z=>?_,e.wb,fun a h=>wh a (.inl h),e.wr⟩,e.len,fun i k h=>?_,e.sep⟩
 ·rw[(e.frW_B z).1]at h;cases h
 ·have z:=e.ok i k h;cases k with
  | no=>trivial
  | new d=>exact z
  | pin v d=>exact z
  | val d=>exact z
  | own ds =>
   obtain⟨a,aa,ab,aL,bo⟩:=z;refine⟨a,aa,ab,aL,bo.mono (cp.refl _) ?_⟩;cases q:H a with
   | none=>exact absurd q bo.ne
   | some o=>exact fr a _ q (e.own_out ⟨i,ds,join_some aa,h⟩).2.2.2
  | deep c =>
   refine⟨z.1,z.2.fr,z.2.nd,z.2.ok.mono (cp.refl _) fun a iu=>?_⟩;cases q:H a with
   | none=>exact absurd q (z.2.ok.ne iu)
   | some o=>exact fr a _ q (e.deep_out h iu)
  | bag =>
   obtain⟨b,aa,ab,aL,bo⟩:=z;exact⟨b,aa,ab,aL,wh b (.inr ⟨i,join_some aa,h⟩)⟩
theorem Ev.forget(e:Ev K R W B H σ ρ){a6:St}{bj:List aH}(aj:a6.length=bj.length)(h:∀(i:Nat) (k:aH),bj[i]?=some k->k=.no∨(ρ[i]?=some k/\a6[i]?=σ[i]?)):Ev K R W B H a6 bj:=by
 have back:∀i a,cP a6 bj i a->cP σ ρ i a:=fun i a m=>by
  rcases m with⟨aa,ab|⟨ds,ab⟩⟩|⟨c,aa,ab⟩
  ·rcases h i _ ab with z|⟨z1,aQ⟩
   ·cases z
   ·exact .inl ⟨by rw[<-aQ];exact aa,.inl z1⟩
  ·rcases h i _ ab with z|⟨z1,aQ⟩
   ·cases z
   ·exact .inl ⟨by rw[<-aQ];exact aa,.inr ⟨ds,z1⟩⟩
  ·rcases h i _ aa with z|⟨z1,aQ⟩
   ·cases z
   ·exact .inr ⟨c,z1,ab⟩
 refine⟨e.toWd,aj,fun i k q=>?_,fun i j a bw b8=>e.sep i j a (back i a bw) (back j a b8)⟩;rcases h i k q with rfl|⟨z1,aQ⟩
 ·trivial
 ·rw[aQ];exact e.ok i k z1
end
section
variable{K:PySem.W.Frag}{X:aM}{e:Expr}{es:List Expr}{u:a7}{w:cO}{pos p:Pos}
mutual
def flat:D->Bool
 | .tup xs=>flats xs
 | .lst _=>false
 | .scr _=>false
 | .ktup _=>false
 | .kfn _=>false
 | .dct _ _ _=>false
 | .non=>true
 | .bl _=>true
 | .int _=>true
 | .str _=>true
 | .ty _=>true
def flats:List D->Bool
 | []=>true
 | x::r=>flat x&&flats r
end
theorem E5{R B:ao}{a:Addr}{vs:List V}(h:B a=some (.tup vs)):d4 R B a=some (.tup vs):=by
 unfold d4;rw[h]
mutual
theorem Rep.flat{R B:ao}:∀{v:V}{d:D},Rep K B v d->flat d=true->Rep K (d4 R B) v d
 | _,_,.non,_=>.non
 | _,_,.bl b,_=>.bl b
 | _,_,.int i,_=>.int i
 | _,_,.str x,_=>.str x
 | _,_,.ty n,_=>.ty n
 | _,_,.tup h r,f=>.tup (E5 h) (Reps.flat r f)
 | _,_,.lst h r,f=>by simp[L3.flat]at f
 | _,_,.scr h,f=>by simp[L3.flat]at f
 | _,_,.ktup h _,f=>by simp[L3.flat]at f
 | _,_,.kfn _,f=>by simp[L3.flat]at f
 | _,_,.dct _ _ _ _,f=>by simp[L3.flat]at f
theorem Reps.flat{R B:ao}:∀{vs:List V}{ds:List D},Reps K B vs ds->flats ds=true->Reps K (d4 R B) vs ds
 | _,_,.nil,_=>.nil
 | _,_,.cons h r,f=>by
  rw[flats,abL]at f
  exact .cons (Rep.flat h f.1) (Reps.flat r f.2)
end
def sJ(K:PySem.W.Frag)(t:TE)(u:a7):Prop:=∀(ρ:List aH)(k:D->Prop),u ρ k->∀(R:ao)(W:Addr->Prop)(B H:ao)(σ:St)(Q:cN),Ev K R W B H σ ρ ->
 (∀d v az H',k d->Ev K R W az H' σ ρ->bM R B az->Rep K (d4 R az) v d->Q v H')->t σ H Q
def OD(K:PySem.W.Frag)(t:eX)(u:cO):Prop:=∀(ρ:List aH)(k:List D->Prop),u ρ k->∀(R:ao)(W:Addr->Prop)(B H:ao)(σ:St)(Q:List V->ao->Prop),Ev K R W B H σ ρ ->
 (∀ds vs az H',k ds->Ev K R W az H' σ ρ->bM R B az->Reps K (d4 R az) vs ds->Q vs H')->t σ H Q
def jt(X:aM)(e:Expr)(u:a7):Prop:=∃t,b2 X e t/\sJ X.K t u
def vH(X:aM)(es:List Expr)(u:cO):Prop:=∃t,hq X es t/\OD X.K t u
def OE(u:a7):a7:=fun ρ k=>u ρ fun d=>flat d=true/\k d
def OF(w:cO):a7:=fun ρ k=>w ρ fun ds=>flats ds=true/\k (.lst ds)
theorem E6(h:br X e u):jt X e (OE u):=by
 obtain⟨_,aa,ar⟩:=h;refine⟨_,aa,fun ρ k h R W B H σ Q e q=>?_⟩;exact ar ρ _ h R W B H σ _ e fun d v a0 H1 z1 ai g1 s1=>q d v a0 H1 z1.2 ai g1 (s1.flat z1.1)
theorem OG(h:jV X e w):jt X e (OF w):=by
 obtain⟨_,aa,ar⟩:=h;refine⟨_,aa,fun ρ k h R W B H σ Q e q=>?_⟩;refine ar ρ _ h R W B H σ _ e fun ds a vs a0 H1 z1 ai g1 f1 f2 bO f4 d2=>?_;obtain⟨av,g2⟩:=ai.freeze bO f1 f2 d2;exact q _ _ _ _ z1.2 av (g1.trans g2) (.lst (vb en f1) ((f4.mono g2.s).flat z1.1))
theorem OH:vH X [] r8:=⟨_,fD,fun ρ k h R W B H σ Q e q=>q [] [] B H h e (bM.refl _ _) .nil⟩
theorem Aj(ax:jt X e u)(ak:vH X es w)(aq:starEach (e::es) X.env=(false,eval e X.env)::starEach es X.env:=by rfl):vH X (e::es) (mu u w):=by
 obtain⟨_,aa,ar⟩:=ax;obtain⟨_,ab,aF⟩:=ak;refine⟨_,eh aa ab aq,fun ρ k h R W B H σ Q e q=>?_⟩;refine ar ρ _ h R W B H σ _ e fun d v a0 H1 z1 ai g1 s1=>?_;refine aF ρ _ z1 R W a0 H1 σ _ ai fun ds vs bH a3 aQ av g2 s2=>?_;exact q _ _ bH a3 aQ av (g1.trans g2) (.cons (s1.mono (qo g2.s)) s2)
theorem OI{bK}(h:vH X es w):jt X (.Tuple es bK pos) (vf w):=by
 obtain⟨_,aa,ar⟩:=h;refine⟨_,zf aa,fun ρ k z R W B H σ Q e q=>?_⟩;refine ar ρ _ z R W B H σ _ e fun ds vs a0 H1 z1 ai g1 s1=>?_;refine⟨by rw[s1.length];exact z1.1,fun p ag=>?_⟩;have g2:=ai.grow ag (.tup vs);exact q _ _ _ _ z1.2 (ai.alloc ag _) (g1.trans g2) (.tup (E5 en) (s1.mono (qo g2.s)))
def OJ(n:Nat)(F:FS)(w:hO):a7:=fun ρ k=>w ρ fun as=>sh as n=true/\F (as.map Arg.sl) fun r=>∃d,r=.new d/\k d
theorem qJ{n:Nat}{F:FS}{w:hO}{x:Str}{ps:List Str}{j lv:Nat}(c:aI X.prog X.w X.K X.mg X.base x ps j (aK X.K n F))(ak:eC lv X.A)(aC:eB X x)(ax:lG X (e::es) w)(gQ:j<=lv:=by decide)(g0:(x==("__debug__":Str))=false:=by decide)(he:starEach (e::es) X.env=(false,eval e X.env)::starEach es X.env:=by rfl)(eK:(backTo pos (starEach es X.env)).any (·.1)=false:=by rfl):
  jt X (.Call (.Name x p) (e::es) [] pos) (OJ n F w):=by
 obtain⟨_,aa,ar⟩:=ax;refine⟨_,qk c ak aC aa gQ g0 he eK,fun ρ k h R W B H σ Q e q=>?_⟩;refine ar ρ _ h R W B H σ _ e fun as vs a0 H1 z1 ai g1 s1=>?_;rw[Z'];refine qs ai s1 z1.1 z1.2 fun r v bH a3 ah av g2 res=>?_;obtain⟨d,rfl,ah⟩:=ah;have res:Rep X.K (d4 H1 bH) v d:=res;exact q d v bH a3 ah av (g1.trans g2) (res.mono (zI fun a z=>(ai.toWd.fresh z).1))
def OK(u:a7):cI:=fun U ρ=>u ρ fun d=>U.rt (.new d)
theorem E7(h:jt X e u):e7 X (.Return (some e) pos) (OK u):=by
 obtain⟨_,aa,ar⟩:=h;refine⟨_,md aa,fun U ρ h R W B H σ D e s=>?_⟩;exact ar ρ _ h R W B H σ _ e fun d v a0 H1 z1 ai g1 s1=>s.rt (.new d) v a0 H1 z1 ai.toWd g1 s1
theorem OL{fu:TI}{g:gC}{tt:TT}{cC:TE}{e0:ec}{ut:dA}{dF:Nat}{js:List Nat}(h0:zH K fu w)(aC:qn K g e0)(bB:hP K tt ut)(aa:sJ K cC u)(o4:js.Nodup):sJ K (qy fu g tt cC dF js) (fun ρ k=>nI w e0 ut u dF js ρ fun ds=>k (.lst ds)):=by
 intro ρ k h R W B H σ Q e q;refine h0 ρ _ h R W B H σ _ e fun ds J a0 H1 z1 ai g1 it=>?_;obtain⟨aj,z1⟩:=z1;intro D gO;obtain⟨f1,f2,bO⟩:=ai.toWd.fresh gO;have nK:∀i,¬cP σ ρ i D:=fun i m=>ai.notNew gO m rfl;have eZ:=ai.within dF o4
 have kL:∀j a,cP (aad dF none++hs σ js) (aad dF .no++js.map (jn ρ)) j a->∃j,j∈js/\σ[j]?=some (some (V.ref a))/\ρ[j]?=some aH.bag:=fun j a m=>by
  have bS:=(eZ.mutOk m).2;rcases m with⟨bw,z|⟨es,z⟩⟩|⟨c,z,oP⟩
  ·obtain⟨c,aG,aJ,_⟩:=eZ.bagAt z;rw[bw]at aG;cases aG;rcases aJ with aJ|aJ
   ·exact aJ
   ·exact absurd aJ bS
  ·obtain⟨c,aG,aJ,_⟩:=eZ.ownC z;rw[bw]at aG;cases aG;exact absurd aJ bS
  ·exact absurd ((eZ.deepAt z).2.fr a oP).1 bS
 generalize nL:(fun a=>∃j,j∈js/\σ[j]?=some (some (V.ref a))/\ρ[j]?=some aH.bag)=fa at eZ;have kL:∀j a,cP (aad dF none++hs σ js) (aad dF .no++js.map (jn ρ)) j a->fa a:=fun j a m=>by rw[<-nL];exact kL j a m
 have g6:∀a,fa a->∃i:Nat,σ[i]?=some (some (.ref a))/\ρ[i]?=some .bag:=fun a z=>by
  rw[<-nL]at z;obtain⟨j,_,z⟩:=z;exact⟨j,z⟩
 have kM:¬fa D:=fun z=>by
  obtain⟨o5,bI,c9⟩:=g6 D z;exact nK o5 (.inl ⟨bI,.inl c9⟩)
 refine⟨fun i m i1 H'=>∃az ys es hT,m=ds.length-i/\i<=ds.length/\Ev K H1 fa az H' i1 hT/\bM H1 a0 az/\H' D=some (.lst ys)/\az D=none/\(∀j a,cP i1 hT j a->fa a)/\ys.length<=i/\Reps K (d4 H1 az) ys es/\gS e0 ut u (ds.drop i) hT fun r=>k (.lst (es++r)),
  ⟨ds.length,a0,[],[],_,by simp,aaE _,eZ.allocH gO _,bM.refl _ _,en,bO,kL,Zg _,.nil,by simpa using z1⟩,?_⟩
 rintro i m i1 a3 ⟨bH,ys,es,hT,rfl,aD,av,g2,a5,af,sx,EU,cx,aQ⟩;obtain⟨t1,cY,t3⟩:=it a3 (g2.s.trans av.bh) i;by_cases cE:i<ds.length
 ·refine .inr ⟨t1 cE,fun x H' y=>?_⟩;obtain⟨rfl,d,hd,bc⟩:=t3 x H' cE y
  have gn:ds.drop i=d::ds.drop (i+1):=by
   rw[abd cE];rw[aan cE]at hd;rw[aab hd]
  rw[gn]at aQ;refine aC d hT _ aQ H1 fa bH H' i1 x _ av (bc.mono g2.s) fun hU fU fF bG bF=>?_;have gT:∀j a,cP fU hU j a->fa a:=fun j a m=>sx j a (bF j a m)
  have kN:∀{f5:ao},bM H' bH f5->f5 D=none:=fun{f5} dG=>by
   cases sy:f5 D with
   | none=>rfl
   | some o =>
    rcases dG.n D o sy with z|z
    ·rw[af]at z;cases z
    ·rw[a5]at z;cases z
  refine bB hU _ fF H' fa bH H' fU _ (bG.rebase gT) fun b f5 kJ eY c4 dG=>?_;have sA:kJ D=some (.lst ys):=c4.fr D _ a5 kM;cases b with
  | false =>
   rw[if_neg aal]at eY ⊢;obtain⟨eL,i2⟩:=bG.unbase gT c4 dG;exact⟨ds.length-(i+1),by omega,f5,ys,es,hU,rfl,cE,eL,g2.trans i2,sA,kN dG,gT,by omega,cx.mono (qo dG.s),eY⟩
  | true =>
   rw[if_pos rfl]at eY ⊢;refine aa hU _ eY H' fa f5 kJ fU _ c4 fun ey v sC fN kK eL i2 s5=>?_;have i3:=dG.trans i2;have sD:fN D=some (.lst ys):=eL.fr D _ a5 kM;obtain⟨jU,sE⟩:=bG.unbase gT eL i3;have s5:=s5.mono (zI (R:=H1) fun a z=>(av.toWd.fresh z).1);refine⟨ys,sD,by omega,ds.length-(i+1),by omega,sC,ys++[v],es++[ey],hU,rfl,cE,jU.scribble gO (kN i3) (fun j m=>kM (gT j D m)) _,g2.trans sE,en,kN i3,gT,by rw[ZM,aaQ];omega,(cx.mono (qo i3.s)).append (.cons s5 .nil),?_⟩;simpa[aao]using kK
 ·have eq:i=ds.length:=by omega
  subst eq;rw[abm]at aQ;obtain⟨c4,dG⟩:=ai.after g6 av.toWd g2;obtain⟨eL,i2⟩:=c4.freeze a5 f1 af nK;refine .inl ⟨cY (Zg _),q _ (.ref D) _ a3 (by simpa[gS]using aQ) eL ((g1.trans dG).trans i2) (.lst (vb en f1) ?_)⟩;exact(cx.mono (zI fun a z=>(ai.toWd.fresh z).1)).mono (qo i2.s)
theorem OM{elt:Expr}{α:Type}{Xs:α->aM}(e5:∀a,(Xs a).K=K)(h:∀a,jt (Xs a) elt u):∃t,(∀a,b2 (Xs a) elt t)/\sJ K t u:=by
 refine⟨fun σ H Q=>∀a,∃t,b2 (Xs a) elt t/\sJ K t u/\t σ H Q,fun a pins s σ H Q I q=>?_,fun ρ k q R W B H σ Q e z a=>?_⟩
 ·obtain⟨t,bB,_,ay⟩:=q a;exact bB pins s σ H Q I ay
 ·obtain⟨t,bB,ak⟩:=h a;rw[e5 a]at ak;exact⟨t,bB,ak,ak ρ k q R W B H σ Q e z⟩
variable{elt iter bE:Expr}{ifs:List Expr}{scope:Scope}{cl:List (Str×Addr)}{ts fr:List Str}{js:List Nat}{e0:ec}{ut:dA}
def ON(w:cO):a7:=fun ρ k=>w ρ fun ds=>k (.lst ds)
theorem OO(aD:lH X bE iter w)(aC:∀C s H ex,iX (dr X (ts++fr) scope cl C s H ex) bE e0)(iB:∀C s H ex,nM (dr X (ts++fr) scope cl C s H ex) ifs ut)(iC:∀C s H ex,jt (dr X (ts++fr) scope cl C s H ex) elt u)(F:nF X scope cl fr js)(mA:js.Nodup:=by decide)(hc:X.calm=true:=by rfl)(aq:∀v,foldedSetIterable iter X.env v=pure v:=by intro _;rfl):jt X (.ListComp elt [⟨bE,iter,ifs,0⟩] scope pos) (ON (nI w e0 ut u ts.length js)):=by
 obtain⟨_,h0,fY⟩:=aD;obtain⟨vF,mB,rg⟩:=sG (K:=X.K) (Xs:=fun a:Addr×Shared×ao×List Addr=>dr X (ts++fr) scope cl a.1 a.2.1 a.2.2.1 a.2.2.2) (fun _=>rfl) fun a=>aC a.1 a.2.1 a.2.2.1 a.2.2.2;obtain⟨tt,mC,rt⟩:=sF (K:=X.K) (Xs:=fun a:Addr×Shared×ao×List Addr=>dr X (ts++fr) scope cl a.1 a.2.1 a.2.2.1 a.2.2.2) (fun _=>rfl) fun a=>iB a.1 a.2.1 a.2.2.1 a.2.2.2;obtain⟨cC,mD,re⟩:=OM (K:=X.K) (Xs:=fun a:Addr×Shared×ao×List Addr=>dr X (ts++fr) scope cl a.1 a.2.1 a.2.2.1 a.2.2.2) (fun _=>rfl) fun a=>iC a.1 a.2.1 a.2.2.1 a.2.2.2;exact⟨_,Aa h0 (fun C s H ex=>mB (C,s,H,ex)) (fun C s H ex=>mC (C,s,H,ex)) (fun C s H ex=>mD (C,s,H,ex)) F hc aq,OL fY rg rt re mA⟩
end
section
variable{K:PySem.W.Frag}{X:aM}{e:Expr}{es:List Expr}{u:a7}{w:cO}{pos p:Pos}{I:List Nat}{i:Nat}{rest:List Stmt}{iE:fW->List aH->D->List aH->Prop}
theorem Rep.lst_of{B:ao}{v:V}{ds:List D}(r:Rep K B v (.lst ds)):∃a vs,v=.ref a/\B a=some (.lst vs)/\Reps K B vs ds:=by
 cases r with|lst h r=>exact⟨_,_,rfl,h,r⟩
theorem Rep.tup_of{B:ao}{v:V}{ds:List D}(r:Rep K B v (.tup ds)):∃a vs,v=.ref a/\B a=some (.tup vs)/\Reps K B vs ds:=by
 cases r with|tup h r=>exact⟨_,_,rfl,h,r⟩
theorem OP{α:Type}{x:α}{r:List α}:dE (x::r) 0=some x:=by simp[dE,ixN]
def OQ(K:PySem.W.Frag)(I:List Nat)(i:Nat)(t:fM)(iE:fW->List aH->D->List aH->Prop):Prop :=
 ∀(U:fW)(ρ:List aH)(d:D)(kP:List aH),iE U ρ d kP->∀(R:ao)(W:Addr->Prop)(B H:ao)(σ:St)(E:Ends),Ev K R W B H σ ρ->r1 K R W B U E ->
  ∀(kQ nQ:ao)(iF:St)(v:V),Ev K H (gH W σ ρ) kQ nQ iF kP->iF[i]?=some (some v)->Rep K (d4 H kQ) v d->(∀j,j∉I->iF[j]?=σ[j]?)->iF.length=σ.length->t E iF nQ
def vI(X:aM)(I:List Nat)(i:Nat)(st:List Stmt)(iE:fW->List aH->D->List aH->Prop):Prop:=∃t,h4 X st t/\OQ X.K I i t iE
def OR(fR:dA)(iE:fW->List aH->D->List aH->Prop):fW->List aH->D->List aH->Prop:=fun U ρ d kP=>fR kP fun b=>b=false/\iE U ρ d kP
theorem OS{c:Expr}{a:List Stmt}{fR:dA}{s:cI}(hc:ht X c fR)(ax:fX X a s)(ak:vI X I i rest iE):vI X I i (.If c a [] pos::rest) (OR fR iE):=by
 obtain⟨_,h0,fY⟩:=hc;obtain⟨_,aa,_⟩:=ax;obtain⟨_,ab,aF⟩:=ak;refine⟨_,km (rI h0 aa rG) ab,fun U ρ d kP h R W B H σ E e dw kQ nQ iF v hM aP ak bP aj=>?_⟩;refine fY kP _ h _ _ kQ nQ iF _ hM fun b a0 H1 z1 ai g1=>?_;obtain⟨rfl,z⟩:=z1;rw[if_neg aal];exact aF U ρ d kP z R W B H σ E e dw a0 H1 iF v ai aP (ak.mono (qo g1.s)) bP aj
def OT(i:Nat)(u:a7)(iE:fW->List aH->D->List aH->Prop):cI:=fun U ρ=>i<ρ.length/\u (ρ.map o6) fun d=>iE U ρ d ((ρ.map o6).set i (.val d))
theorem OU{x:Str}{pos':Pos}(Ak:i∈I)(bD:X.N.Nodup)(aD:X.N[i]?=some x)(aB:Loc X.env.scope x)(he:jt X e u)(ak:vI X I i rest iE)(aq:swapsWith e (some (.Name x pos')) pos.line X.env=pure false:=by rfl)(hf:X.fn x=true∨X.env.scope.names.lookup x=some .local:=by first|exact .inl rfl|exact .inr rfl|assumption):
  fX X (.Assign [.Name x pos'] e pos::rest) (OT i u iE):=by
 obtain⟨_,aa,ar⟩:=he;obtain⟨_,ab,aF⟩:=ak;refine⟨_,km (oH bD aD aB aa aq hf) ab,fun U ρ h R W B H σ E e dw=>?_⟩;obtain⟨aj,h⟩:=h;refine ar (ρ.map o6) _ h H (gH W σ ρ) _ H σ _ e.frame fun d v a0 H1 z1 ai g1 s1=>?_;refine aF U ρ d _ z1 R W B H σ E e dw a0 H1 (σ.set i (some v)) v (ai.setV i (s1.mono hQ)) ?_ s1 (fun j bP=>?_) (by rw[aba])
 ·rw[aa8 (by rw[e.len];exact aj)]
 ·exact aaV (fun(z:i=j)=>bP (by rw[<-z];exact Ak))
theorem OV{B:ao}{b:Addr}{d:D}{l:List V}(r:Rep K B (.ref b) d)(f:flat d=true)(h:B b=some (.lst l)):False:=by
 cases r with
 | tup ab _=>rw[h]at ab;cases ab
 | lst _ _=>simp[flat]at f
 | scr _=>simp[flat]at f
 | ktup _ _=>simp[flat]at f
 | kfn _=>simp[flat]at f
 | dct _ _ _ _=>simp[flat]at f
theorem Al:∀{ds:List D}{n:Nat}{d:D},flats ds=true->ds[n]?=some d->flat d=true
 | [],n,d,_,h=>by simp at h
 | x::r,0,d,f,h=>by rw[flats,abL]at f;simp at h;subst h;exact f.1
 | x::r,n+1,d,f,h=>by rw[flats,abL]at f;exact Al (n:=n) f.2 (by simpa using h)
structure nR (K:PySem.W.Frag) (W:Addr->Prop) (σ:St) (ρ:List aH) (H N H':ao):Prop where
 fr:∀a o,H a=some o->¬gH W σ ρ a->H' a=some o
 wh:∀a,gH W σ ρ a->gh H' a
 tp:∀a vs,N a=some (.tup vs)->H' a=some (.tup vs)
 ls:∀a vs,N a=some (.lst vs)->∃ws,H' a=some (.lst ws)
theorem nR.clear{W:Addr->Prop}{σ:St}{ρ:List aH}{H N H':ao}(m:nR K W σ ρ H N H')(af:∀a,gH W σ ρ a->H a≠none){b:Addr}{vs:List V}(bD:N b=some (.lst vs))(dm:H b=none):nR K W σ ρ H N (upd H' b (.lst [])):=by
 refine⟨fun a o h nw=>?_,fun a h=>?_,fun a ws h=>?_,fun a ws h=>?_⟩
 ·rw[dz (by rintro rfl;rw[dm]at h;cases h)];exact m.fr a o h nw
 ·exact(m.wh a h).upd (by rintro rfl;exact af _ h dm)
 ·rw[dz (by rintro rfl;rw[bD]at h;cases h)];exact m.tp a ws h
 ·by_cases z:a=b
  ·subst z;exact⟨[],en⟩
  ·rw[dz z];exact m.ls a ws h
theorem nR.start{R:ao}{W:Addr->Prop}{B H kQ nQ:ao}{σ iF:St}{ρ kP:List aH}(e:Ev K R W B H σ ρ)(hM:Ev K H (gH W σ ρ) kQ nQ iF kP):nR K W σ ρ H (d4 H kQ) nQ/\∀a,gH W σ ρ a->H a≠none :=
 ⟨⟨hM.fr,hM.wh,fun a vs h=>hM.bh a _ (hQ a _ h),fun a vs h=>⟨vs,hM.bh a _ (hQ a _ h)⟩⟩,hM.wr⟩
def Am(d:D):Prop:=∃r m,d=.tup (.lst r::m)/\flats r=true
end
section
variable{X:aM}{a b:Expr}{bJ bT:a7}{pos:Pos}
def sL:D->Option (List D)
 | .tup ds=>some ds
 | .lst ds=>some ds
 | .ktup ds=>some ds
 | _=>none
def OW(K:PySem.W.Frag):e6:=fun x y H Q=>∃p xs i v,x=.ref p/\y=.int i/\(eu K H p xs∨cw K H p xs)/\dE xs i=some v/\Q v H
theorem OX:qg X (OW X.K):=by
 intro value slice pins s σ H x y v u Q I bc cx h aq;obtain⟨p,xs,i,z,ai,av,ay,he,q⟩:=h;rcases ay with ay|ay
 ·exact DQ value slice pins s σ H x y v u Q I bc cx ⟨p,xs,i,z,ai,av,ay,he,q⟩ aq
 ·exact zk value slice pins s σ H x y v u Q I bc cx ⟨p,xs,i,z,ai,av,ay,he,q⟩ aq
def OY(bJ bT:a7):a7:=fun ρ k=>bJ ρ fun x=>bT ρ fun y=>∃ds i d,sL x=some ds/\y=.int i/\dE ds i=some d/\k d
theorem ic(ax:br X a bJ)(af:br X b bT)(aq:qf b):br X (.Subscript a b pos) (OY bJ bT):=by
 obtain⟨_,aa,ar⟩:=ax;obtain⟨_,ab,aF⟩:=af;refine⟨_,jP OX aa ab aq,qq ar aF fun x y k h R W B H σ ρ v ly Q e bc cx q=>?_⟩;obtain⟨ds,i,d,aB,rfl,ax,ah⟩:=h;cases bc with
 | tup ag ix =>
  cases aB;obtain⟨z,a',h9⟩:=r' ix ax;exact⟨_,_,i,z,rfl,cx.intV,.inl (eu.of (e.bh _ _ ag)),a',q d z B H ah e (bM.refl _ _) h9⟩
 | lst ag ix =>
  cases aB;obtain⟨z,a',h9⟩:=r' ix ax;exact⟨_,_,i,z,rfl,cx.intV,.inr (cw.of (e.bh _ _ ag)),a',q d z B H ah e (bM.refl _ _) h9⟩
 | ktup ag ix =>
  cases aB;obtain⟨z,a',h9⟩:=r' ix ax;exact⟨_,_,i,z,rfl,cx.intV,.inl (D6 e.bh ag),a',q d z B H ah e (bM.refl _ _) h9⟩
 | _=>cases aB
structure qK (K:PySem.W.Frag) (mg:Str->Option Value) (x:Str) (ns:List Int):Prop where
 ex:∃p:Addr,mg x=some (.ref p)/\∀H:ao,eu K H p (ns.map V.int)
theorem sM{x:Str}{ns:List Int}(g:qK X.K X.mg x ns)(aC:eB X x)(hd:(x==("__debug__":Str))=false:=by decide):br X (.Name x pos) (qp (.ktup (ns.map D.int))):=by
 obtain⟨p,hm,aq⟩:=g.ex;refine⟨_,Dk (v:=.ref p) aC hm rfl hd,fun ρ k h R W B H σ Q e q=>?_⟩;exact q _ _ B H h e (bM.refl _ _) (.ktup (aq B) (Reps.ints ns))
theorem OZ{K:PySem.W.Frag}{mg:Str->Option Value}{x:Str}{p:Addr}{i j:Int}{hJ o7:Tok}{od:Option Addr}{sl:Array (Option Value)}{n:Nat}(hm:mg x=some (.ref p))(aj:K.lookup p=some ⟨.type "tuple",od,.seq #[.int i hJ,.int j o7] n,sl⟩):qK K mg x [i,j]:=
 ⟨p,hm,fun H=>.inr ⟨_,_,_,aj,rfl,rfl,by show 2<=sizeLine;decide,.cons ⟨_,rfl⟩ (.cons ⟨_,rfl⟩ .nil)⟩⟩
end
end L3
namespace L3
open PySem PySem.W L2
def jZ(h:Heap):Frag:=(aau h.objs.size).filterMap fun a=>(h.get? a).map fun o=>(a,o)
theorem E8(g:Nat->Option Obj)(a:Nat):∀l:List Nat,(l.filterMap fun b=>(g b).map fun o=>(b,o)).lookup a=if a∈l then g a else none
 | []=>rfl
 | b::l=>by
  have c3:=E8 g a l;cases q:g b with
  | none =>
   rw[List.filterMap_cons_none (by rw[q];rfl),c3];by_cases e:a=b
   ·subst e;rw[q];simp
   ·simp[e]
  | some o =>
   rw[List.filterMap_cons_some (b:=(b,o)) (by rw[q];rfl),List.lookup_cons];by_cases e:a=b
   ·subst e;simp[q]
   ·have:(a==b)=false:=by simpa using e
    simp only[this,c3,Z6,e,false_or]
theorem qL(h:Heap)(a:Addr):(jZ h).lookup a=h.get? a:=by
 refine(E8 h.get? a _).trans ?_;by_cases e:a<h.objs.size
 ·rw[if_pos (aaY.mpr e)]
 ·rw[if_neg (fun z=>e (aaY.mp z))];exact(Heap.get?_none_of_le (Nat.le_of_not_lt e)).symm
theorem O0(h:Heap):Frag.In (jZ h) h:=fun a o e=>by rw[qL]at e;exact e
theorem sN(h:Heap)(name:Str):nsIn (jZ h) mainGlobals name=oA h name:=by unfold nsIn oA;rw[qL];rfl
theorem O1(h:Heap)(cd:Value)(q:Str):codeIn (jZ h) cd q=xW h cd q:=by
 unfold codeIn xW;cases cd<;>first|rfl|(simp only[qL];rfl)
def vJ(K:Frag)(x:Str)(st:Stmt):Prop:=∃f fd,nsIn K mainGlobals x=some (some (.ref f))/\lC K x x st f fd
theorem An(x:Str)(st:Stmt):uz x st=some (x,x,rW st,.stmts (ky st),b0 st,mainGlobals,[],.none,builtinsNs,true):=by cases st<;>rfl
theorem O2{h:Heap}{x:Str}{st:Stmt}(e:uy h x=uz x st):vJ (jZ h) x st:=by
 unfold uy at e;split at e
 ·rename_i f hf
  split at e
  ·rename_i oc od fd osl aE
   obtain⟨nm,Dz,ps,bd,sc,gl,cl,Zr,kd,doc,pm,an,cdv,ct,iG⟩:=fd;rw[An]at e;simp only[acp,abN]at e;obtain⟨rfl,rfl,rfl,rfl,rfl,rfl,rfl,rfl,rfl,e⟩:=e;refine⟨f,_,by rw[sN];exact hf,Me (oc:=oc) (od:=od) (osl:=osl) (kV:=kd) (doc:=doc) (pm:=pm) (an:=an) (cdv:=cdv) (ct:=ct) (by rw[qL];exact aE) (by rw[O1];exact e) ?_⟩;unfold keepIn;simp only[qL,aE]
  ·rw[An]at e;cases e
 ·rw[An]at e;cases e
def Ao(K:Frag):List (Str×Stmt)->Prop
 | []=>True
 | p::l=>vJ K p.1 p.2/\Ao K l
def AllB(K:Frag):List Str->Prop
 | []=>True
 | b::l=>nsIn K mainGlobals b=some none/\AllB K l
def vK(K:Frag)(x:Str)(i j:Int):Prop:=∃p od sl n hJ o7,nsIn K mainGlobals x=some (some (.ref p))/\K.lookup p=some ⟨.type "tuple",od,.seq #[.int i hJ,.int j o7] n,sl⟩
def Ap(K:Frag):List (Str×Int×Int)->Prop
 | []=>True
 | p::l=>vK K p.1 p.2.1 p.2.2/\Ap K l
def E9(K:Frag)(x:Str)(c:Int ⊕ Str):Prop:=match c with
 | .inl i=>∃t,nsIn K mainGlobals x=some (some (.int i t))
 | .inr s=>∃t,nsIn K mainGlobals x=some (some (.str s t))
def Aq(K:Frag):List (Str×(Int ⊕ Str))->Prop
 | []=>True
 | p::l=>E9 K p.1 p.2/\Aq K l
structure Tab (t:m3) (K:Frag):Prop where
 tf:Ao K t.fs
 tb:AllB K t.bs
 tt:Ap K t.ts
 tc:Aq K t.cs
def saysH(t:m3)(_:World)(h:Heap):Prop:=∃K:Frag,K.In h/\Tab t K
theorem E'{h:Heap}:∀{l:List (Str×Stmt)},(l.map fun p=>uy h p.1)=(l.map fun p=>uz p.1 p.2)->Ao (jZ h) l
 | [],_=>trivial
 | p::l,e=>by
  simp only[aaa,abX]at e;exact⟨O2 e.1,E' e.2⟩
theorem allB_of{h:Heap}:∀{l:List Str},(l.map fun b=>oA h b)=(l.map fun _=>some none)->AllB (jZ h) l
 | [],_=>trivial
 | p::l,e=>by
  simp only[aaa,abX]at e;exact⟨by rw[sN];exact e.1,allB_of e.2⟩
theorem O3{h:Heap}{x:Str}{i j:Int}(e:uA h x=some (x,i,j)):vK (jZ h) x i j:=by
 unfold uA at e;split at e
 ·rename_i p ag
  split at e
  ·rename_i od its n sl aE
   split at e
   ·rename_i o5 hJ qE o7 aD
    simp only[acp,abN]at e;obtain⟨_,rfl,rfl⟩:=e;have dq:its = #[.int o5 hJ,.int qE o7]:=Array.toList_inj.mp aD;subst dq;exact⟨p,od,sl,n,hJ,o7,by rw[sN];exact ag,by rw[qL];exact aE⟩
   ·cases e
  ·cases e
 ·cases e
theorem Fb{h:Heap}:∀{l:List (Str×Int×Int)},(l.map fun p=>uA h p.1)=(l.map fun p=>some p)->Ap (jZ h) l
 | [],_=>trivial
 | p::l,e=>by
  simp only[aaa,abX]at e;exact⟨O3 e.1,Fb e.2⟩
theorem O4{h:Heap}{x:Str}{c:Int ⊕ Str}(e:uB h x=some (x,c)):E9 (jZ h) x c:=by
 unfold uB at e;split at e
 ·rename_i i t ag
  simp only[acp,abN]at e;obtain⟨_,rfl⟩:=e;exact⟨t,by rw[sN];exact ag⟩
 ·rename_i i t ag
  simp only[acp,abN]at e;obtain⟨_,rfl⟩:=e;exact⟨t,by rw[sN];exact ag⟩
 ·cases e
theorem Fc{h:Heap}:∀{l:List (Str×(Int ⊕ Str))},(l.map fun p=>uB h p.1)=(l.map fun p=>some p)->Aq (jZ h) l
 | [],_=>trivial
 | p::l,e=>by
  simp only[aaa,abX]at e;exact⟨O4 e.1,Fc e.2⟩
theorem ofH(t:m3)(w:World)(s:Shared)(e:rB t s=rC t w):saysH t w s.heap:=by
 simp only[rB,rC,abN]at e;exact⟨jZ s.heap,O0 _,E' e.1,allB_of e.2.1,Fb e.2.2.1,Fc e.2.2.2⟩
theorem keepsH(t:m3)(w:World)(h h':Heap)(y:saysH t w h)(k:∀b o,h.get? b=some o->h'.get? b=some o):saysH t w h':=by
 obtain⟨K,x,r⟩:=y;exact⟨K,x.keeps k,r⟩
theorem vJ.fnd{K:Frag}{h:Heap}{mg:Str->Option Value}{x:Str}{st:Stmt}{ps:List Str}(X:K.In h)(G:h.Ns mainGlobals mg)(F:vJ K x st)(b:∀f fd,lC K x x st f fd->Binds K fd ps []):cD K mg x st ps:=by
 obtain⟨f,fd,m,F⟩:=F;exact⟨f,fd,mg_of X G m,F,b f fd F⟩
theorem vK.gtup{K:Frag}{h:Heap}{mg:Str->Option Value}{x:Str}{i j:Int}(X:K.In h)(G:h.Ns mainGlobals mg)(F:vK K x i j):qK K mg x [i,j]:=by
 obtain⟨p,od,sl,n,hJ,o7,m,l⟩:=F;exact OZ (mg_of X G m) l
theorem walkH{l:OpenLaw}{k:Nat}{q:Program}{loose:List Str}{XP:(Str->Option Value)->Heap->Prop}{t:m3}{d:DefRec}(aN:l.most=some 63)(zu:d.params.defaults=[])(ak:eC k callerA)(F:∀(w:World) (K:Frag) (mg:Str->Option Value) (gE:Addr) (h:Heap),Tab t K->K.In h->h.Ns mainGlobals mg->mg d.name=some (.ref gE)->∃fd:FuncData,(∀(s:Shared) (u:Value),BindsTo s fd ⟨[u],[]⟩ [("_law_script",u)])/\∀base:Heap,K.In base->base.Ns mainGlobals mg->iS l.prog w K mg base jh k gE fd ["_law_script"] (vv K)):
  WalkO q loose XP (saysH t) l.row.toRowW d [] (fun f vs=>PySem.call f vs):=by
 refine Att.attach_call aN zu fun w s₀ dN mg gB gE o pm cd doc a vs ns G Y aE hd dB rV zv hints hlen aC=>?_;obtain⟨K,nh,T⟩:=Y;obtain⟨fd,af,jl⟩:=F w K mg gE _ T nh G.T.g rV;exact L9 nh G.T.g G.T.b G.T.builtins G.T.nolimit aC zv hints (Gq hlen (by decide)) ak jl af (fun H zx c7=>⟨a,ns,rfl,c7,hlen,fun _=>rfl⟩) fun H e s' z=>z
end L3
namespace L2
open PySem PySem.Spec PyProof.Rows PySem.W
section
variable{prog:Program}{w:World}{A:Around}{E:Value->Shared->Prop}{s:Shared}
theorem Fd{it t:Addr}{items:Array Value}(jY:t≠it):∀(n i:Nat)(s:Shared)(Q:List Value->Shared->Prop),s.heap.IsListIter it t i->s.heap.IsList t items->i+n<=items.size ->
  (∀h',h'.IsListIter it t (i+n)->Heap.SameBut it s.heap h'->Q ((items.toList.drop i).take n) { s with heap:=h' })->wpAny (model prog w) A (draw (.ref it) n) Q E s
 | 0,i,s,Q,hit,_,_,gZ=>by
  show wpAny _ _ (pure []) Q E s
  exact wpAny_pure (by simpa using gZ s.heap hit (Heap.SameBut.refl ..))
 | n+1,i,s,Q,hit,bB,hle,gZ=>by
  have cE:i<items.size:=by omega
  show wpAny _ _ (pyNext (.ref it) >>= _) Q E s
  refine wpAny_bind (wpAny_pyNext_list_item hit bB (x:=items[i]) (by simp[cE]) fun Fe Ar sO=>?_);refine wpAny_bind (wpAny_holding (Fd jY n (i+1) _ _ Ar (bB.extBut sO.extBut jY) (by omega) fun As O5 O6=>wpAny_pure ?_));have hd:items.toList.drop i=items[i]::items.toList.drop (i+1):=by simp[abd,cE]
  have:=gZ As (by rw[show i+(n+1)=i+1+n by omega];exact O5) (sO.trans O6);rw[hd,acV]at this;exact this
theorem O7{t:Addr}{items:Array Value}{Q:List Value->Shared->Prop}(eJ:A.handled=none)(bB:s.heap.IsList t items)(gZ:∀h',Heap.ExtBut s.heap.objs.size s.heap h'->Q items.toList { s with heap:=h' }):wpAny (model prog w) A (unpackItems (.ref t) items.size none) Q E s:=by
 have cE:t≠s.heap.objs.size:=by obtain⟨o,aE,_⟩:=bB;exact aat (Heap.lt_size aE)
 unfold unpackItems;refine wpAny_bind ?_
 ·unfold notIterableAtAll;refine wpAny_bind (wpAny_specialOf bB.typeIs F.slot_list_iter.lookup ?_);refine wpAny_pure ?_;simp only[aaS,if_false];refine wpAny_bind (wpAny_holding (wpAny_pyIter_list bB ?_));refine wpAny_bind (wpAny_holding (Fd cE items.size 0 _ _ ⟨_,Heap.get?_push_size _ rfl,rfl,rfl⟩ (bB.push _) (by omega) fun Fe Ar sO=>?_))
  have qi:List.take items.size (List.drop 0 items.toList)=items.toList:=by
   rw[acW];exact acU (by simp)
  rw[qi];rw[if_neg (by simp)];have O8:Fe.IsList t items:=(bB.push _).extBut sO.extBut cE;refine wpAny_bind (wpAny_holding (wpAny_pyNext_list_end eJ Ar O8 (by simp) fun As O9=>?_));simp only[Option.isSome_none,aaS,if_false];refine wpAny_pure (gZ As fun b o af e=>O9 b o af (sO.extBut b o af (Heap.get?_push_of_some _ e)))
theorem O'{env:abK}{elts:List Expr}{bK}{pos:Pos}{t:Addr}{items:Array Value}{Q:Unit->Shared->Prop}(eJ:A.handled=none)(bB:s.heap.IsList t items)(aN:(assignEach elts env).length=items.size)(Pa:(assignEach elts env).findIdx? (·.1)=none)(h:∀h',Heap.ExtBut s.heap.objs.size s.heap h'->wpAny (model prog w) A (assignInOrder ((assignEach elts env).map (·.2)) items.toList) Q E { s with heap:=h' }):
  wpAny (model prog w) A (assign (.Tuple elts bK pos) env (.ref t)) Q E s:=by
 rw[arm_assign_Tuple];refine wpAny_bind (wpAny_standAt ?_);unfold unpack;rw[aN,Pa];exact wpAny_bind (wpAny_holding (O7 eJ bB h))
end
section
variable{X:aM}{pos:Pos}
def Pb(K:PySem.W.Frag)(n:Nat)(t:kn):gC:=fun v σ H Q=>∃a xs,v=.ref a/\cw K H a xs/\xs.length=n/\t xs σ H Q
theorem Pc{es:List Expr}{k:Nat}{t:kn}{n:Nat}(hc:X.calm=true)(h:oG X es t)(aN:(assignEach es X.env).length=n:=by rfl)(me:(assignEach es X.env).findIdx? (·.1)=none:=by rfl):iO X (.Tuple es k pos) (Pb X.K n t):=by
 intro pins s σ H v u Q I r hw;obtain⟨a,xs,ai,ay,aj,hw⟩:=hw;subst ai;cases r;obtain⟨its,b3,bB,a'⟩:=I.list ay;refine O' (I.ok.hd hc) bB.isList (by simp[aN,<-aj,b3.length]) me fun h' aB=>?_;have bg:Inv X pins σ H { s with heap:=h' }:=I.kept (t':=s.toks) fun b o e=>aB b o (aat (Heap.lt_size e)) e;exact h pins _ σ H xs _ Q bg (by simpa using b3) hw
end
end L2
namespace L3
open PySem L2
section
variable{X:aM}{es:List Expr}{pos:Pos}
def Pd(n:Nat)(gj:iW):ec:=fun d ρ k=>∃ds,d=.lst ds/\ds.length=n/\gj ds ρ k
theorem Pe{cf:Nat}{gj:iW}{n:Nat}(hc:X.calm=true)(h:r3 X es gj)(aN:(assignEach es X.env).length=n:=by rfl)(me:(assignEach es X.env).findIdx? (·.1)=none:=by rfl):iX X (.Tuple es cf pos) (Pd n gj):=by
 obtain⟨_,aa,ar⟩:=h;refine⟨_,Pc hc aa aN me,fun d ρ k h R W B H σ v Q e r q=>?_⟩;obtain⟨ds,rfl,aj,h⟩:=h;obtain⟨a,vs,rfl,ax,rs⟩:=r.lstV;exact⟨a,vs,rfl,cw.of (e.bh _ _ ax),by rw[rs.length];exact aj,ar ds ρ k h R W B H σ vs Q e rs q⟩
end
end L3
namespace Cut
open PySem L2 L3
open PySem.Builtin.Int (intBits)
def sld(g p:P3):P3:=(p.1*g.2.2+g.1*p.2.2,p.2.1*g.2.2+g.2.1*p.2.2,p.2.2*g.2.2)
def trn(p:P3):P3:=(-p.1,-p.2.1,p.2.2)
def Au(p q r s:P3):P3:=crs (crs p q) (crs r s)
def bb(p q r:P3):Int:=(crs p q).1*r.1+(crs p q).2.1*r.2.1+(crs p q).2.2*r.2.2
def sg(x:Int):Int:=if 0<x then 1 else if x<0 then -1 else 0
theorem Pf{x y c d:Int}(hc:0<c)(hd:0<d)(h:c*x=d*y):sg x=sg y:=by
 have pos:0<x↔0<y:=by
  constructor
  ·intro aB;have:=ZK hc aB;rw[h]at this;exact abb this hd
  ·intro a5;have:=ZK hd a5;rw[<-h]at this;exact abb this hc
 have Ff:x=0↔y=0:=by
  constructor
  ·intro aB;rw[aB,aai]at h;exact(aaG.mp h.symm).resolve_left (Zh hd)
  ·intro a5;rw[a5,aai]at h;exact(aaG.mp h).resolve_left (Zh hc)
 unfold sg;by_cases aa:0<x
 ·rw[if_pos aa,if_pos (pos.mp aa)]
 ·rw[if_neg aa,if_neg (fun z=>aa (pos.mpr z))];by_cases ab:x=0
  ·rw[if_neg (by omega),if_neg (by have:=Ff.mp ab;omega)]
  ·have:y≠0:=fun z=>ab (Ff.mpr z);have:¬0<y:=fun z=>aa (pos.mpr z);rw[if_pos (by omega),if_pos (by omega)]
structure sP (L:P3->P3):Prop where
 hom:∀c p,L (sc c p)=sc c (L p)
 z:∃k,0<k/\∀p,(L p).2.2=k*p.2.2
 mt:∃d,d≠0/\∀p q r s,Au (L p) (L q) (L r) (L s)=sc d (L (Au p q r s))
 dt:∃d,0<d/\∀p q r,bb (L p) (L q) (L r)=d*bb p q r
def cs(g c:P3):P3:=(g.2.2*c.1,g.2.2*c.2.1,g.2.2*c.2.2-g.1*c.1-g.2.1*c.2.1)
theorem Av(g p q:P3):crs (sld g p) (sld g q)=sc g.2.2 (cs g (crs p q)):=by
 refine ee ?_ ?_ ?_<;>simp only[crs,sc,sld,cs]<;>grind
theorem Pg(g u v:P3):crs (cs g u) (cs g v)=sc g.2.2 (sld g (crs u v)):=by
 refine ee ?_ ?_ ?_<;>simp only[crs,sc,sld,cs]<;>grind
theorem Ph{g:P3}(aC:0<g.2.2):sP (sld g):=by
 have ba:=Zh aC;refine⟨fun c p=>by refine ee ?_ ?_ ?_<;>simp only[sc,sld]<;>grind,⟨g.2.2,aC,fun p=>by simp only[sld];grind⟩,⟨g.2.2*g.2.2*g.2.2,aah (aah ba ba) ba,fun p q r s=>?_⟩,⟨g.2.2*g.2.2*g.2.2,ZK (ZK aC aC) aC,fun p q r=>?_⟩⟩
 ·unfold Au;rw[Av,Av,Ai,Pg,E2]
 ·unfold bb;rw[Av];generalize crs p q=c;simp only[sc,cs,sld];grind
theorem sP.low{L:P3->P3}(l:sP L){p:P3}(ag:0<p.2.2):0<(L p).2.2/\∃k,0<k/\L p=sc k (nP (L p)):=by
 obtain⟨k,cf,e⟩:=l.z;have pos:0<(L p).2.2:=by rw[e];exact ZK cf ag
 obtain⟨g,ba,lR⟩:=i4 (Zh pos);have cS:=(fh (Zh pos)).1;refine⟨pos,g,?_,lR⟩;have bG:(L p).2.2=g*(nP (L p)).2.2:=congrArg (fun p:P3=>p.2.2) lR;rw[bG]at pos;exact abY pos cS
theorem Pj(a b c:Int)(p q r:P3):bb (sc a p) (sc b q) (sc c r)=a*b*c*bb p q r:=by
 simp only[bb,Ai];generalize crs p q=u;simp only[sc];grind
theorem sP.side{L:P3->P3}(l:sP L){p q r:P3}(ag:0<p.2.2)(ay:0<q.2.2)(ak:0<r.2.2):sg (bb (nP (L p)) (nP (L q)) (nP (L r)))=sg (bb p q r):=by
 obtain⟨_,a,fG,dq⟩:=l.low ag;obtain⟨_,b,dv,ew⟩:=l.low ay;obtain⟨_,c,ha,hb⟩:=l.low ak;obtain⟨d,gI,gn⟩:=l.dt;refine Pf (ZK (ZK fG dv) ha) gI ?_;rw[<-Pj,<-dq,<-ew,<-hb,gn]
theorem iH{a b:Int}(h:∀k:Int,k∣a->k∣b->k∣1):Ze a b=1:=by
 have q:=abV.mpr (h _ (ace a b) (abT a b));simpa using q
theorem i5{a b k:Int}(g:Ze a b=1)(aa:k∣a)(ab:k∣b):k∣1:=by
 have:=acX aa ab;rw[g]at this;exact this
theorem nS{k n m:Int}(h:k∣n*m)(g:Ze k m=1):k∣n:=mr (by rw[aak];exact h) g
theorem sQ{a b k:Int}(g:Ze a b=1)(h:k∣a):Ze k b=1:=iH fun j aa ab=>i5 g (aaw aa h) ab
theorem vL{x y t b:Int}(l:aO x y)(af:b≠0)(e:x*b=t*y):cA t b=(x,y):=by
 rw[<-OB l];exact OA af (Zh l.1) e.symm
theorem Fg{x y z a b n:Int}(p:lE x y z)(aN:n≠0)(ai:x*n=a*z)(av:y*n=b*z):cy a b n=(x,y,z):=by
 obtain⟨q,f1,f2,_⟩:=iD (a:=a) (b:=b) aN;obtain⟨aa,ab,aL⟩:=u9 q p (aaN aN (by grind)) (aaN aN (by grind));exact abi aa (abi ab aL)
theorem nT{a b:Int}(h:a≠0∨b≠0):∃x y:Int,a=((Ze a b:Nat):Int)*x/\b=((Ze a b:Nat):Int)*y/\Ze x y=1:=by
 obtain⟨x,aB⟩:=ace a b;obtain⟨y,a5⟩:=abT a b;refine⟨x,y,aB,a5,?_⟩
 have pos:0<Ze a b:=by
  rcases h with h|h
  ·exact adB b h
  ·exact acd a h
 have q:Ze a b=(((Ze a b:Nat):Int)).natAbs*Ze x y:=Ox aB a5;rw[adC]at q;exact acN pos (by omega)
theorem Fh{a b:Int}(h:a≠0∨b≠0):((Ze a b:Nat):Int)≠0:=by
 have pos:0<Ze a b:=by
  rcases h with h|h
  ·exact adB b h
  ·exact acd a h
 omega
theorem kR{a b:Int}(h:a≠0∨b≠0):0<((Ze a b:Nat):Int):=by
 have:=Fh h;omega
theorem pos_r{s y:Int}(s0:0<s)(h:0<s*y):0<y:=abb h s0
theorem Fi{x y u k Y V:Int}(g:Ze x y=1)(a5:Y∣y)(Pk:Ze Y V=1)(aa:k∣x*V+u*Y)(ab:k∣Y):k∣1:=by
 have aL:k∣x*V:=by
  have:=acY aa (aaT ab (b:=u));simpa using this
 exact i5 g (nS aL (sQ Pk ab)) (aaw ab a5)
theorem Fj{x y u v:Int}(bt:aO x y)(bz:aO u v){s top d:Int}(aq:s=(Ze y v:Nat))(bB:top=x*v.fdiv s+u*y.fdiv s)(hd:d=(Ze s top:Nat)):
  (top.fdiv d,y.fdiv s*v.fdiv d)=cA (x*v+u*y) (y*v):=by
 obtain⟨bW,g1⟩:=bt;obtain⟨v0,g2⟩:=bz;obtain⟨Y,V,lS,lT,sR⟩:=nT (a:=y) (b:=v) (.inl (Zh bW));have s0:0<s:=by rw[aq];exact kR (.inl (Zh bW))
 rw[<-aq]at lS lT;have s1:=Zh s0;rw[hV lT s1,hV lS s1]at bB;obtain⟨S,T,c7,eb,Pl⟩:=nT (a:=s) (b:=top) (.inl s1);have gI:0<d:=by rw[hd];exact kR (.inl s1)
 rw[<-hd]at c7 eb;have bL:=Zh gI;have sS:v=d*(S*V):=by rw[lT,c7,abc]
 rw[hV eb bL,hV lS s1,hV sS bL];have o8:0<Y:=pos_r s0 (by omega);have Aw:0<V:=pos_r s0 (by omega);have Ax:0<S:=pos_r gI (by omega);refine(vL ⟨ZK o8 (ZK Ax Aw),?_⟩ (Zh (ZK bW v0)) ?_).symm
 ·refine iH fun k aa ab=>?_;have kt:k∣top:=by rw[eb];exact aaT aa
  have aG:Ze k Y=1:=iH fun j eN eP=>Fi g1 ⟨s,by rw[lS,aak]⟩ sR (by rw[<-bB];exact aaw eN kt) eP;have aJ:Ze k V=1:=iH fun j eN eP=>Fi (x:=u) (u:=x) (Y:=V) (V:=Y) g2 ⟨s,by rw[lT,aak]⟩ (by rw[aaR];exact sR) (by rw[acZ,<-bB];exact aaw eN kt) eP;exact i5 Pl (nS (mr ab aG) aJ) aa
 ·grind
theorem Pm{x y u v:Int}(bt:aO x y)(bz:aO u v):
  (x.fdiv ((Ze x v:Nat):Int)*u.fdiv ((Ze u y:Nat):Int),y.fdiv ((Ze u y:Nat):Int)*v.fdiv ((Ze x v:Nat):Int))=cA (x*u) (y*v):=by
 obtain⟨bW,g1⟩:=bt;obtain⟨v0,g2⟩:=bz;obtain⟨X,V,nU,lT,Pn⟩:=nT (a:=x) (b:=v) (.inr (Zh v0));obtain⟨U,Y,nV,lS,Po⟩:=nT (a:=u) (b:=y) (.inr (Zh bW));have f0:=kR (a:=x) (b:=v) (.inr (Zh v0));have h0:=kR (a:=u) (b:=y) (.inr (Zh bW));generalize((Ze x v:Nat):Int)=f at *;generalize((Ze u y:Nat):Int)=h at *;rw[hV nU (Zh f0),hV lT (Zh f0),hV nV (Zh h0),hV lS (Zh h0)];have o8:0<Y:=pos_r h0 (by omega);have Aw:0<V:=pos_r f0 (by omega);refine(vL ⟨ZK o8 Aw,?_⟩ (Zh (ZK bW v0)) ?_).symm
 ·refine iH fun k bY ck=>?_;have Pp:Ze X Y=1:=iH fun j eN eP=>i5 g1 (by rw[nU];exact aaT eN) (by rw[lS];exact aaT eP);have Pq:Ze U V=1:=iH fun j eN eP=>i5 g2 (by rw[nV];exact aaT eN) (by rw[lT];exact aaT eP)
  have aG:Ze k Y=1:=iH fun j eN eP=>by
   have aL:j∣X*U:=aaw eN bY;have bo:j∣U:=mr aL (iH fun i gU ju=>i5 Pp ju (aaw gU eP));exact i5 Po bo eP
  have de:k∣V:=mr ck aG;have fl:k∣U:=mr bY (iH fun i gU ju=>i5 Pn ju (aaw gU de));exact i5 Pq fl de
 ·grind
theorem Fl{x y z:Int}(h:∀k:Int,k∣x->k∣y->k∣z->k∣1):Ze (Ze x y:Nat) z=1 :=
 iH fun k aa ab=>h k (aaw aa (ace x y)) (aaw aa (abT x y)) ab
theorem Pr{x y z k:Int}(g:Ze (Ze x y:Nat) z=1)(aa:k∣x)(ab:k∣y)(aL:k∣z):k∣1:=i5 g (acX aa ab) aL
theorem Pt{x y u v:Int}(bt:aO x y)(bz:aO u v):
  (x*v.fdiv ((Ze y v:Nat):Int),u*y.fdiv ((Ze y v:Nat):Int),y.fdiv ((Ze y v:Nat):Int)*v)=cy (x*v) (u*y) (y*v):=by
 obtain⟨bW,g1⟩:=bt;obtain⟨v0,g2⟩:=bz;obtain⟨Y,V,lS,lT,sR⟩:=nT (a:=y) (b:=v) (.inl (Zh bW));have s0:=kR (a:=y) (b:=v) (.inl (Zh bW));generalize((Ze y v:Nat):Int)=s at *;rw[hV lT (Zh s0),hV lS (Zh s0)];have o8:0<Y:=pos_r s0 (by omega);refine(Fg ⟨ZK o8 v0,?_⟩ (Zh (ZK bW v0)) ?_ ?_).symm
 ·refine Fl fun k aa ab aL=>?_;have aG:Ze k Y=1:=iH fun j eN eP=>i5 g1 (nS (aaw eN aa) (sQ sR eP)) (by rw[lS];exact aaT eP);have aJ:Ze k V=1:=iH fun j eN eP=>i5 g2 (nS (aaw eN ab) (sQ (by rw[aaR];exact sR) eP)) (by rw[lT];exact aaT eP);have bo:k∣u:=nS ab aG;have de:k∣v:=mr aL aG;exact i5 g2 bo de
 ·grind
 ·grind
theorem Fm{a b n r w k N M:Int}(g:Ze (Ze a b:Nat) n=1)(aN:N∣n)(Fn:Ze N M=1)(aa:k∣a*M+r*N)(ab:k∣b*M+w*N)(aL:k∣N):k∣1:=by
 have a4:k∣a*M:=by
  have:=acY aa (aaT aL (b:=r));simpa using this
 have bS:k∣b*M:=by
  have:=acY ab (aaT aL (b:=w));simpa using this
 exact Pr g (nS a4 (sQ Fn aL)) (nS bS (sQ Fn aL)) (aaw aL aN)
theorem Pu{a b n r w m:Int}(cQ:lE a b n)(c5:lE r w m){s X Y d:Int}(aq:s=(Ze n m:Nat))(nU:X=a*m.fdiv s+r*n.fdiv s)(Ay:Y=b*m.fdiv s+w*n.fdiv s)(hd:d=(Ze ((Ze s X:Nat):Int) Y:Nat)):
  (X.fdiv d,Y.fdiv d,n.fdiv s*m.fdiv d)=cy (a*m+r*n) (b*m+w*n) (n*m):=by
 obtain⟨cS,g1⟩:=cQ;obtain⟨m0,g2⟩:=c5;obtain⟨N,M,bD,gP,Fo⟩:=nT (a:=n) (b:=m) (.inl (Zh cS));have s0:0<s:=by rw[aq];exact kR (.inl (Zh cS))
 rw[<-aq]at bD gP;have s1:=Zh s0;rw[hV bD s1,hV gP s1]at nU Ay;obtain⟨vM,Pw,Px,Py,Pz⟩:=nT (a:=s) (b:=X) (.inl s1);have ai:=Fh (a:=s) (b:=X) (.inl s1);obtain⟨E,Zs,Az,AA,PA⟩:=nT (a:=((Ze s X:Nat):Int)) (b:=Y) (.inl ai);have gI:0<d:=by rw[hd];exact kR (.inl ai)
 rw[<-hd]at Az AA;have bL:=Zh gI
 have c7:s=d*(E*vM):=by
  rw[Px]
  conv=>lhs;rw[Az]
  rw[abc]
 have Fp:X=d*(E*Pw):=by
  rw[Py]
  conv=>lhs;rw[Az]
  rw[abc]
 have Fq:m=d*(E*vM*M):=by rw[gP,c7,abc]
 rw[hV Fp bL,hV AA bL,hV bD s1,hV Fq bL];have eF:0<N:=pos_r s0 (by omega);have mE:0<M:=pos_r s0 (by omega);have Ax:0<E*vM:=pos_r gI (by omega);refine(Fg ⟨ZK eF (ZK Ax mE),?_⟩ (Zh (ZK cS m0)) ?_ ?_).symm
 ·refine Fl fun k aa ab aL=>?_;have Fs:k∣X:=by rw[Fp];exact aaT aa
  have Ft:k∣Y:=by rw[AA];exact aaT ab
  have aG:Ze k N=1:=iH fun j eN eP=>Fm g1 ⟨s,by rw[bD,aak]⟩ Fo (by rw[<-nU];exact aaw eN Fs) (by rw[<-Ay];exact aaw eN Ft) eP;have aJ:Ze k M=1:=iH fun j eN eP=>Fm (a:=r) (b:=w) (n:=m) (r:=a) (w:=b) (N:=M) (M:=N) g2 ⟨s,by rw[gP,aak]⟩ (by rw[aaR];exact Fo) (by rw[acZ,<-nU];exact aaw eN Fs) (by rw[acZ,<-Ay];exact aaw eN Ft) eP;have bo:k∣E*vM:=nS (mr aL aG) aJ
  have de:k∣E:=by
   have z:=acX bo aa;rw[acM,Pz,Nat.mul_one]at z;exact aaw z (Int.natAbs_dvd.mpr (Int.dvd_refl E))
  exact i5 PA de ab
 ·grind
 ·grind
theorem cm.sld{m n:Nat}{g p:P3}(aC:cm m g)(ag:cm n p):cm (n+m+1) (Cut.sld g p):=by
 refine⟨?_,?_,?_⟩
 ·exact Gq (intBits_add_le (intBits_mul_le ag.a aC.c) (intBits_mul_le aC.a ag.c)) (by omega)
 ·exact Gq (intBits_add_le (intBits_mul_le ag.b aC.c) (intBits_mul_le aC.b ag.c)) (by omega)
 ·exact Gq (intBits_mul_le ag.c aC.c) (by omega)
theorem cm.trn{m:Nat}{p:P3}(ag:cm m p):cm m (Cut.trn p):=⟨intBits_neg_le ag.a,intBits_neg_le ag.b,ag.c⟩
theorem aR.trn{p:P3}(h:aR p):aR (Cut.trn p):=zF h
theorem sT{g p:P3}(aC:aR g)(ag:aR p):(sld g p).2.2≠0:=zE ag.1 aC.1
theorem aR.sld{g p:P3}(aC:aR g)(ag:aR p):aR (nP (Cut.sld g p)):=fh (sT aC ag)
theorem cm.sldN{m n:Nat}{g p:P3}(aC:cm m g)(ag:cm n p)(PB:aR g)(PC:aR p):cm (n+m+1) (Cut.nP (Cut.sld g p)):=(aC.sld ag).nP (sT PB PC)
theorem qM(p q:P3):bb p q q=0:=by unfold bb crs;grind
def bu(ps:List P3)(n:Nat):P3:=(ps[n]?).getD (0,0,1)
theorem kS{ps:List P3}{n:Nat}(h:n<ps.length):bu ps n=ps[n]:=by unfold bu;rw[aan h];rfl
theorem AB{f:P3->P3}{ps:List P3}{n:Nat}(h:n<ps.length):bu (ps.map f) n=f (bu ps n):=by
 rw[kS h,kS (by rw[Zf];exact h),List.getElem_map]
theorem mF{ps:List P3}{n:Nat}(h:n<ps.length):bu ps n∈ps:=by rw[kS h];exact ac0 h
theorem lU{ps:List P3}{n:Nat}(h:n<ps.length):dE (ps.map dP) (n:Int)=some (dP (bu ps n)):=by rw[kS h];exact sH (Oi h)
def eQ(ps:List P3):Prop:=3<=ps.length/\∀k j,k<ps.length->j<ps.length->j≠k->j≠(k+1)%ps.length->sg (bb (bu ps k) (bu ps ((k+1)%ps.length)) (bu ps j))=1
theorem eQ.map{f:P3->P3}{ps:List P3}(hf:∀p q r,p∈ps->q∈ps->r∈ps->sg (bb (f p) (f q) (f r))=sg (bb p q r))(h:eQ ps):eQ (ps.map f):=by
 refine⟨by rw[Zf];exact h.1,fun k j ah bP aa ab=>?_⟩;rw[Zf]at ah bP ab ⊢;have qN:(k+1)%ps.length<ps.length:=aby _ (by omega);rw[AB ah,AB bP,AB qN,hf _ _ _ (mF ah) (mF qN) (mF bP)];exact h.2 k j ah bP aa ab
abbrev Piece:=List P3×Bool×P3
def dS(s:Piece):D:=.tup [.lst (s.1.map dP),.bl s.2.1,dP s.2.2]
structure c' (m:Nat) (p:P3):Prop where
 pt:aR p
 bp:cm m p
theorem c'.mono{m n:Nat}{p:P3}(h:c' m p)(l:m<=n):c' n p:=⟨h.pt,h.bp.mono l⟩
def ej(g:P3)(s:Piece):Piece:=(s.1.map (fun p=>nP (sld g p)),s.2.1,nP (sld g s.2.2))
theorem c'.trn{m:Nat}{p:P3}(h:c' m p):c' m (Cut.trn p):=⟨h.pt.trn,h.bp.trn⟩
theorem c'.sl{m n:Nat}{g p:P3}(aC:c' m g)(h:c' n p):c' (n+m+1) (nP (sld g p)):=⟨aC.pt.sld h.pt,aC.bp.sldN h.bp aC.pt h.pt⟩
theorem Fu(p:P3):has (.T [.I,.I,.I]) (dP p)=true:=rfl
theorem PD(ps:List P3):has (.L (.T [.I,.I,.I])) (.lst (ps.map dP))=true:=by
 simp only[has,acm];intro x aB;obtain⟨p,_,rfl⟩:=Z9.mp aB;exact Fu p
abbrev AD:ec:=mz 3 (g7 (gi 0) (g7 (gi 1) (g7 (gi 2) my)))
theorem AE{u:a7}{fs:List aH}{h:Piece->D}:∀{sh:List Piece}{v0 v1 v2:aH}{k:List D->Prop},(∀s∈sh,∀k:D->Prop,k (h s)->u (.val (.lst (s.1.map dP))::.val (.bl s.2.1)::.val (dP s.2.2)::fs) k)->k (sh.map h)->gS AD lO u (sh.map dS) (v0::v1::v2::fs) k
 | [],_,_,_,_,_,ah=>ah
 | s::sh,v0,v1,v2,k,bA,ah=>by
  refine⟨_,rfl,rfl,_,_,rfl,_,_,rfl,_,_,rfl,rfl,?_⟩;show(if true=true then u (.val (.lst (s.1.map dP))::.val (.bl s.2.1)::.val (dP s.2.2)::fs) fun y=>gS AD lO u (sh.map dS) (.val (.lst (s.1.map dP))::.val (.bl s.2.1)::.val (dP s.2.2)::fs) fun ys=>k (y::ys)else gS AD lO u (sh.map dS) (.val (.lst (s.1.map dP))::.val (.bl s.2.1)::.val (dP s.2.2)::fs) k)
  rw[if_pos rfl];refine bA s ZJ _ ?_;exact AE (fun x aB=>bA x (ZL _ aB)) ah
theorem AF(f:P3->P3):∀ps:List P3,flats (ps.map fun p=>dP (f p))=true
 | []=>rfl
 | p::r=>by
  rw[aaa,flats,AF f r];rfl
theorem Fv(ps:List P3):flats (ps.map dP)=true:=AF id ps
theorem PE(f:P3->P3)(ps:List P3):(ps.map fun p=>dP (f p))=(ps.map f).map dP:=by rw[aap];rfl
theorem PF(s:Piece):Am (dS s):=⟨_,_,rfl,Fv _⟩
theorem PG{sh:List Piece}:∀q∈sh.map dS,Am q:=fun q ay=>by
 obtain⟨s,_,rfl⟩:=Z9.mp ay;exact PF s
abbrev sU:hv:=.L (.T [.L (.T [.I,.I,.I]),.B,.T [.I,.I,.I]])
theorem PH(sh:List Piece):has sU (.lst (sh.map dS))=true:=by
 simp only[has,acm];intro x aB;obtain⟨s,_,rfl⟩:=Z9.mp aB;have aa:=PD s.1;have ab:=Fu s.2.2;simp only[dS,hass,has]at aa ab ⊢;rw[aa];simpa using ab
def eR(s:Piece):List P3:=if s.2.1=true then(s.1.map fun p=>nP (sld (trn s.2.2) p)).map trn else s.1.map fun p=>nP (sld (trn s.2.2) p)
theorem AG{α:Type}(xs:List α)(lo aD:Option Int):(fx xs lo aD).length<=xs.length:=by
 unfold fx;rw[aa0,abv];omega
theorem Fw(x y:Int):Ze (Ze x 0:Nat) y=Ze x y:=by rw[adt];show aav (Int.natAbs (x.natAbs:Int)) y.natAbs=_;rw[adC];rfl
theorem PI(x y:Int):Ze (Ze 0 x:Nat) y=Ze x y:=by rw[aaR 0 x,Fw]
theorem AH{w:Int×Int}(l:aO w.1 w.2):aR (w.1,0,w.2):=⟨l.1,(Fw _ _).trans l.2⟩
theorem AI{w:Int×Int}(l:aO w.1 w.2):aR (0,w.1,w.2):=⟨l.1,(PI _ _).trans l.2⟩
def cb(w h:Int×Int):P3:=cy (w.1*h.2) (h.1*w.2) (w.2*h.2)
def ie(w h:Int×Int):List P3:=[(0,0,1),(w.1,0,w.2),cb w h,(0,h.1,h.2)]
structure hy (w h:Int×Int):Prop where
 lw:aO w.1 w.2
 lh:aO h.1 h.2
 w0:0<w.1
 h0:0<h.1
theorem hy.top{w h:Int×Int}(b:hy w h):aR (cb w h)/\(cb w h).1*w.2=w.1*(cb w h).2.2/\(cb w h).2.1*h.2=h.1*(cb w h).2.2/\0<(cb w h).1/\0<(cb w h).2.1:=by
 have cS:w.2*h.2≠0:=zE b.lw.1 b.lh.1;obtain⟨p,ai,av,_⟩:=iD (a:=w.1*h.2) (b:=h.1*w.2) cS;have p:aR (cb w h):=p;have ai:(cb w h).1*(w.2*h.2)=w.1*h.2*(cb w h).2.2:=ai;have av:(cb w h).2.1*(w.2*h.2)=h.1*w.2*(cb w h).2.2:=av;have f1:(cb w h).1*w.2=w.1*(cb w h).2.2:=aaN (Zh b.lh.1) (by grind);have f2:(cb w h).2.1*h.2=h.1*(cb w h).2.2:=aaN (Zh b.lw.1) (by grind);refine⟨p,f1,f2,?_,?_⟩
 ·have:0<(cb w h).1*w.2:=by rw[f1];exact ZK b.w0 p.1
  exact abY this b.lw.1
 ·have:0<(cb w h).2.1*h.2:=by rw[f2];exact ZK b.h0 p.1
  exact abY this b.lh.1
theorem nW{x:Int}(h:0<x):sg x=1:=by unfold sg;rw[if_pos h]
section
variable{w h:Int×Int}
theorem hy.d012(b:hy w h):sg (bb (0,0,1) (w.1,0,w.2) (cb w h))=1:=by
 obtain⟨_,_,_,x0,bW⟩:=b.top;have e:bb (0,0,1) (w.1,0,w.2) (cb w h)=w.1*(cb w h).2.1:=by unfold bb crs;simp
 rw[e];exact nW (ZK b.w0 bW)
theorem hy.d013(b:hy w h):sg (bb (0,0,1) (w.1,0,w.2) (0,h.1,h.2))=1:=by
 have e:bb (0,0,1) (w.1,0,w.2) (0,h.1,h.2)=w.1*h.1:=by unfold bb crs;simp
 rw[e];exact nW (ZK b.w0 b.h0)
theorem hy.d023(b:hy w h):sg (bb (0,0,1) (cb w h) (0,h.1,h.2))=1:=by
 obtain⟨_,_,_,x0,bW⟩:=b.top;have e:bb (0,0,1) (cb w h) (0,h.1,h.2)=(cb w h).1*h.1:=by unfold bb crs;simp
 rw[e];exact nW (ZK x0 b.h0)
theorem hy.d312(b:hy w h):sg (bb (0,h.1,h.2) (w.1,0,w.2) (cb w h))=1:=by
 obtain⟨p,ai,av,x0,bW⟩:=b.top;have e:bb (0,h.1,h.2) (w.1,0,w.2) (cb w h)=h.1*w.1*(cb w h).2.2:=by unfold bb crs;simp;grind
 rw[e];exact nW (ZK (ZK b.h0 b.w0) p.1)
end
theorem PJ{p q r s:P3}(aa:sg (bb p q r)=1)(ab:sg (bb p q s)=1)(aL:sg (bb q r s)=1)(bo:sg (bb p r s)=1):eQ [p,q,r,s]:=by
 have sV:∀a b c:P3,bb b c a=bb a b c:=fun a b c=>by unfold bb crs;grind
 refine⟨by simp,fun k j ah bP cu dn=>?_⟩;have l:[p,q,r,s].length=4:=rfl;rw[l]at ah bP dn ⊢;have:k=0∨k=1∨k=2∨k=3:=by omega
 rcases this with rfl|rfl|rfl|rfl
 ·have:j=2∨j=3:=by omega
  rcases this with rfl|rfl
  ·exact aa
  ·exact ab
 ·have:j=0∨j=3:=by omega
  rcases this with rfl|rfl
  ·show sg (bb q r p)=1
   rw[sV p q r];exact aa
  ·exact aL
 ·have:j=0∨j=1:=by omega
  rcases this with rfl|rfl
  ·show sg (bb r s p)=1
   rw[sV p r s];exact bo
  ·show sg (bb r s q)=1
   rw[sV q r s];exact aL
 ·have:j=1∨j=2:=by omega
  rcases this with rfl|rfl
  ·show sg (bb s p q)=1
   rw[<-sV s p q];exact ab
  ·show sg (bb s p r)=1
   rw[<-sV s p r];exact bo
theorem hy.cvx{w h:Int×Int}(b:hy w h):eQ (ie w h):=by
 refine PJ b.d012 b.d013 ?_ b.d023;have:bb (w.1,0,w.2) (cb w h) (0,h.1,h.2)=bb (0,h.1,h.2) (w.1,0,w.2) (cb w h):=by unfold bb crs;grind
 rw[this];exact b.d312
theorem Fx{ps:List P3}{k:Nat}(h:k<ps.length):dE (ps.map dP) ((k:Int)-1)=some (dP (bu ps ((k+ps.length-1)%ps.length))):=by
 cases k with
 | zero =>
  have e:((0:Nat)+ps.length-1)%ps.length=ps.length-1:=by rw[aa2];exact aar (by omega)
  rw[e,kS (by omega)];unfold dE ixN;rw[if_neg (by omega),if_pos (by rw[Zf];omega)];show(ps.map dP)[_]?=_
  rw[aag,Zf,show(((0:Nat):Int)-1+(ps.length:Int)).toNat=ps.length-1 by omega,aan (by omega)];rfl
 | succ k =>
  have e:(k+1+ps.length-1)%ps.length=k:=by
   rw[show k+1+ps.length-1=k+ps.length by omega,abO];exact aar (by omega)
  rw[e,show(((k+1:Nat):Int)-1)=(k:Int) by omega];exact lU (by omega)
section
variable{s w h:Int×Int}
theorem hy.gps(b:hy w h)(a9:intBits w.1<=140)(bf:intBits w.2<=140)(dO:intBits h.1<=140)(fw:intBits h.2<=140):c' 350 (0,0,1)/\c' 350 (w.1,0,w.2)/\c' 350 (cb w h)/\c' 350 (0,h.1,h.2):=by
 have m:∀{x:Int},intBits x<=140->intBits x<=350:=fun h=>Gq h (by decide);have z:intBits 0<=350:=by decide
 have cS:w.2*h.2≠0:=zE b.lw.1 b.lh.1;have hW:cm 350 (nP (w.1*h.2,h.1*w.2,w.2*h.2)):=cm.nP ⟨Gq (intBits_mul_le a9 fw) (by decide),Gq (intBits_mul_le dO bf) (by decide),Gq (intBits_mul_le bf fw) (by decide)⟩ cS;exact⟨⟨⟨(show(0:Int)<1 by decide),(show Ze (Ze 0 0:Nat) 1=1 by decide)⟩,z,z,(show intBits 1<=350 by decide)⟩,⟨AH b.lw,m a9,z,m bf⟩,⟨b.top.1,hW⟩,⟨AI b.lh,z,m dO,m fw⟩⟩
theorem hy.boxG(b:hy w h)(a9:intBits w.1<=140)(bf:intBits w.2<=140)(dO:intBits h.1<=140)(fw:intBits h.2<=140):∀p∈ie w h,c' 350 p:=fun p ag=>by
 obtain⟨ba,g1,g2,g3⟩:=b.gps a9 bf dO fw;unfold ie at ag;simp only[Z6,abz,or_false]at ag;rcases ag with rfl|rfl|rfl|rfl<;>assumption
end
theorem iI(p q r:P3):bb q r p=bb p q r:=by unfold bb crs;grind
theorem sW(p q:P3):bb p p q=0:=by unfold bb crs;grind
theorem PK(o u a b c:P3):bb o u b*bb o a c=bb o u a*bb o b c+bb o u c*bb o a b:=by
 unfold bb crs;grind
theorem Fy{x:Int}(h:sg x=1):0<x:=by
 unfold sg at h;split at h
 ·assumption
 ·split at h<;>omega
def o'(ps:List P3):Prop:=∀i j k,i<j->j<k->k<ps.length->0<bb (bu ps i) (bu ps j) (bu ps k)
theorem eQ.edge{ps:List P3}(h:eQ ps){k j:Nat}(ah:k+1<ps.length)(bP:j<ps.length)(cu:j≠k)(dn:j≠k+1):0<bb (bu ps k) (bu ps (k+1)) (bu ps j):=by
 have:=h.2 k j (by omega) bP cu (by rw[aar ah];exact dn);rw[aar ah]at this;exact Fy this
theorem eQ.tri{ps:List P3}(h:eQ ps):o' ps:=by
 intro i j k mf gQ ah;induction k with
 | zero=>omega
 | succ k c3 =>
  by_cases e:j=k
  ·subst e;rw[<-iI];exact h.edge ah (by omega) (by omega) (by omega)
  ·have aa:=c3 (by omega) (by omega)
   have ab:0<bb (bu ps i) (bu ps k) (bu ps (k+1)):=by
    rw[<-iI];exact h.edge ah (by omega) (by omega) (by omega)
   have bT:=h.edge (k:=i) (j:=k) (by omega) (by omega) (by omega) (by omega);have fR:=h.edge (k:=i) (j:=k+1) (by omega) (by omega) (by omega) (by omega)
   have bJ:0<=bb (bu ps i) (bu ps (i+1)) (bu ps j):=by
    by_cases z:j=i+1
    ·subst z;have:bb (bu ps i) (bu ps (i+1)) (bu ps (i+1))=0:=qM _ _;omega
    ·exact aas (h.edge (by omega) (by omega) (by omega) z)
   have c0:=PK (bu ps i) (bu ps (i+1)) (bu ps j) (bu ps k) (bu ps (k+1));have ar:=aaH bJ (aas ab);have aF:=ZK fR aa;have:0<bb (bu ps i) (bu ps (i+1)) (bu ps k)*bb (bu ps i) (bu ps j) (bu ps (k+1)):=by omega
   exact abb this bT
theorem o'.cvx{ps:List P3}(aj:3<=ps.length)(h:o' ps):eQ ps:=by
 refine⟨aj,fun k j ah bP cu dn=>nW ?_⟩;by_cases e:k+1<ps.length
 ·rw[aar e]at dn ⊢;by_cases z:k<j
  ·exact h k (k+1) j (by omega) (by omega) bP
  ·rw[iI];exact h j k (k+1) (by omega) (by omega) e
 ·have nY:k+1=ps.length:=by omega
  rw[nY,ac1]at dn ⊢;rw[<-iI];exact h 0 j k (by omega) (by omega) ah
def T1(a:P3):List P3->Prop
 | []=>True
 | b::r=>(∀c∈r,0<bb a b c)/\T1 a r
def T0:List P3->Prop
 | []=>True
 | a::r=>T1 a r/\T0 r
theorem T1.sub{a:P3}{l m:List P3}(s:l.Sublist m):T1 a m->T1 a l:=by
 induction s with
 | slnil=>exact id
 | cons b s c3=>exact fun h=>c3 h.2
 | cons_cons b s c3=>exact fun h=>⟨fun c hc=>h.1 c (s.subset hc),c3 h.2⟩
theorem T0.sub{l m:List P3}(s:l.Sublist m):T0 m->T0 l:=by
 induction s with
 | slnil=>exact id
 | cons b s c3=>exact fun h=>c3 h.2
 | cons_cons b s c3=>exact fun h=>⟨T1.sub s h.1,c3 h.2⟩
theorem Fz(a:P3)(r:List P3)(i:Nat):bu (a::r) (i+1)=bu r i:=rfl
theorem PL(a:P3)(r:List P3):bu (a::r) 0=a:=rfl
theorem PM{r:List P3}{i:Nat}(h:i<r.length):bu r i∈r:=by
 induction r generalizing i with
 | nil=>exact absurd h (by simp)
 | cons a r c3 =>
  cases i with
  | zero=>exact ZJ
  | succ i=>exact ZL _ (c3 (by simpa using h))
theorem PN{r:List P3}{c:P3}(h:c∈r):∃i,i<r.length/\bu r i=c:=by
 induction r with
 | nil=>cases h
 | cons a r c3 =>
  rcases Z6.mp h with rfl|h
  ·exact⟨0,by simp,rfl⟩
  ·obtain⟨i,aD,e⟩:=c3 h;exact⟨i+1,by simpa using aD,e⟩
theorem vN(a:P3):∀r:List P3,T1 a r↔∀j k,j<k->k<r.length->0<bb a (bu r j) (bu r k)
 | []=>⟨fun _ j k _ h=>absurd h (by simp),fun _=>trivial⟩
 | b::r=>by
  constructor
  ·rintro⟨aa,ab⟩ j k gQ ah;cases k with
   | zero=>omega
   | succ k =>
    have ah:k<r.length:=by simpa using ah
    cases j with
    | zero=>exact aa _ (PM ah)
    | succ j=>exact(vN a r).mp ab j k (by omega) ah
  ·intro h;refine⟨fun c hc=>?_,(vN a r).mpr fun j k gQ ah=>h (j+1) (k+1) (by omega) (by simpa using ah)⟩;obtain⟨i,aD,rfl⟩:=PN hc;exact h 0 (i+1) (by omega) (by simpa using aD)
theorem pd:∀ps:List P3,T0 ps↔o' ps
 | []=>⟨fun _ i j k _ _ h=>absurd h (by simp),fun _=>trivial⟩
 | a::r=>by
  constructor
  ·rintro⟨aa,ab⟩ i j k mf gQ ah;cases k with
   | zero=>omega
   | succ k =>
    cases j with
    | zero=>omega
    | succ j =>
     have ah:k<r.length:=by simpa using ah
     cases i with
     | zero=>exact(vN a r).mp aa j k (by omega) ah
     | succ i=>exact(pd r).mp ab i j k (by omega) (by omega) ah
  ·intro h;exact⟨(vN a r).mpr fun j k gQ ah=>h 0 (j+1) (k+1) (by omega) (by omega) (by simpa using ah),(pd r).mpr fun i j k aa ab ah=>h (i+1) (j+1) (k+1) (by omega) (by omega) (by simpa using ah)⟩
theorem sX(c a b:P3):crs c (crs a b)=lc (c.1*b.1+c.2.1*b.2.1+c.2.2*b.2.2) a (-(c.1*a.1+c.2.1*a.2.1+c.2.2*a.2.2)) b:=by
 unfold crs lc;refine ee ?_ ?_ ?_<;>dsimp only<;>grind
theorem FA(s t:Int)(a b q r:P3):bb (lc s a t b) q r=s*bb a q r+t*bb b q r:=by unfold bb crs lc;dsimp only;grind
theorem FC(s:Int)(a q r:P3):bb (sc s a) q r=s*bb a q r:=by unfold bb crs sc;dsimp only;grind
end Cut
namespace Cut
open PySem L2 L3
theorem FD{b a:P3}:∀{r:List P3},T1 b r->(∀c∈r,0<bb b c a)->T1 b (r++[a])
 | [],_,_=>⟨fun c hc=>absurd hc (by simp),trivial⟩
 | d::r,h,k=>⟨fun c hc=>by
   rcases aae.mp hc with hc|hc
   ·exact h.1 c hc
   ·rw[aac.mp hc];exact k d ZJ,FD h.2 fun c hc=>k c (ZL _ hc)⟩
theorem FE{a:P3}:∀{r:List P3},T0 r->T1 a r->T0 (r++[a])
 | [],_,_=>⟨trivial,trivial⟩
 | b::r,h,k=>⟨FD h.1 fun c hc=>by rw[iI];exact k.1 c hc,FE h.2 k.2⟩
theorem T0.rot{a:P3}{r:List P3}(h:T0 (a::r)):T0 (r++[a]):=FE h.2 h.1
def sY:List P3->List P3->Prop
 | [],_=>True
 | x::xs,zs=>(∀y∈xs,∀z∈zs,0<bb x y z)/\sY xs zs
theorem vO{x:P3}:∀{xs zs:List P3},T1 x (xs++zs)↔T1 x xs/\T1 x zs/\∀y∈xs,∀z∈zs,0<bb x y z
 | [],zs=>⟨fun h=>⟨trivial,h,fun y a5=>absurd a5 (by simp)⟩,fun h=>h.2.1⟩
 | y::xs,zs=>by
  constructor
  ·rintro⟨aa,ab⟩;obtain⟨bY,ck,fS⟩:=vO.mp ab;refine⟨⟨fun c hc=>aa c (abj _ hc),bY⟩,ck,fun w hw z a'=>?_⟩;rcases Z6.mp hw with rfl|hw
   ·exact aa z (aaC _ a')
   ·exact fS w hw z a'
  ·rintro⟨⟨aa,ab⟩,aL,bo⟩;refine⟨fun c hc=>?_,vO.mpr ⟨ab,aL,fun w hw z a'=>bo w (ZL _ hw) z a'⟩⟩;rcases aae.mp hc with hc|hc
   ·exact aa c hc
   ·exact bo y ZJ c hc
theorem kT:∀{xs zs:List P3},T0 (xs++zs)↔T0 xs/\T0 zs/\(∀x∈xs,T1 x zs)/\sY xs zs
 | [],zs=>⟨fun h=>⟨trivial,h,fun y a5=>absurd a5 (by simp),trivial⟩,fun h=>h.2.1⟩
 | x::xs,zs=>by
  constructor
  ·rintro⟨aa,ab⟩;obtain⟨bY,ck,fS,iy⟩:=kT.mp ab;obtain⟨eN,eP,lV⟩:=vO.mp aa;refine⟨⟨eN,bY⟩,ck,fun w hw=>?_,⟨lV,iy⟩⟩;rcases Z6.mp hw with rfl|hw
   ·exact eP
   ·exact fS w hw
  ·rintro⟨⟨aa,ab⟩,aL,bo,de,fl⟩;exact⟨vO.mpr ⟨aa,bo x ZJ,de⟩,kT.mpr ⟨ab,aL,fun w hw=>bo w (ZL _ hw),fl⟩⟩
theorem vP{zs ws:List P3}(h:∀x y,(∀z∈zs,0<bb x y z)->∀z∈ws,0<bb x y z):∀{xs:List P3},sY xs zs->sY xs ws
 | [],_=>trivial
 | x::xs,k=>⟨fun y a5=>h x y (k.1 y a5),vP h k.2⟩
def gq(p q m:P3):Prop:=∃s a b:Int,0<s/\0<a/\0<b/\sc s m=lc a p b q
theorem PO{s x y:Int}(aq:0<s)(e:s*x=y)(a5:0<y):0<x:=by
 rw[<-e]at a5;exact abb a5 aq
theorem sZ{p q m u v:P3}(h:gq p q m)(aa:0<=bb p u v)(ab:0<=bb q u v)(aL:0<bb p u v∨0<bb q u v):0<bb m u v:=by
 obtain⟨s,a,b,aq,ax,af,e⟩:=h;have k:s*bb m u v=a*bb p u v+b*bb q u v:=by rw[<-FC,e,FA]
 refine PO aq k ?_;have cu:=aaH (aas ax) aa;have dn:=aaH (aas af) ab;rcases aL with aL|aL
 ·have:=ZK ax aL;omega
 ·have:=ZK af aL;omega
theorem pe{p q m u v:P3}(h:gq p q m)(aa:0<=bb u p v)(ab:0<=bb u q v)(aL:0<bb u p v∨0<bb u q v):0<bb u m v:=by
 rw[<-iI]at aa ab ⊢;rw[<-iI u p v,<-iI u q v]at aL;exact sZ h aa ab aL
theorem pf{p q m u v:P3}(h:gq p q m)(aa:0<=bb u v p)(ab:0<=bb u v q)(aL:0<bb u v p∨0<bb u v q):0<bb u v m:=by
 rw[iI]at aa ab ⊢;rw[iI p u v,iI q u v]at aL;exact sZ h aa ab aL
theorem AJ{p q m:P3}(h:gq p q m):∀{ys:List P3},T1 p ys->T1 q ys->T1 m ys
 | [],_,_=>trivial
 | y::ys,aa,ab=>⟨fun c hc=>sZ h (aas (aa.1 c hc)) (aas (ab.1 c hc)) (.inl (aa.1 c hc)),AJ h aa.2 ab.2⟩
theorem e1{x:Int}(z:0<x):0<=x:=aas z
theorem mG{x:Int}(z:x=0):0<=x:=by omega
theorem T0.back{xs ys:List P3}{p q m:P3}(h:T0 (xs++p::q::ys))(hm:gq p q m):T0 (xs++p::m::ys):=by
 obtain⟨aa,⟨⟨cQ,c5⟩,a4,bS⟩,aL,bo⟩:=kT.mp h;refine kT.mpr ⟨aa,⟨⟨fun c hc=>?_,c5⟩,AJ hm c5 a4,bS⟩,fun x aB=>?_,vP (fun x y a' z hw=>?_) bo⟩
 ·exact pe hm (mG (sW p c)) (e1 (cQ c hc)) (.inr (cQ c hc))
 ·obtain⟨bY,ck,fS⟩:=aL x aB;refine⟨fun c hc=>?_,fun c hc=>?_,fS⟩
  ·rcases Z6.mp hc with rfl|hc
   ·exact pf hm (mG (qM x p)) (e1 (bY q ZJ)) (.inr (bY q ZJ))
   ·exact bY c (ZL _ hc)
  ·exact pe hm (e1 (bY c (ZL _ hc))) (e1 (ck c hc)) (.inr (ck c hc))
 ·rcases Z6.mp hw with rfl|hw
  ·exact a' _ ZJ
  ·rcases Z6.mp hw with rfl|hw
   ·exact pf hm (e1 (a' p ZJ)) (e1 (a' q (ZL _ ZJ))) (.inl (a' p ZJ))
   ·exact a' z (ZL _ (ZL _ hw))
theorem T0.on{xs ys:List P3}{p q m:P3}(h:T0 (xs++p::q::ys))(hm:gq p q m):T0 (xs++m::q::ys):=by
 obtain⟨aa,⟨⟨cQ,c5⟩,a4,bS⟩,aL,bo⟩:=kT.mp h;refine kT.mpr ⟨aa,⟨⟨fun c hc=>?_,AJ hm c5 a4⟩,a4,bS⟩,fun x aB=>?_,vP (fun x y a' z hw=>?_) bo⟩
 ·exact sZ hm (e1 (cQ c hc)) (mG (sW q c)) (.inl (cQ c hc))
 ·obtain⟨bY,ck,fS⟩:=aL x aB;refine⟨fun c hc=>?_,ck,fS⟩;rcases Z6.mp hc with rfl|hc
  ·exact pe hm (e1 (bY c ZJ)) (mG (qM x c)) (.inl (bY c ZJ))
  ·exact pe hm (e1 (bY c (ZL _ hc))) (e1 (ck c hc)) (.inr (ck c hc))
 ·rcases Z6.mp hw with rfl|hw
  ·exact pf hm (e1 (a' p ZJ)) (e1 (a' q (ZL _ ZJ))) (.inl (a' p ZJ))
  ·exact a' z (ZL _ hw)
theorem T0.off{xs ys:List P3}{p q r m n:P3}(h:T0 (xs++p::q::r::ys))(hm:gq p q m)(aN:gq q r n):T0 (xs++p::m::n::r::ys):=by
 have ai:=T0.on (xs:=xs++[p]) (p:=q) (q:=r) (by rw[aao];exact h) aN;rw[aao]at ai;obtain⟨aa,⟨⟨cQ,c5⟩,a4,bS⟩,aL,bo⟩:=kT.mp h;obtain⟨_,⟨⟨a1,a2⟩,a9,bf⟩,bZ,bQ⟩:=kT.mp (show T0 (xs++p::n::r::ys)from ai);have PQ:T0 (xs++p::m::r::ys):=h.back hm;obtain⟨_,⟨⟨bL,b1⟩,f1,f2⟩,g3,dG⟩:=kT.mp PQ;have FF:0<bb p q n:=pf aN (mG (qM p q)) (e1 (cQ r ZJ)) (.inr (cQ r ZJ))
 have PR:∀c∈r::ys,0<bb m n c:=fun c hc=>by
  refine sZ hm (e1 (a1 c hc)) ?_ (.inl (a1 c hc));rcases Z6.mp hc with rfl|hc
  ·exact mG (by
    obtain⟨s,a,b,aq,_,_,e⟩:=aN
    have k:s*bb q n c=a*bb q q c+b*bb q c c:=by
     rw[<-iI q n c,<-iI q q c,<-iI q c c,<-FC,e,FA]
    rw[sW,qM,aai,aai]at k;rcases aaG.mp k with z|z
    ·omega
    ·exact z)
  ·exact e1 (pe aN (mG (sW q c)) (e1 (a4.1 c hc)) (.inr (a4.1 c hc)))
 refine kT.mpr ⟨aa,⟨⟨fun c hc=>?_,a1,a2⟩,⟨PR,f1⟩,a9,bf⟩,fun x aB=>?_,vP (fun x y a' z hw=>?_) bo⟩
 ·rcases Z6.mp hc with rfl|hc
  ·exact pe hm (mG (sW p c)) (e1 FF) (.inr FF)
  ·exact bL c hc
 ·obtain⟨bY,ck,fS⟩:=aL x aB;obtain⟨bt,bz,e'⟩:=bZ x aB;obtain⟨kU,kW,FG⟩:=g3 x aB;refine⟨fun c hc=>?_,fun c hc=>?_,bz,e'⟩
  ·rcases Z6.mp hc with rfl|hc
   ·exact kU c ZJ
   ·exact bt c hc
  ·rcases Z6.mp hc with rfl|hc
   ·have FH:0<bb x q c:=pf aN (mG (qM x q)) (e1 (ck r ZJ)) (.inr (ck r ZJ));exact pe hm (e1 (bt c ZJ)) (e1 FH) (.inr FH)
   ·exact kW c hc
 ·have AK:=a' q (ZL _ ZJ);have AL:=a' p ZJ;have PS:=a' r (ZL _ (ZL _ ZJ));rcases Z6.mp hw with rfl|hw
  ·exact AL
  ·rcases Z6.mp hw with rfl|hw
   ·exact pf hm (e1 AL) (e1 AK) (.inl AL)
   ·rcases Z6.mp hw with rfl|hw
    ·exact pf aN (e1 AK) (e1 PS) (.inl AK)
    ·exact a' z (ZL _ (ZL _ hw))
def ln(l p:P3):Int:=l.1*p.1+l.2.1*p.2.1+l.2.2*p.2.2
theorem four(l p q r s:P3):bb q r s*ln l p-bb p r s*ln l q+bb p q s*ln l r-bb p q r*ln l s=0:=by
 unfold bb crs ln;grind
theorem T1.one{a:P3}:∀{xs:List P3},sY xs [a]->T1 a xs
 | [],_=>trivial
 | x::xs,h=>⟨fun c hc=>by rw[<-iI];exact h.1 c hc a ZJ,T1.one h.2⟩
theorem T0.unrot{a:P3}{r:List P3}(h:T0 (r++[a])):T0 (a::r):=by
 obtain⟨aa,_,_,bo⟩:=kT.mp h;exact⟨T1.one bo,aa⟩
theorem T0.turn:∀{xs ys:List P3},T0 (xs++ys)->T0 (ys++xs)
 | [],ys,h=>by rw[Z'];exact h
 | x::xs,ys,h=>by
  have aa:T0 (xs++(ys++[x])):=by rw[<-aao];exact T0.rot h
  have ab:=T0.turn aa;rw[aao]at ab;exact ab
section
variable(f:P3->Int)(mt:P3->P3->P3)
def kp(p:P3):List P3:=if 0<=f p then[p]else[]
def cH(p q:P3):List P3:=if f p*f q<0 then[mt p q]else[]
def c6:List P3->P3->List P3
 | [],_=>[]
 | p::r,w=>kp f p++cH f mt p (r.headD w)++c6 r w
def dg(ps:List P3):List P3:=c6 f mt ps (ps.headD (0,0,1))
end
variable{f:P3->Int}{mt:P3->P3->P3}
theorem PT(xs ys:List P3)(w:P3):(xs++ys).headD w=xs.headD (ys.headD w):=by
 cases xs<;>rfl
theorem s6(w:P3):∀xs ys:List P3,c6 f mt (xs++ys) w=c6 f mt xs (ys.headD w)++c6 f mt ys w
 | [],_=>rfl
 | p::xs,ys=>by
  show kp f p++cH f mt p ((xs++ys).headD w)++c6 f mt (xs++ys) w=kp f p++cH f mt p (xs.headD (ys.headD w))++c6 f mt xs (ys.headD w)++c6 f mt ys w
  rw[s6 w xs ys,PT,aao,aao,aao]
theorem PU(xs ys:List P3):∃P Q,dg f mt (xs++ys)=P++Q/\dg f mt (ys++xs)=Q++P:=by
 cases xs with
 | nil=>exact⟨[],dg f mt ys,rfl,by rw[Z',Z']⟩
 | cons x xs =>
  cases ys with
  | nil=>exact⟨dg f mt (x::xs),[],by rw[Z',Z'],rfl⟩
  | cons y ys =>
   refine⟨c6 f mt (x::xs) y,c6 f mt (y::ys) x,?_,?_⟩
   ·unfold dg;rw[s6];rfl
   ·unfold dg;rw[s6];rfl
theorem FI{xs ys:List P3}(h:T0 (dg f mt (ys++xs))/\3<=(dg f mt (ys++xs)).length):T0 (dg f mt (xs++ys))/\3<=(dg f mt (xs++ys)).length:=by
 obtain⟨P,Q,ai,av⟩:=PU (f:=f) (mt:=mt) xs ys;rw[ai];rw[av]at h;refine⟨T0.turn h.1,?_⟩;have:=h.2;rw[ZM]at this ⊢;omega
theorem AM{w:P3}:∀{a:P3}{A:List P3},(∀p∈A++[a],0<=f p)->c6 f mt (A++[a]) w=A++[a]++cH f mt a w
 | a,[],h=>by
  show kp f a++cH f mt a w++[]=[a]++cH f mt a w
  unfold kp;rw[if_pos (h a (by simp)),Z']
 | a,p::A,h=>by
  show kp f p++cH f mt p ((A++[a]).headD w)++c6 f mt (A++[a]) w=p::A++[a]++cH f mt a w
  rw[AM fun q ay=>h q (ZL _ ay)];have ag:=h p ZJ
  have ay:0<=f ((A++[a]).headD w):=by
   cases A with
   | nil=>exact h a (by simp)
   | cons b A=>exact h b (by simp)
  unfold kp cH;rw[if_pos ag,if_neg (by have:=aaH ag ay;omega)];simp
theorem FJ{w:P3}:∀{s:P3}{N:List P3},(∀p∈N++[s],f p<0)->c6 f mt (N++[s]) w=cH f mt s w
 | s,[],h=>by
  show kp f s++cH f mt s w++[]=cH f mt s w
  unfold kp;rw[if_neg (by have:=h s (by simp);omega),Z',aaz]
 | s,p::N,h=>by
  show kp f p++cH f mt p ((N++[s]).headD w)++c6 f mt (N++[s]) w=cH f mt s w
  rw[FJ fun q ay=>h q (ZL _ ay)];have ag:=h p ZJ
  have ay:f ((N++[s]).headD w)<0:=by
   cases N with
   | nil=>exact h s (by simp)
   | cons b N=>exact h b (by simp)
  unfold kp cH;rw[if_neg (by omega),if_neg (by have:=abA ag ay;omega)];rfl
def Meets(f:P3->Int)(mt:P3->P3->P3):Prop:=∀p q,f p*f q<0->gq p q (mt p q)
theorem kX{p q:P3}(h:f p*f q<0):cH f mt p q=[mt p q]:=by unfold cH;rw[if_pos h]
theorem j0{p q:P3}(h:¬f p*f q<0):cH f mt p q=[]:=by unfold cH;rw[if_neg h]
theorem neg_mul{a b:Int}(ax:0<a)(af:b<0):a*b<0:=aaj ax af
theorem PV{b:P3}{A N:List P3}{s:P3}(gP:Meets f mt)(h:T0 ((A++[b])++(N++[s])))(hr:∀p∈A++[b],0<=f p)(bD:∀p∈N++[s],f p<0)(aj:3<=((A++[b])++(N++[s])).length)(ag:∃p∈A++[b],0<f p):
  T0 (dg f mt ((A++[b])++(N++[s])))/\3<=(dg f mt ((A++[b])++(N++[s]))).length:=by
 obtain⟨a,hg,dq⟩:∃a hg,A++[b]=a::hg:=by
  cases A with
  | nil=>exact⟨b,[],rfl⟩
  | cons a A=>exact⟨a,A++[b],rfl⟩
 obtain⟨n,N',j1⟩:∃n N',N++[s]=n::N':=by
  cases N with
  | nil=>exact⟨s,[],rfl⟩
  | cons n N=>exact⟨n,N++[s],rfl⟩
 have gE:0<=f a:=hr a (by rw[dq];exact ZJ);have vQ:0<=f b:=hr b (by simp);have fn:f n<0:=bD n (by rw[j1];exact ZJ);have fs:f s<0:=bD s (by simp)
 have e:dg f mt ((A++[b])++(N++[s]))=(A++[b])++cH f mt b n++cH f mt s a:=by
  unfold dg;rw[s6,AM hr,FJ bD,dq,j1];rfl
 rw[e]
 have two:N≠[]->T0 ((A++[b])++[n,s]):=fun z=>by
  refine T0.sub (abB (acq _) ?_) h;cases N with
  | nil=>exact absurd rfl z
  | cons m N =>
   have:m=n:=(abo j1).1;subst this;exact adD _ (adE N [s])
 have PW:T0 ((A++[b])++[n]):=T0.sub (abB (acq _) (abP.mpr (by rw[j1];exact ZJ))) h;have oneS:T0 ((A++[b])++[s]):=T0.sub (abB (acq _) (abP.mpr (by simp))) h;by_cases af:0<f b
 ·have gB:f b*f n<0:=neg_mul af fn;have AN:=gP b n gB;rw[kX gB];by_cases ax:0<f a
  ·have iu:f s*f a<0:=by rw[aak];exact neg_mul ax fs
   have vR:=gP s a iu;rw[kX iu];refine⟨?_,by simp⟩;by_cases z:N=[]
   ·subst z;have es:s=n:=(abo j1).1;subst es;cases A with
    | nil=>simp at aj
    | cons a2 mH =>
     have:a2=a:=(abo dq).1;subst this
     have ar:T0 (mH++b::s::a2::[]):=by
      have:=T0.rot (a:=a2) (r:=mH++[b]++[s]) oneS;simpa using this
     have aF:=T0.unrot (a:=a2) (r:=mH++[b,mt b s,mt s a2]) (by simpa using ar.off AN vR);simpa using aF
   ·have t:=two z;have ar:T0 (A++b::mt b n::[s]):=T0.back (by simpa using t) AN
    have aF:T0 (a::(hg++[mt b n,s])):=by
     have:T0 ((A++[b])++[mt b n,s]):=by simpa using ar
     rw[dq]at this;exact this
    have fP:T0 ((hg++[mt b n])++s::a::[]):=by simpa using T0.rot aF
    have rQ:=T0.unrot (a:=a) (r:=hg++[mt b n,mt s a]) (by simpa using fP.on vR);rw[dq];simpa using rQ
  ·have fG:f a=0:=by omega
   have na:A≠[]:=by
    rintro rfl;have:b=a:=(abo dq).1;subst this;exact ax af
   rw[j0 (by rw[fG,aai];omega),Z'];refine⟨?_,?_⟩
   ·have r:=T0.back (xs:=A) (p:=b) (q:=n) (ys:=[]) (by simpa using PW) AN;simpa using r
   ·have:=adF.mpr na;simp;omega
 ·have dv:f b=0:=by omega
  rw[j0 (by rw[dv,aa3];omega),Z'];by_cases ax:0<f a
  ·have iu:f s*f a<0:=by rw[aak];exact neg_mul ax fs
   have vR:=gP s a iu
   have na:A≠[]:=by
    rintro rfl;have:b=a:=(abo dq).1;subst this;exact af ax
   rw[kX iu];refine⟨?_,?_⟩
   ·have ar:T0 (a::(hg++[s])):=by rw[dq]at oneS;exact oneS
    have fP:T0 (hg++s::a::[]):=by simpa using T0.rot ar
    have rQ:=T0.unrot (a:=a) (r:=hg++[mt s a]) (by simpa using fP.on vR);rw[dq];exact rQ
   ·have:=adF.mpr na;simp;omega
  ·have fG:f a=0:=by omega
   rw[j0 (by rw[fG,aai];omega),Z'];refine⟨T0.sub (List.sublist_append_left _ _) h,?_⟩;obtain⟨p,nZ,lW⟩:=ag;have ai:p≠b:=by rintro rfl;omega
   have av:p≠a:=by rintro rfl;omega
   have FK:p∈A:=by
    rcases aae.mp nZ with q|q
    ·exact q
    ·exact absurd (aac.mp q) ai
   cases A with
   | nil=>cases FK
   | cons a2 mH =>
    have:a2=a:=(abo dq).1;subst this;rcases Z6.mp FK with q|q
    ·exact absurd q av
    ·have:=List.length_pos_of_mem q;simp;omega
theorem span{P:P3->Prop}:∀ps:List P3,(∀p,P p∨¬P p)->∃A r,ps=A++r/\(∀p∈A,P p)/\(r=[]∨∃x du,r=x::du/\¬P x)
 | [],_=>⟨[],[],rfl,fun p ag=>absurd ag (by simp),.inl rfl⟩
 | p::ps,em=>by
  rcases em p with h|h
  ·obtain⟨A,r,e,hr,ak⟩:=span ps em;refine⟨p::A,r,by rw[e];rfl,fun q ay=>?_,ak⟩;rcases Z6.mp ay with rfl|ay
   ·exact h
   ·exact hr q ay
  ·exact⟨[],p::ps,rfl,fun q ay=>absurd ay (by simp),.inr ⟨p,ps,rfl,h⟩⟩
theorem alt{l p q r s:P3}(h:T0 [p,q,r,s]):¬(0<=ln l p/\ln l q<0/\0<=ln l r/\ln l s<0)/\¬(ln l p<0/\0<=ln l q/\ln l r<0/\0<=ln l s):=by
 obtain⟨⟨aa,ab,_⟩,⟨aL,_⟩,_⟩:=h;have bL:=aa r (by simp);have b1:=aa s (by simp);have g4:=ab s (by simp);have qO:=aL s (by simp);have k:=four l p q r s;constructor
 ·rintro⟨a,b,c,d⟩;have t1:=aaH (e1 qO) a;have cY:=aaj g4 b;have t3:=aaH (e1 b1) c;have PX:=aaj bL d;omega
 ·rintro⟨a,b,c,d⟩;have t1:=aaj qO a;have cY:=aaH (e1 g4) b;have t3:=aaj b1 c;have PX:=aaH (e1 bL) d;omega
theorem FL{a b c d:P3}{A B C D:List P3}(ax:a∈A)(af:b∈B)(hc:c∈C)(hd:d∈D):[a,b,c,d].Sublist (A++(B++(C++D))):=
 abB (abP.mpr ax) (abB (abP.mpr af) (abB (abP.mpr hc) (abP.mpr hd)))
theorem PY{l:P3}{ps:List P3}(gP:Meets (ln l) mt)(h:T0 ps)(aj:3<=ps.length)(ag:∃p∈ps,0<ln l p):T0 (dg (ln l) mt ps)/\3<=(dg (ln l) mt ps).length:=by
 have em:∀p,0<=ln l p∨¬0<=ln l p:=fun p=>by omega
 have norm:∀A N:List P3,A≠[]->N≠[]->T0 (A++N)->3<=(A++N).length->(∀p∈A,0<=ln l p)->(∀p∈N,ln l p<0)->(∃p∈A,0<ln l p)->T0 (dg (ln l) mt (A++N))/\3<=(dg (ln l) mt (A++N)).length:=fun A N hr bD t0 len ph PZ ex=>by
  obtain⟨hg,b,rfl⟩:∃hg b,A=hg++[b]:=⟨_,_,(ac2 hr).symm⟩;obtain⟨N',s,rfl⟩:∃N' s,N=N'++[s]:=⟨_,_,(ac2 bD).symm⟩;exact PV gP t0 ph PZ len ex
 obtain⟨qP,r,rfl,s7,ak⟩:=span (P:=fun p=>0<=ln l p) ps em;rcases ak with rfl|⟨x,du,rfl,aB⟩
 ·rw[Z']at h aj ag ⊢;have ne:qP≠[]:=by rintro rfl;simp at aj
  obtain⟨hg,b,rfl⟩:∃hg b,qP=hg++[b]:=⟨_,_,(ac2 ne).symm⟩
  have e:dg (ln l) mt (hg++[b])=hg++[b]:=by
   unfold dg;rw[AM s7,j0,Z'];have aa:=s7 b (by simp)
   have ab:0<=ln l ((hg++[b]).headD (0,0,1)):=by
    cases hg with
    | nil=>exact aa
    | cons a hg=>exact s7 a (by simp)
   have:=aaH aa ab;omega
  rw[e];exact⟨h,aj⟩
 obtain⟨gJ,aF,av,P0,AO⟩:=span (P:=fun p=>¬0<=ln l p) (x::du) (fun p=>by omega)
 have AP:gJ≠[]:=by
  rintro rfl;rcases AO with rfl|⟨y,q,e,a5⟩
  ·cases av
  ·rw[e]at av;have:x=y:=(abo av).1;subst this;exact a5 aB
 have pj:∀p∈gJ,ln l p<0:=fun p ag=>by have:=P0 p ag;omega
 obtain⟨cu,vS⟩:=ac3 gJ AP;rw[av]at h aj ag ⊢;by_cases AQ:qP=[]
 ·subst AQ;simp only[aaz]at h aj ag ⊢;rcases AO with rfl|⟨y,q,rfl,a5⟩
  ·obtain⟨p,nZ,lW⟩:=ag;rw[Z']at nZ;have:=pj p nZ;omega
  ·have a5:0<=ln l y:=by omega
   obtain⟨mH,fP,bG,FN,FO⟩:=span (P:=fun p=>0<=ln l p) (y::q) em
   have FP:mH≠[]:=by
    rintro rfl;rcases FO with rfl|⟨z,hF,e,a'⟩
    ·cases bG
    ·rw[e]at bG;have:y=z:=(abo bG).1;subst this;exact a' a5
   rw[bG]at h aj ag ⊢
   have FQ:∀w∈fP,ln l w<0:=fun w hw=>by
    rcases FO with rfl|⟨z,hF,rfl,a'⟩
    ·cases hw
    ·by_cases vT:0<=ln l w
     ·rcases Z6.mp hw with rfl|hw
      ·exact absurd vT a'
      ·obtain⟨a2,FR⟩:=ac3 mH FP;have t:=T0.sub (FL (a:=cu) (b:=a2) (c:=z) (d:=w) (A:=gJ) (B:=mH) (C:=[z]) (D:=hF) vS FR ZJ hw) (by simpa using h);exact absurd ⟨pj cu vS,FN a2 FR,by omega,vT⟩ (alt t).2
     ·omega
   refine FI ?_;rw[aao];refine norm mH (fP++gJ) FP (by simp[AP]) (by rw[<-aao];exact T0.turn h) (by simp at aj ⊢;omega) FN (fun p ag=>?_) ?_
   ·rcases aae.mp ag with z|z
    ·exact FQ p z
    ·exact pj p z
   ·obtain⟨p,nZ,lW⟩:=ag;refine⟨p,?_,lW⟩;rcases aae.mp nZ with z|z
    ·have:=pj p z;omega
    ·rcases aae.mp z with z|z
     ·exact z
     ·have:=FQ p z;omega
 ·obtain⟨a1,FT⟩:=ac3 qP AQ
  have P1:∀w∈aF,0<=ln l w:=fun w hw=>by
   rcases AO with rfl|⟨y,q,rfl,a5⟩
   ·cases hw
   ·by_cases vT:0<=ln l w
    ·exact vT
    ·have a5:0<=ln l y:=by omega
     rcases Z6.mp hw with rfl|hw
     ·exact a5
     ·have t:=T0.sub (FL (a:=a1) (b:=cu) (c:=y) (d:=w) (A:=qP) (B:=gJ) (C:=[y]) (D:=q) FT vS ZJ hw) (by simpa using h);exact absurd ⟨s7 a1 FT,pj cu vS,a5,by omega⟩ (alt t).1
  rw[<-aao]at h aj ag ⊢;refine FI ?_;rw[<-aao];refine norm (aF++qP) gJ (by simp[AQ]) AP (by rw[aao];exact T0.turn h) (by simp at aj ⊢;omega) (fun p ag=>?_) pj ?_
  ·rcases aae.mp ag with z|z
   ·exact P1 p z
   ·exact s7 p z
  ·obtain⟨p,nZ,lW⟩:=ag;refine⟨p,?_,lW⟩;rcases aae.mp nZ with z|z
   ·rcases aae.mp z with z|z
    ·exact aaC _ z
    ·have:=pj p z;omega
   ·exact abj _ z
end Cut
namespace Cut
open PySem L2 L3
def aX(l p q:P3):P3:=if 0<p.2.2/\0<q.2.2 then nP (crs l (crs p q))else if 0<ln l q then lc (ln l q) p (-ln l p) q else lc (-ln l q) p (ln l p) q
theorem kY{x y:Int}(h:x*y<0):(0<x/\y<0)∨(x<0/\0<y):=by
 rcases aa4 x 0 with z|z|z
 ·rcases aa4 y 0 with w|w|w
  ·have:=abA z w;omega
  ·rw[w,aai]at h;omega
  ·exact .inr ⟨z,w⟩
 ·rw[z,aa3]at h;omega
 ·rcases aa4 y 0 with w|w|w
  ·exact .inl ⟨z,w⟩
  ·rw[w,aai]at h;omega
  ·have:=ZK z w;omega
theorem FU(p:P3):sc 1 p=p:=by unfold sc;simp
theorem P2{g a b:Int}{m p q:P3}(h:lc a p b q=sc g m):sc (-g) m=lc (-a) p (-b) q:=by
 have aa:=congrArg (fun x:P3=>x.1) h;have ab:=congrArg (fun x:P3=>x.2.1) h;have aL:=congrArg (fun x:P3=>x.2.2) h;unfold sc lc at *;dsimp only at aa ab aL ⊢;refine ee ?_ ?_ ?_<;>dsimp only<;>grind
theorem pk{l p q:P3}(h:ln l p*ln l q<0):gq p q (aX l p q):=by
 unfold aX;by_cases w:0<p.2.2/\0<q.2.2
 ·rw[if_pos w];have tp:crs l (crs p q)=lc (ln l q) p (-ln l p) q:=sX l p q;have bG:(crs l (crs p q)).2.2=ln l q*p.2.2 + -ln l p*q.2.2:=by rw[tp];rfl
  rcases kY h with⟨aa,ab⟩|⟨aa,ab⟩
  ·have cu:ln l q*p.2.2<0:=by rw[aak];exact aaj w.1 ab
   have dn : -ln l p*q.2.2<0:=by rw[aak];exact aaj w.2 (by omega)
   have cS:(crs l (crs p q)).2.2≠0:=by omega
   obtain⟨g,_,aC⟩:=i4 cS;have ag:=(fh cS).1;have aL:(crs l (crs p q)).2.2=g*(nP (crs l (crs p q))).2.2:=congrArg (fun x:P3=>x.2.2) aC
   have ba:g<0:=by
    by_cases z:g<0
    ·exact z
    ·have:=aaH (show 0<=g by omega) (e1 ag);omega
   rw[tp]at aC;refine⟨-g,-ln l q,ln l p,by omega,by omega,aa,?_⟩;have:=P2 aC;rw[Int.neg_neg,<-tp]at this;exact this
  ·have cu:0<ln l q*p.2.2:=ZK ab w.1;have dn:0 < -ln l p*q.2.2:=ZK (by omega) w.2;have cS:(crs l (crs p q)).2.2≠0:=by omega
   obtain⟨g,_,aC⟩:=i4 cS;have ag:=(fh cS).1;have aL:(crs l (crs p q)).2.2=g*(nP (crs l (crs p q))).2.2:=congrArg (fun x:P3=>x.2.2) aC
   have ba:0<g:=by
    by_cases z:0<g
    ·exact z
    ·have:=aaH (show 0 <= -g by omega) (e1 ag);rw[abH]at this;omega
   refine⟨g,ln l q,-ln l p,ba,ab,by omega,?_⟩;rw[<-aC,tp]
 ·rw[if_neg w];rcases kY h with⟨aa,ab⟩|⟨aa,ab⟩
  ·rw[if_neg (by omega)];exact⟨1,_,_,by decide,by omega,aa,FU _⟩
  ·rw[if_pos ab];exact⟨1,_,_,by decide,ab,by omega,FU _⟩
theorem vU(l p q:P3)(a b:Int):ln l (lc a p b q)=a*ln l p+b*ln l q:=by unfold ln lc;dsimp only;grind
theorem AR(l p:P3)(s:Int):ln l (sc s p)=s*ln l p:=by unfold ln sc;dsimp only;grind
theorem FV{f:P3->Int}{mt:P3->P3->P3}{x:P3}:∀{ps:List P3}{w:P3},x∈c6 f mt ps w->(x∈ps/\0<=f x)∨∃p∈ps,∃q,(q∈ps∨q=w)/\f p*f q<0/\x=mt p q
 | [],_,h=>by cases h
 | p::r,w,h=>by
  have h:x∈kp f p++cH f mt p (r.headD w)++c6 f mt r w:=h;rcases aae.mp h with h|h
  ·rcases aae.mp h with h|h
   ·unfold kp at h;split at h
    ·rename_i z
     rw[aac.mp h];exact .inl ⟨ZJ,z⟩
    ·cases h
   ·unfold cH at h;split at h
    ·rename_i z
     refine .inr ⟨p,ZJ,r.headD w,?_,z,aac.mp h⟩;cases r with
     | nil=>exact .inr rfl
     | cons y r=>exact .inl (ZL _ ZJ)
    ·cases h
  ·rcases FV h with⟨aa,ab⟩|⟨rJ,aa,q,ab,aL,bo⟩
   ·exact .inl ⟨ZL _ aa,ab⟩
   ·refine .inr ⟨rJ,ZL _ aa,q,?_,aL,bo⟩;rcases ab with ab|ab
    ·exact .inl (ZL _ ab)
    ·exact .inr ab
theorem pl{f:P3->Int}{mt:P3->P3->P3}{x:P3}{ps:List P3}(h:x∈dg f mt ps):(x∈ps/\0<=f x)∨∃p∈ps,∃q∈ps,f p*f q<0/\x=mt p q:=by
 rcases FV h with h|⟨p,aa,q,ab,aL⟩
 ·exact .inl h
 ·refine .inr ⟨p,aa,q,?_,aL⟩;rcases ab with ab|ab
  ·exact ab
  ·cases ps with
   | nil=>cases aa
   | cons a r=>rw[ab];exact ZJ
end Cut
namespace L2
open PySem PySem.Spec PyProof.Rows PySem.W
section
variable{X:aM}{pins:List (Addr×Obj)}{σ:St}{H:ao}{s:Shared}{h':Heap}
theorem Inv.turned2{t':Nat}{it e:Addr}(I:Inv X pins σ H s)(k:∀b o,b≠it->b≠e->s.heap.get? b=some o->h'.get? b=some o)(vV:jI X pins H it)(vW:jI X pins H e):Inv X pins σ H { s with heap:=h',toks:=t' }:=by
 obtain⟨s8,gU,ju,mI,P4,P5⟩:=vV;obtain⟨ea,ai,av,bG,c4,eL⟩:=vW;have oE:∀b u,H b=some u->b≠it/\b≠e:=fun b u q=>⟨(fun z=>by rw[z,s8]at q;cases q),(fun z=>by rw[z,ea]at q;cases q)⟩;have aZ:∀b o,b∉[it,e]->s.heap.get? b=some o->h'.get? b=some o:=fun b o hc q=>k b o (fun z=>hc (by simp[z])) (fun z=>hc (by simp[z])) q
 refine I.step (g':=s.gens) (d':=s.drawn) (ch:=[it,e]) (fun b af=>?_) (fun b o _ _ hc q _=>aZ b o hc q) (fun b o _ _ hc q _=>⟨o.slots,aZ b o hc q⟩) (fun _ _ _ _ n=>n)
  (fun b o hc q=>⟨o,aZ b o hc q⟩) (fun _ _ e=>e) (fun _ _ _ e=>e) (fun b ps q=>⟨#[],by rw[q];simp⟩) (fun m hm=>?_) (fun b u q=>?_) I.bare
 ·rcases Z6.mp af with rfl|af
  ·exact⟨mI,gU,P4,P5⟩
  ·rw[aac.mp af];exact⟨bG,ai,c4,eL⟩
 ·obtain⟨o,es,bq,aE,r⟩:=hm;exact⟨o,es,bq,k _ o (aaB gU) (aaB ai) aE,r⟩
 ·refine(I.hok b u q).stay (fun c v hc y=>k c v ?_ ?_ y) (fun _ q=>q) fun _ _ q=>q
  ·rcases hc with z|z
   ·rw[z];exact(oE b u q).1
   ·exact(oE c _ z).1
  ·rcases hc with z|z
   ·rw[z];exact(oE b u q).2
   ·exact(oE c _ z).2
end
def FW(K:PySem.W.Frag)(a:Addr):h5 :=
 ⟨fun i H=>∃xs x,cw K H a xs/\xs[i]?=some x,fun i H x H'=>∃p y,H p=none/\x=.ref p/\H'=upd H p (.tup [.int i,y])/\∀xs,cw K H a xs->xs[i]?=some y,fun i H=>∃xs,cw K H a xs/\xs.length<=i⟩
theorem P6{P:Program}{w:World}{K:PySem.W.Frag}{elts:List Expr}{k:Nat}{pos:Pos}(a it e:Addr)(jY:e≠it):Turn P w K (.Tuple elts k pos) (FW K a) [e,it] e (fun i h=>(∃old,IsEnum h e it (i:Nat) old)/\h.IsListIter it a i) where
 mem:=by simp
 obj:=fun i h st b af=>by
  obtain⟨⟨old,he⟩,o,aE,c,d⟩:=st;rcases Z6.mp af with rfl|af
  ·exact⟨_,he,fun v z=>by cases z⟩
  ·rw[aac.mp af];exact⟨o,aE,fun v z=>by rw[d]at z;cases z⟩
 keep:=fun i h h' st kp=>by
  obtain⟨⟨old,he⟩,aD⟩:=st;exact⟨⟨old,kp e (by simp) _ he⟩,aD.at fun o q=>kp it (by simp) o q⟩
 item:=by
  intro X gD hw e5 hc i pins s σ H E I hf st aC;subst gD hw e5;obtain⟨xs,x,ay,aB⟩:=aC;obtain⟨⟨old,he⟩,aD⟩:=st;obtain⟨its,b3,p,a'⟩:=I.list ay;obtain⟨u,bA,hL⟩:=b3.get aB;have vW:=hf e (by simp);have vV:=hf it (by simp);have elt:e<s.heap.objs.size:=Heap.lt_size he;have P7:it<s.heap.objs.size:=by obtain⟨o,aE,_⟩:=id aD;exact Heap.lt_size aE
  refine wpAny_pyNext_enum_item he aD p.isList (x:=u) (by simpa using bA) jY fun aa out P8 bB s9 kp=>⟨_,rfl,wpAny_letOwnedTupleGo_enum out fun ab P9 gd=>?_⟩;have FX:s.heap.objs.size≠e:=ab8 elt;have FY:s.heap.objs.size≠it:=ab8 P7
  have P':Inv X pins σ (upd H s.heap.objs.size (.tup [.int i,x])) { s with heap:=s.heap.push { cls:=.type "tuple",data:=.seq #[.int i s.toks,u] },toks:=s.toks+1 }:=
   I.laid (t':=s.toks+1) (fun _ _ q=>Heap.get?_push_of_some _ q) (Zg _) ⟨by show 2<=sizeLine;decide,[.int i s.toks,u],.cons ⟨_,rfl⟩ (.cons hL .nil),⟨_,Heap.get?_push_size _ rfl,rfl,_,rfl⟩⟩
  have up:∀b,jI X pins H b->b≠s.heap.objs.size->jI X pins (upd H s.heap.objs.size (.tup [.int i,x])) b:=fun b f n=>⟨by rw[dz n];exact f.1,f.2⟩
  have bg:=P'.turned2 (h':=ab) (t':=s.toks+1) (it:=it) (e:=e) (fun b o cu dn q=>by
   rw[gd.2 b dn];by_cases z:b=s.heap.objs.size
   ·subst z;rw[Heap.get?_push_size _ rfl]at q;rw[<-q];exact bB
   ·refine kp b o dn cu ?_;rw[<-q]
    exact(Heap.get?_push_ne s.heap b _ z).symm) (up it vV (aaB FY)) (up e vW (aaB FX))
  refine⟨.ref s.heap.objs.size,_,bg,rfl,⟨s.heap.objs.size,x,I.fresh,rfl,rfl,fun ys a5=>by rw[I.list_inj a5 ay];exact aB⟩,⟨⟨_,P9⟩,P8.at fun o q=>(gd.2 it (aaB jY)).trans q⟩,fun b af=>?_⟩;rcases Z6.mp af with rfl|af
  ·exact(up _ vW (aaB FX)).1
  ·rw[aac.mp af];exact(up it vV (aaB FY)).1
 done:=by
  intro X gD hw e5 hc i pins s σ H E I hf st aC;subst gD hw e5;obtain⟨xs,ay,aB⟩:=aC;obtain⟨⟨old,he⟩,aD⟩:=st;obtain⟨its,b3,p,a'⟩:=I.list ay;obtain⟨f0,f1,f2,bO,f4,d2⟩:=hf it (by simp);have aj:=b3.length;exact wpAny_pyNext_enum_end (I.ok.hd hc) he aD p.isList (by simp;omega) fun h' ew=>⟨rfl,I.turned (t':=s.toks) (fun b o af q=>ew b o af q) f0 f1 bO f4 d2⟩
 self:=fun _ _ _ _ _ st h=>by
  obtain⟨⟨old,he⟩,_⟩:=st;exact wpAny_pyIter_enum he h
def Qa(K:PySem.W.Frag)(bV:eX):TI:=fun σ H R=>bV σ H fun vs H1=>∃a,vs=[.ref a]/\(∃xs,cw K H1 a xs)/\R (FW K a) H1
theorem AS{X:aM}{elts:List Expr}{k:Nat}{tp:Pos}{a:Expr}{bV:eX}{p pos:Pos}(aC:eB X "enumerate")(hm:X.mg "enumerate"=none)(ax:hq X [a] bV)(aq:starEach [a] X.env=[(false,eval a X.env)]:=by rfl):jJ X (.Tuple elts k tp) (.Call (.Name "enumerate" p) [a] [] pos) (Qa X.K bV):=by
 intro pins s σ H R I h;refine Call_ (p6 I aC hm (by decide +kernel:bootBuiltins "enumerate"=some (.type "enumerate")) (ab' (cq (ax pos pins s σ H _ I h) fun us s1 ⟨vs,H1,bg,ar,a4⟩=>?_) aq rfl));obtain⟨l,e,⟨xs,ay⟩,q⟩:=a4;subst e;obtain⟨u,rfl,r⟩:=vals1 ar;cases r;obtain⟨its,b3,c0,a'⟩:=bg.list ay;refine call_enumerate_list c0.isList fun h' j1 li sz kp=>wpAny_pyIter_enum j1 ?_;refine⟨s1.heap.objs.size+1,[s1.heap.objs.size+1,s1.heap.objs.size],_,_,H1,rfl,bg.kept (t':=s1.toks) kp,P6 l s1.heap.objs.size (s1.heap.objs.size+1) (Nat.succ_ne_self _),⟨⟨_,j1⟩,li⟩,fun b af=>?_,q⟩;rcases Z6.mp af with rfl|af
 ·exact bg.fpOk (abE _) (bg.hok.fresh (abE _))
 ·rw[aac.mp af];exact bg.fpOk (Zg _) (bg.hok.fresh (Zg _))
end L2
namespace L3
open PySem L2
def ig:Nat->List D->List D
 | _,[]=>[]
 | n,d::r=>.tup [.int (n:Nat),d]::ig (n+1) r
def Qb(u:a7)(g:ec)(s:cI):cI:=fun U ρ=>u ρ fun d=>∃ds,d=.lst ds/\forR g s U (ig 0 ds) ρ
section
variable{X:aM}{a:Expr}{u:a7}{pos p:Pos}
theorem Qc{elts:List Expr}{k:Nat}{tp:Pos}{body:List Stmt}{g:ec}{s:cI}(ag:PassesOwn (model X.prog X.w) X.A X.env X.xe)(hc:X.calm=true)(ax:br X a u)(AU:eB X "enumerate")(hm:X.mg "enumerate"=none)(aC:iX X (.Tuple elts k tp) g)(af:fX X body s)(ta:starEach [a] X.env=[(false,eval a X.env)]:=by rfl)(aq:∀x,foldedSetIterable (.Call (.Name "enumerate" p) [a] [] pos) X.env x=pure x:=by intro _;rfl){pos':Pos}:
  e7 X (.For (.Tuple elts k tp) (.Call (.Name "enumerate" p) [a] [] pos) body [] pos') (Qb u g s):=by
 obtain⟨_,h0,fY⟩:=ax;obtain⟨_,aa,ar⟩:=aC;obtain⟨_,ab,aF⟩:=af;refine⟨_,rN ag hc (AS AU hm (eh h0 fD (by rw[ta];rfl)) ta) aa ab aq,fun U ρ h R W B H σ D e dw=>?_⟩;refine fY ρ _ h R W B H σ _ e fun d v a0 H1 z1 ai g1 b3=>?_;obtain⟨ds,rfl,z1⟩:=z1;obtain⟨l,vs,rfl,aj,rs⟩:=b3.lstV;refine⟨l,rfl,⟨vs,cw.of (ai.bh _ _ aj)⟩,?_⟩;refine⟨fun i m a6 H'=>∃bj az,m=ds.length-i/\i<=ds.length/\forR g s U (ig i (ds.drop i)) bj/\Ev X.K R W az H' a6 bj/\bM R B az/\cp a0 az,⟨ds.length,ρ,a0,by simp,aaE _,z1,ai,g1,cp.refl _⟩,?_⟩;rintro i m gc a3 ⟨gG,bH,rfl,aD,aQ,av,g2,s2⟩;have ay:cw X.K a3 l vs:=cw.of (av.bh _ _ (s2 _ _ aj));by_cases cE:i<ds.length
 ·have td:i<vs.length:=by rw[rs.length];exact cE
  refine .inr ⟨⟨vs,vs[i],ay,aan td⟩,fun a6 H'=>∃bj az,forR g s U (ig (i+1) (ds.drop (i+1))) bj/\Ev X.K R W az H' a6 bj/\bM R B az/\cp a0 az,?_,?_⟩
  ·rintro a6 H' ⟨bj,az,z,aT,g',s'⟩;exact⟨ds.length-(i+1),by omega,bj,az,rfl,cE,z,aT,g',s'⟩
  ·rintro x H' ⟨q,y,j2,rfl,rfl,a5⟩;obtain⟨d,hd,bc⟩:=rs.getV (a5 vs ay)
   have gn:ds.drop i=d::ds.drop (i+1):=by
    rw[abd cE];rw[aan cE]at hd;rw[aab hd]
   rw[gn]at aQ;have g3:=av.grow j2 (.tup [.int i,y]);have bG:=av.alloc j2 (.tup [.int i,y]);refine ar _ gG _ aQ R W _ _ gc (.ref q) _ bG (.tup en (.cons (.int _) (.cons (bc.mono (s2.trans g3.s)) .nil))) fun bj a6 er aT _=>?_;have dG:=g2.trans g3;have s4:=s2.trans g3.s;exact aF _ bj er R W _ _ a6 _ aT ⟨fun bj a6 az H' z aT g=>⟨bj,az,z,aT,dG.trans g,s4.trans g.s⟩,fun bj a6 az H' z aT g=>dw.nx bj a6 az H' z aT (dG.trans g),fun bj a6 az H' z aT g=>⟨bj,az,z,aT,dG.trans g,s4.trans g.s⟩,fun r v az H' z aT g q=>dw.rt r v az H' z aT (dG.trans g) q⟩
 ·have eZ:i=ds.length:=by omega
  subst eZ;rw[abm]at aQ;exact .inl ⟨⟨vs,ay,by rw[rs.length];exact Zg _⟩,dw.nx gG gc bH a3 aQ av g2⟩
end
theorem AV{α:Type}{f:α->D}{s:cI}{U:fW}{i j:Nat}(I:List α->List aH->Prop):∀{rs done:List α}{ρ:List aH},I done ρ ->
  (∀(pre:List α)(r:α)(rest:List α) ρ,done++rs=pre++r::rest->I pre ρ->∀N:List aH->Prop,(∀du,I (pre++[r]) du->N du)->s { U with nx:=N,ct:=N,bk:=U.nx } ((ρ.set i (.val (.int pre.length))).set j (.val (f r))))->(∀ρ,I (done++rs) ρ->U.nx ρ) ->
  forR (mz 2 (g7 (gi i) (g7 (gi j) my))) s U (ig done.length (rs.map f)) ρ
 | [],done,ρ,h0,_,ab=>ab ρ (by rw[Z'];exact h0)
 | r::rs,done,ρ,h0,aa,ab=>by
  refine⟨_,rfl,rfl,_,_,rfl,_,_,rfl,rfl,aa done r rs ρ rfl h0 _ fun du ak=>?_⟩;have e:done++r::rs=(done++[r])++rs:=by simp
  rw[e]at aa ab;have:=AV I ak aa ab;rw[ZM]at this;exact this
end L3
namespace Cut
open PySem L2 L3
theorem FZ{x y:Int}:sg x*sg y<0↔x*y<0:=by
 constructor
 ·intro h;rcases kY h with⟨a,b⟩|⟨a,b⟩
  ·have aa:0<x:=by unfold sg at a;split at a<;>first|assumption|(split at a<;>omega)
   have ab:y<0:=by unfold sg at b;split at b<;>first|omega|(split at b<;>first|assumption|omega)
   exact aaj aa ab
  ·have aa:x<0:=by unfold sg at a;split at a<;>first|omega|(split at a<;>first|assumption|omega)
   have ab:0<y:=by unfold sg at b;split at b<;>first|assumption|(split at b<;>omega)
   rw[aak];exact aaj ab aa
 ·intro h;rcases kY h with⟨a,b⟩|⟨a,b⟩
  ·have ai:sg x=1:=nW a;have av:sg y = -1:=by unfold sg;rw[if_neg (by omega),if_pos b]
   rw[ai,av];decide
  ·have ai:sg x = -1:=by unfold sg;rw[if_neg (by omega),if_pos a]
   have av:sg y=1:=nW b;rw[ai,av];decide
theorem F0{x:Int}:0<=sg x↔0<=x:=by unfold sg;split<;>first|omega|(split<;>omega)
theorem F1{x:Int}:sg x<=0↔x<=0:=by unfold sg;split<;>first|omega|(split<;>omega)
theorem Qd{pre rest:List P3}{c fG:P3}(h:(pre++c::rest).headD fG=fG):bu (pre++c::rest) ((pre.length+1)%(pre++c::rest).length)=rest.headD fG:=by
 cases rest with
 | nil =>
  have e:(pre.length+1)%(pre++[c]).length=0:=by rw[ZM];simp
  rw[e];cases pre with
  | nil=>exact h
  | cons p pre=>exact h
 | cons d rest =>
  rw[aar (by simp)];unfold bu;rw[aaJ (by omega)];simp
theorem AW{α:Type}{xs:List α}{i:Nat}{x:α}(h:xs[i]?=some x):dE xs (i:Int)=some x:=by
 have lt:i<xs.length:=(abD.mp h).1;unfold dE
 have e:L2.ixN xs.length (i:Int)=some i:=by
  unfold L2.ixN;rw[if_pos (by omega)];simp[lt]
 rw[e];exact h
theorem Qe{α:Type}{h:P3->α}{pre rest:List P3}{c:P3}:dE ((pre++c::rest).map h) (pre.length:Int)=some (h c):=by
 refine AW ?_;rw[aag,aaJ (Zg _)];simp
theorem F2{α:Type}{h:P3->α}{ps pre rest:List P3}{c fG:P3}(e:ps=pre++c::rest)(ax:ps.headD fG=fG):dE (ps.map h) (((pre.length:Int)+1)%(ps.length:Int))=some (h (rest.headD fG)):=by
 subst e;have cS:0<(pre++c::rest).length:=by rw[ZM,Z8];omega
 have lt:=aby (pre.length+1) cS;have ai:((pre.length:Int)+1)%((pre++c::rest).length:Int)=(((pre.length+1)%(pre++c::rest).length:Nat):Int):=by rw[Int.natCast_emod];rfl
 rw[ai];refine AW ?_;rw[aag];have:=Qd ax;unfold bu at this;rw[aan lt]at this ⊢;simp at this;simp[this]
theorem vX{f:P3->Int}{mt:P3->P3->P3}{pre:List P3}{c w:P3}:c6 f mt (pre++[c]) w=c6 f mt pre c++kp f c++cH f mt c w:=by
 rw[s6];show c6 f mt pre c++(kp f c++cH f mt c w++[])=_
 rw[Z',aao]
theorem AX{f:P3->Int}{mt:P3->P3->P3}:∀{ps:List P3}{w:P3},(c6 f mt ps w).length<=2*ps.length
 | [],_=>Zg _
 | p::r,w=>by
  show(kp f p++cH f mt p (r.headD w)++c6 f mt r w).length<=_
  have h:=AX (f:=f) (mt:=mt) (ps:=r) (w:=w);have aa:(kp f p).length<=1:=by unfold kp;split<;>simp
  have ab:(cH f mt p (r.headD w)).length<=1:=by unfold cH;split<;>simp
  rw[ZM,ZM,Z8];omega
theorem Qf(x:Int): -1<=sg x/\sg x<=1:=by unfold sg;split<;>first|omega|(split<;>omega)
theorem F3(x:Int):acP (sg x)<=9000:=by
 have:=Qf x;have vY:(10:Int)^30=1000000000000000000000000000000:=rfl;exact Gq (Ou (by omega) (by omega)) (by decide)
theorem F4{f:P3->Int}{c:P3}(h:0<=f c):kp f c=[c]:=by unfold kp;rw[if_pos h]
theorem F5{f:P3->Int}{c:P3}(h:¬0<=f c):kp f c=[]:=by unfold kp;rw[if_neg h]
theorem jv{l p q:P3}(ag:aR p)(ay:aR q):nP (crs l (crs p q))=aX l p q:=by unfold aX;rw[if_pos ⟨ag.1,ay.1⟩]
theorem jw{l p q:P3}(ag:aR p)(ay:aR q)(h:ln l p*ln l q<0):(crs l (crs p q)).2.2≠0:=by
 rw[show(crs l (crs p q)).2.2=ln l q*p.2.2 + -ln l p*q.2.2 by rw[sX l p q];rfl];have w1:=ag.1;have cZ:=ay.1;rcases kY h with⟨a,b⟩|⟨a,b⟩
 ·have cu:ln l q*p.2.2<0:=by rw[aak];exact aaj w1 b
  have dn : -ln l p*q.2.2<0:=by rw[aak];exact aaj cZ (by omega)
  omega
 ·have cu:0<ln l q*p.2.2:=ZK b w1;have dn:0 < -ln l p*q.2.2:=ZK (by omega) cZ;omega
theorem F6{l:P3}{ps:List P3}:D.int 1∈ps.map (fun c=>D.int (sg (ln l c)))↔∃c∈ps,0<ln l c:=by
 rw[Z9];constructor
 ·rintro⟨c,hc,e⟩;exact⟨c,hc,Fy (D.int.inj e)⟩
 ·rintro⟨c,hc,h⟩;exact⟨c,hc,by rw[nW h]⟩
theorem vZ{l:P3}{ps:List P3}:D.int (-1)∈ps.map (fun c=>D.int (sg (ln l c)))↔∃c∈ps,ln l c<0:=by
 rw[Z9];constructor
 ·rintro⟨c,hc,e⟩;refine⟨c,hc,?_⟩;have:=D.int.inj e;unfold sg at this;split at this
  ·omega
  ·split at this<;>omega
 ·rintro⟨c,hc,h⟩;exact⟨c,hc,by unfold sg;rw[if_neg (by omega),if_pos h]⟩
end Cut
namespace L3
open PySem L2
def j3:aH->aH
 | .new d=>.val d
 | .pin _ d=>.val d
 | .own (.d _ _ _ _)=>.no
 | .deep _=>.no
 | s=>s
def look(s:aH):aH:=o6 (j3 s)
section
variable{K:PySem.W.Frag}{R:ao}{W:Addr->Prop}{B az H H':ao}{σ:St}{ρ:List aH}
theorem Qg:(ρ.map j3).map o6=ρ.map look:=by rw[aap];rfl
theorem F7{i:Nat}{a:Addr}(m:cP σ (ρ.map j3) i a):cP σ ρ i a:=by
 rcases m with⟨aa,ab⟩|⟨c,aa,_⟩
 rotate_left
 ·rw[aag]at aa;cases q:ρ[i]? with
  | none=>rw[q]at aa;cases aa
  | some cf =>
   rw[q]at aa;cases cf with
   | own ds=>cases ds<;>cases aa
   | _=>cases aa
 refine .inl ⟨aa,?_⟩;rw[aag]at ab;cases q:ρ[i]? with
 | none=>rw[q]at ab;rcases ab with ab|⟨_,ab⟩<;>cases ab
 | some cf =>
  rw[q]at ab;cases cf with
  | bag=>exact .inl rfl
  | own ds=>exact .inr ⟨ds,rfl⟩
  | no=>rcases ab with ab|⟨_,ab⟩<;>cases ab
  | new d=>rcases ab with ab|⟨_,ab⟩<;>cases ab
  | pin v d=>rcases ab with ab|⟨_,ab⟩<;>cases ab
  | deep d=>rcases ab with ab|⟨_,ab⟩<;>cases ab
  | val d=>rcases ab with ab|⟨_,ab⟩<;>cases ab
theorem F8{i:Nat}:(ρ.map j3)[i]?=some .bag↔ρ[i]?=some .bag:=by
 rw[aag];constructor
 ·intro h;cases q:ρ[i]? with
  | none=>rw[q]at h;cases h
  | some cf =>
   rw[q]at h;cases cf with
   | bag=>rfl
   | own ds=>cases ds<;>cases h
   | no=>cases h
   | new d=>cases h
   | pin v d=>cases h
   | deep d=>cases h
   | val d=>cases h
 ·intro h;rw[h];rfl
theorem F9{a:Addr}:gH W σ (ρ.map j3) a↔gH W σ ρ a:=by
 unfold gH;constructor
 ·rintro(h|⟨i,aa,ab⟩)
  ·exact .inl h
  ·exact .inr ⟨i,aa,F8.mp ab⟩
 ·rintro(h|⟨i,aa,ab⟩)
  ·exact .inl h
  ·exact .inr ⟨i,aa,F8.mpr ab⟩
theorem Ev.wide(e:Ev K R W B H σ ρ):Ev K R W (fE R W B) H σ (ρ.map j3):=by
 have nm:∀a,R a=none->fE R W B a=B a:=fun a h=>vB fun vs z=>by rw[h]at z;cases z
 refine⟨⟨e.fr,nJ e.toWd,fun a z=>by rw[Ad z];exact e.wb a z,e.wh,e.wr⟩,by rw[Zf];exact e.len,fun i k h=>?_,fun i j a bw b8=>e.sep i j a (F7 bw) (F7 b8)⟩;rw[aag]at h;cases q:ρ[i]? with
 | none=>rw[q]at h;cases h
 | some cf =>
  rw[q]at h;have h:=aab h;subst h;have z:=e.ok i _ q;cases cf with
  | no=>trivial
  | new d=>exact z
  | pin v d=>exact⟨v,z⟩
  | deep c=>trivial
  | val d =>
   obtain⟨v,aa,ab⟩:=z;exact⟨v,aa,ab.mono (ET e.toWd)⟩
  | own ds =>
   cases ds with
   | d _ _ _ _=>trivial
   | l ds =>
   obtain⟨a,aa,ab,aL,bo⟩:=z;exact⟨a,aa,ab,by rw[nm a ab];exact aL,bo.mono (ET e.toWd) rfl⟩
  | bag =>
   obtain⟨b,aa,ab,aL,bo⟩:=z;refine⟨b,aa,ab,?_,bo⟩;rcases ab with ab|ab
   ·rw[Ad ab];exact aL
   ·rw[nm b ab];exact aL
theorem v3{a:Addr}{o:eV}(h:B a=some o)(n:∀vs,o≠.lst vs):d4 R B a=some o:=by
 unfold d4;rw[h];cases o with
 | lst vs=>exact absurd rfl (n vs)
 | _=>rfl
noncomputable abbrev v5(R:ao)(W:Addr->Prop)(B H:ao)(σ:St)(ρ:List aH):ao:=nO (fE R W B) H σ (ρ.map j3)
theorem Ev.looked(e:Ev K R W B H σ ρ){bH a3:ao}(wd:Wd H (gH W σ (ρ.map j3)) bH a3)(g:bM H (v5 R W B H σ ρ) bH):
  ∃az,Ev K R W az a3 σ ρ/\bM R B az/\cp (d4 H bH) (d4 R az)/\∀a,H a=none->az a=bH a:=by
 have u:=e.unframe (H':=a3) (fun a o h nw=>wd.fr a o h fun z=>nw (F9.mp z)) (fun a h=>wd.wh a (F9.mpr h))
 obtain⟨a0,a9,bf⟩:∃a0:ao,(∀a,H a=none->a0 a=bH a)/\∀a,H a≠none->a0 a=B a :=
  ⟨fun a=>match H a with|none=>bH a|some _=>B a,fun a h=>by dsimp only;rw[h],fun a h=>by
   dsimp only;cases q:H a with
   | none=>exact absurd q h
   | some o=>rfl⟩
 have s:cp B a0:=fun a o h=>by rw[bf a (by rw[e.bh a o h];simp)];exact h
 refine⟨a0,u.move ⟨u.fr,fun a o h=>?_,fun a z=>?_,u.wh,u.wr⟩ s fun i a m=>⟨?_,fun z=>?_,fun _=>rfl⟩,⟨s,fun a o h=>?_⟩,fun a o h=>?_,a9⟩
 ·by_cases q:H a=none
  ·rw[a9 a q]at h;exact wd.bh a o h
  ·rw[bf a q]at h;exact u.bh a o h
 ·obtain⟨x,y,q,_⟩:=e.wh a z;rw[bf a (by rw[q];simp)];exact e.wb a z
 ·rw[bf a (e.mutOk m).2];exact(e.mutOk m).1
 ·obtain⟨b,aG,_,_,bQ⟩:=u.bagAt z;rw[oT m z]at aG;cases aG;exact bQ
 ·by_cases q:H a=none
  ·exact .inr (e.toWd.fresh q).1
  ·rw[bf a q]at h;exact .inl h
 ·have ab:=hQ a o h;by_cases q:H a=none
  ·have af:a0 a=some o:=by rw[a9 a q];exact ab
   cases o with
   | lst vs=>exact vb af (e.toWd.fresh q).1
   | _=>exact v3 af (fun _ z=>by cases z)
  ·have nl:∀vs,o≠.lst vs:=fun vs z=>by
    subst z;exact q (r2 h).2
   refine v3 ?_ nl;rw[bf a q];rcases g.n a o ab with z|z
   ·by_cases w:lQ σ (ρ.map j3) a
    ·obtain⟨i,ds,w1,cZ⟩:=id w;cases ds with
     | d v7 tt aZ ia =>
      rw[aag]at cZ;cases q:ρ[i]? with
      | none=>rw[q]at cZ;cases cZ
      | some cf =>
       rw[q]at cZ;have cZ:=aab cZ;cases cf with
       | own c=>cases c<;>simp[j3]at cZ
       | _=>simp[j3]at cZ
     | l ds =>
     obtain⟨b,vs,aG,_,_,bQ,_⟩:=e.wide.ownAt cZ;rw[w1]at aG;cases aG;rw[v5,qH w,bQ]at z;cases z;exact absurd rfl (nl vs)
    ·rw[v5,qI w]at z;rcases vC z with z|⟨_,_,vs,z⟩
     ·exact z
     ·exact absurd z (nl vs)
   ·exact absurd z q
theorem Ev.lookF(e:Ev K R W B H σ ρ):Ev K H (gH W σ (ρ.map j3)) (v5 R W B H σ ρ) H σ (ρ.map look):=by
 have:=e.wide.frame;rw[Qg]at this;exact this
end
section
variable{K:PySem.W.Frag}{X:aM}{e:Expr}{es:List Expr}{u:a7}{w:cO}{pos p:Pos}
def Qh(u:a7):a7:=fun ρ k=>u (ρ.map look) fun d=>flat d=true/\k d
theorem AY(h:br X e u):br X e (Qh u):=by
 obtain⟨_,aa,ar⟩:=h;refine⟨_,aa,fun ρ k h R W B H σ Q e q=>?_⟩;refine ar _ _ h _ _ _ _ _ _ e.lookF fun d v bH a3 z aT g s=>?_;obtain⟨a0,ai,g1,s1,_⟩:=e.looked aT.toWd g;exact q d v a0 a3 z.2 ai g1 (((s.flat z.1).mono s1).mono hQ)
def Qi(u:a7):a7:=fun ρ k=>u (ρ.map look) k
theorem v8(h:jt X e u):jt X e (Qi u):=by
 obtain⟨_,aa,ar⟩:=h;refine⟨_,aa,fun ρ k h R W B H σ Q e q=>?_⟩;refine ar _ _ h _ _ _ _ _ _ e.lookF fun d v bH a3 z aT g s=>?_;obtain⟨a0,ai,g1,s1,_⟩:=e.looked aT.toWd g;exact q d v a0 a3 z ai g1 (s.mono s1)
theorem v9(h:jt X e u):br X e u:=by
 obtain⟨_,aa,ar⟩:=h;refine⟨_,aa,fun ρ k h R W B H σ Q e q=>?_⟩;exact ar ρ k h R W B H σ _ e fun d v a0 H1 z ai g1 s1=>q d v a0 H1 z ai g1 (s1.mono hQ)
def F'(w:cO):cO:=fun ρ k=>w (ρ.map look) fun ds=>flats ds=true/\k ds
theorem Qj{t:TE}(ar:qm K t w):qm K t (F' w):=by
 intro ρ k h R W B H σ Q e q;refine ar _ _ h _ _ _ _ _ _ e.lookF fun ds a vs bH a3 z aT g f1 f2 bO f4 d2=>?_;obtain⟨a0,ai,g1,s1,a9⟩:=e.looked aT.toWd g;exact q ds a vs a0 a3 z.2 ai g1 (e.toWd.fresh f1).1 (by rw[a9 a f1];exact f2) bO (((f4.flat z.1).mono s1).mono hQ) fun i m=>(e.mutOk m).2 f1
def Qk(K:PySem.W.Frag)(g:gC)(u:ec):Prop:=∀(d:D)(ρ:List aH)(k:List aH->Prop),u d ρ k->∀(R:ao)(W:Addr->Prop)(B H:ao)(σ:St)(v:V)(Q:St->ao->Prop),Ev K R W B H σ ρ->Rep K (fE R W B) v d ->
 (∀bj a6,k bj->Ev K R W B H a6 bj->Q a6 H)->g v σ H Q
def Ql(K:PySem.W.Frag)(g:kn)(u:iW):Prop:=∀(ds:List D)(ρ:List aH)(k:List aH->Prop),u ds ρ k->∀(R:ao)(W:Addr->Prop)(B H:ao)(σ:St)(vs:List V)(Q:St->ao->Prop),Ev K R W B H σ ρ->Reps K (fE R W B) vs ds ->
 (∀bj a6,k bj->Ev K R W B H a6 bj->Q a6 H)->g vs σ H Q
def te(X:aM)(e:Expr)(u:ec):Prop:=∃t,iO X e t/\Qk X.K t u
def v'(X:aM)(e:List Expr)(u:iW):Prop:=∃t,oG X e t/\Ql X.K t u
theorem Ga{R:ao}{W:Addr->Prop}{B H:ao}{v:V}{d:D}(w:Wd R W B H)(r:Rep K (fE R W B) v d)(f:flat d=true):Rep K B v d:=by
 refine(r.flat (R:=H) f).mono fun a o h=>?_;have ab:=hQ a o h;rcases vC ab with z|⟨_,_,vs,rfl⟩
 ·exact z
 ·have:=(r2 h).2;rw[nJ w a _ ab]at this;cases this
def AZ(i:Nat):ec:=fun d ρ k=>k (ρ.set i (.new d))
def tg(i:Nat):ec:=fun d ρ k=>flat d=true/\k (ρ.set i (.val d))
theorem Gb{i:Nat}{x:Str}(bD:X.N.Nodup)(aD:X.N[i]?=some x)(aB:Loc X.env.scope x)(hf:X.fn x=true∨X.env.scope.names.lookup x=some .local:=by first|exact .inl rfl|exact .inr rfl|assumption):te X (.Name x pos) (AZ i):=
 ⟨_,uM bD aD aB hf,fun d ρ k h R W B H σ v Q e r q=>q _ _ h (e.set i ⟨v,rfl,r⟩ fun _ _ z=>by rcases z with z|⟨_,z⟩<;>cases z)⟩
theorem wa{i:Nat}{x:Str}(bD:X.N.Nodup)(aD:X.N[i]?=some x)(aB:Loc X.env.scope x)(hf:X.fn x=true∨X.env.scope.names.lookup x=some .local:=by first|exact .inl rfl|exact .inr rfl|assumption):te X (.Name x pos) (tg i):=
 ⟨_,uM bD aD aB hf,fun d ρ k h R W B H σ v Q e r q=>q _ _ h.2 (e.setV i (Ga e.toWd r h.1))⟩
theorem Gd:v' X [] my:=⟨_,Ds,fun ds ρ k h R W B H σ vs Q e r q=>by
 obtain⟨rfl,h⟩:=h;cases r
 exact⟨rfl,q _ _ h e⟩⟩
theorem qQ{g:ec}{gj:iW}(aa:te X e g)(ab:v' X es gj)(aq:(assignEach (e::es) X.env).map (·.2)=assign e X.env::(assignEach es X.env).map (·.2):=by rfl):v' X (e::es) (g7 g gj):=by
 obtain⟨_,aa,ar⟩:=aa;obtain⟨_,ab,aF⟩:=ab;refine⟨_,Dt aa ab aq,fun ds ρ k h R W B H σ vs Q e r q=>?_⟩;obtain⟨d,hI,rfl,h⟩:=h;cases r with
 | cons b3 rs =>
  refine⟨_,_,rfl,ar d ρ _ h R W B H σ _ _ e b3 fun bj a6 z aT=>?_⟩;exact aF hI bj k z R W B H a6 _ _ aT rs fun zO qt aQ av=>q zO qt aQ av
theorem Ge{cf:Nat}{gj:iW}{n:Nat}(hc:X.calm=true)(h:v' X es gj)(aN:(assignEach es X.env).length=n:=by rfl)(me:(assignEach es X.env).findIdx? (·.1)=none:=by rfl):te X (.Tuple es cf pos) (mz n gj):=by
 obtain⟨_,aa,ar⟩:=h;refine⟨_,Du hc aa aN me,fun d ρ k h R W B H σ v Q e r q=>?_⟩;obtain⟨ds,rfl,aj,h⟩:=h;obtain⟨a,vs,rfl,ax,rs⟩:=r.tupV;exact⟨a,vs,rfl,eu.of (nJ e.toWd _ _ ax),by rw[rs.length];exact aj,ar ds ρ k h R W B H σ vs Q e rs q⟩
variable{bE:Expr}
def Qm(n:Nat)(g:ec)(s:cI):cI:=fun U ρ=>∃ds,ρ[n]?=some (.new (.lst ds))/\forR g s U ds ρ
theorem Ev.oldAt{R:ao}{W:Addr->Prop}{B H:ao}{σ:St}{ρ:List aH}(e:Ev K R W B H σ ρ){i:Nat}{d:D}(h:ρ[i]?=some (.new d)):∃v,σ[i]?=some (some v)/\Rep K (fE R W B) v d:=by
 obtain⟨v,aa,ab⟩:=e.ok i _ h;exact⟨v,join_some aa,ab⟩
theorem Gf(n:Nat){x:Str}{px:Pos}{body:List Stmt}{g:ec}{s:cI}(ag:PassesOwn (model X.prog X.w) X.A X.env X.xe)(hc:X.calm=true)(aC:te X bE g)(af:fX X body s)(bD:X.N[n]?=some x:=by rfl)(aP:gb X.env.scope x:=by first|exact Sz rfl|exact ZN (Sz rfl)|exact ZN (ZN rfl))(hd:(x==("__debug__":Str))=false:=by decide)(dB:(x==("__classdict__":Str))=false:=by decide)(aq:∀v,foldedSetIterable (.Name x px) X.env v=pure v:=by intro _;rfl):e7 X (.For bE (.Name x px) body [] pos) (Qm n g s):=by
 obtain⟨_,aa,ar⟩:=aC;obtain⟨_,ab,aF⟩:=af;refine⟨_,rN ag hc (y3 (hG bD aP hd dB)) aa ab aq,fun U ρ h R W B H σ D e dw=>?_⟩;obtain⟨ds,aE,z1⟩:=h;obtain⟨v,lX,b3⟩:=e.oldAt aE;obtain⟨l,vs,rfl,aj,rs⟩:=b3.lstV;refine⟨_,lX,l,rfl,⟨vs,cw.of (nJ e.toWd _ _ aj)⟩,?_⟩;refine⟨fun i m a6 H'=>∃bj az,m=ds.length-i/\i<=ds.length/\forR g s U (ds.drop i) bj/\Ev X.K R W az H' a6 bj/\bM R B az,⟨ds.length,ρ,B,by simp,aaE _,z1,e,bM.refl _ _⟩,?_⟩;rintro i m gc a3 ⟨gG,bH,rfl,aD,aQ,av,g2⟩;have ay:cw X.K a3 l vs:=cw.of (nJ av.toWd _ _ (oR g2.s _ _ aj));by_cases cE:i<ds.length
 ·have td:i<vs.length:=by rw[rs.length];exact cE
  refine .inr ⟨⟨vs,vs[i],ay,aan td⟩,fun a6 H'=>∃bj az,forR g s U (ds.drop (i+1)) bj/\Ev X.K R W az H' a6 bj/\bM R B az,?_,?_⟩
  ·rintro a6 H' ⟨bj,az,z,aT,g'⟩;exact⟨ds.length-(i+1),by omega,bj,az,rfl,cE,z,aT,g'⟩
  ·rintro x0 H' ⟨rfl,a5⟩;obtain⟨d,m6,bc⟩:=rs.getV (a5 vs ay)
   have gn:ds.drop i=d::ds.drop (i+1):=by
    rw[abd cE];rw[aan cE]at m6;rw[aab m6]
   rw[gn]at aQ;refine ar d gG _ aQ R W bH _ gc x0 _ av (bc.mono (oR g2.s)) fun bj a6 er aT=>?_;exact aF _ bj er R W bH _ a6 _ aT ⟨fun bj a6 az H' z aT g=>⟨bj,az,z,aT,g2.trans g⟩,fun bj a6 az H' z aT g=>dw.nx bj a6 az H' z aT (g2.trans g),fun bj a6 az H' z aT g=>⟨bj,az,z,aT,g2.trans g⟩,fun r v az H' z aT g q=>dw.rt r v az H' z aT (g2.trans g) q⟩
 ·have eZ:i=ds.length:=by omega
  subst eZ;rw[abm]at aQ;exact .inl ⟨⟨vs,ay,by rw[rs.length];exact Zg _⟩,dw.nx gG gc bH a3 aQ av g2⟩
def Qn(n:Nat)(g:ec)(s:cI):cI:=fun U ρ=>∃ds,ρ[n]?=some (.new (.lst ds))/\flats ds=true/\forR g s U (ig 0 ds) ρ
theorem Qo(n:Nat){x:Str}{px:Pos}{elts:List Expr}{k:Nat}{tp:Pos}{body:List Stmt}{g:ec}{s:cI}(ag:PassesOwn (model X.prog X.w) X.A X.env X.xe)(hc:X.calm=true)(AU:eB X "enumerate")(hm:X.mg "enumerate"=none)(aC:iX X (.Tuple elts k tp) g)(af:fX X body s)(bD:X.N[n]?=some x:=by rfl)(aP:gb X.env.scope x:=by first|exact Sz rfl|exact ZN (Sz rfl)|exact ZN (ZN rfl))(hd:(x==("__debug__":Str))=false:=by decide)(dB:(x==("__classdict__":Str))=false:=by decide)(ta:starEach [.Name x px] X.env=[(false,eval (.Name x px) X.env)]:=by rfl)(aq:∀v,foldedSetIterable (.Call (.Name "enumerate" p) [.Name x px] [] pos) X.env v=pure v:=by intro _;rfl){pos':Pos}:
  e7 X (.For (.Tuple elts k tp) (.Call (.Name "enumerate" p) [.Name x px] [] pos) body [] pos') (Qn n g s):=by
 obtain⟨_,aa,ar⟩:=aC;obtain⟨_,ab,aF⟩:=af;refine⟨_,rN ag hc (AS AU hm (eh (hG bD aP hd dB) fD (by rw[ta];rfl)) ta) aa ab aq,fun U ρ h R W B H σ D e dw=>?_⟩;obtain⟨ds,aE,A0,z1⟩:=h;obtain⟨v,lX,b3⟩:=e.oldAt aE;obtain⟨l,vs,rfl,aj,rs⟩:=b3.lstV;refine⟨_,lX,l,rfl,⟨vs,cw.of (nJ e.toWd _ _ aj)⟩,?_⟩;refine⟨fun i m a6 H'=>∃bj az,m=ds.length-i/\i<=ds.length/\forR g s U (ig i (ds.drop i)) bj/\Ev X.K R W az H' a6 bj/\bM R B az,⟨ds.length,ρ,B,by simp,aaE _,z1,e,bM.refl _ _⟩,?_⟩;rintro i m gc a3 ⟨gG,bH,rfl,aD,aQ,av,g2⟩;have ay:cw X.K a3 l vs:=cw.of (nJ av.toWd _ _ (oR g2.s _ _ aj));by_cases cE:i<ds.length
 ·have td:i<vs.length:=by rw[rs.length];exact cE
  refine .inr ⟨⟨vs,vs[i],ay,aan td⟩,fun a6 H'=>∃bj az,forR g s U (ig (i+1) (ds.drop (i+1))) bj/\Ev X.K R W az H' a6 bj/\bM R B az,?_,?_⟩
  ·rintro a6 H' ⟨bj,az,z,aT,g'⟩;exact⟨ds.length-(i+1),by omega,bj,az,rfl,cE,z,aT,g'⟩
  ·rintro x0 H' ⟨q,y,j2,rfl,rfl,a5⟩;obtain⟨d,m6,bc⟩:=rs.getV (a5 vs ay);have fd:=Al A0 m6;have Qp:=Ga e.toWd bc fd
   have gn:ds.drop i=d::ds.drop (i+1):=by
    rw[abd cE];rw[aan cE]at m6;rw[aab m6]
   rw[gn]at aQ;have g3:=av.grow j2 (.tup [.int i,y]);have bG:=av.alloc j2 (.tup [.int i,y]);have dG:=g2.trans g3;refine ar _ gG _ aQ R W _ _ gc (.ref q) _ bG (.tup en (.cons (.int _) (.cons (Qp.mono dG.s) .nil))) fun bj a6 er aT _=>?_;exact aF _ bj er R W _ _ a6 _ aT ⟨fun bj a6 az H' z aT g=>⟨bj,az,z,aT,dG.trans g⟩,fun bj a6 az H' z aT g=>dw.nx bj a6 az H' z aT (dG.trans g),fun bj a6 az H' z aT g=>⟨bj,az,z,aT,dG.trans g⟩,fun r v az H' z aT g q=>dw.rt r v az H' z aT (dG.trans g) q⟩
 ·have eZ:i=ds.length:=by omega
  subst eZ;rw[abm]at aQ;exact .inl ⟨⟨vs,ay,by rw[rs.length];exact Zg _⟩,dw.nx gG gc bH a3 aQ av g2⟩
def A1(u:a7):dA:=fun ρ k=>u ρ fun x=>∃ds,x=.lst ds/\k (!ds.isEmpty)
theorem Gg{a:Expr}{bJ:a7}(ax:br X a bJ)(he:∀whole,isTrue a X.env whole=(do let v <-whole;standAt a.pos;holding [v] (truthy v)):=by intro _;rfl):ht X a (A1 bJ):=by
 obtain⟨_,aa,ar⟩:=ax;refine⟨_,Lf aa he,fun ρ k h R W B H σ Q e q=>?_⟩;refine ar ρ _ h R W B H σ _ e fun x v a0 H1 z1 ai g1 s1=>?_;obtain⟨ds,rfl,ah⟩:=z1;obtain⟨a,vs,rfl,ax,rs⟩:=s1.lstV;refine⟨!vs.isEmpty,.inl ⟨vs,cw.of (ai.bh _ _ ax),rfl⟩,q _ a0 H1 ?_ ai g1⟩
 have:vs.isEmpty=ds.isEmpty:=by
  have aj:=rs.length;cases vs with
  | nil=>cases ds with
   | nil=>rfl
   | cons d ds=>simp at aj
  | cons v vs=>cases ds with
   | nil=>simp at aj
   | cons d ds=>rfl
 rw[this];exact ah
variable{elt iter:Expr}{ifs:List Expr}{scope:Scope}{cl:List (Str×Addr)}{ts fr:List Str}{js:List Nat}{e0:ec}{ut:dA}
theorem Qq{i:Nat}{y:Str}{py nH:Pos}(bD:X.N.Nodup)(sv:X.N[i]?=some y)(a5:X.env.scope.names.lookup y=some .local)(aD:lH X bE iter w)(aC:∀C s H ex,iX (dr X (ts++fr) scope cl C s H ex) bE e0)(iB:∀C s H ex,nM (dr X (ts++fr) scope cl C s H ex) ifs ut)(iC:∀C s H ex,br (dr X (ts++fr) scope cl C s H ex) elt u)(F:nF X scope cl fr js)(mA:js.Nodup:=by decide)(hc:X.calm=true:=by rfl)(aq:∀v,foldedSetIterable iter X.env v=pure v:=by intro _;rfl)(kE:swapsWith (.ListComp elt [⟨bE,iter,ifs,0⟩] scope pos) (some (.Name y py)) nH.line X.env=pure true:=by rfl):
  e7 X (.Assign [.Name y py] (.ListComp elt [⟨bE,iter,ifs,0⟩] scope pos) nH) (zK i (F' (nI w e0 ut u ts.length js))):=by
 obtain⟨_,h0,fY⟩:=aD;obtain⟨vF,mB,rg⟩:=sG (K:=X.K) (Xs:=fun a:Addr×Shared×ao×List Addr=>dr X (ts++fr) scope cl a.1 a.2.1 a.2.2.1 a.2.2.2) (fun _=>rfl) fun a=>aC a.1 a.2.1 a.2.2.1 a.2.2.2;obtain⟨tt,mC,rt⟩:=sF (K:=X.K) (Xs:=fun a:Addr×Shared×ao×List Addr=>dr X (ts++fr) scope cl a.1 a.2.1 a.2.2.1 a.2.2.2) (fun _=>rfl) fun a=>iB a.1 a.2.1 a.2.2.1 a.2.2.2;obtain⟨cC,mD,re⟩:=vE (K:=X.K) (Xs:=fun a:Addr×Shared×ao×List Addr=>dr X (ts++fr) scope cl a.1 a.2.1 a.2.2.1 a.2.2.2) (fun _=>rfl) fun a=>iC a.1 a.2.1 a.2.2.1 a.2.2.2;refine⟨_,ES bD sv a5 h0 (fun C s H ex=>mB (C,s,H,ex)) (fun C s H ex=>mC (C,s,H,ex)) (fun C s H ex=>mD (C,s,H,ex)) F hc aq kE,fun U ρ h R W B H σ D e s=>?_⟩;exact Qj (Ae fY rg rt re mA) ρ _ h R W B H σ _ e fun ds a vs a0 H1 z1 ai g1 f1 f2 bO f4 d2=>s.nx _ _ a0 H1 z1 (ai.setO i f1 f2 bO f4 fun j _=>d2 j) g1
end
section
variable{K:PySem.W.Frag}
def wc:Bool->aH->aH
 | true,.val d=>.new d
 | _,x=>x
def Qr:Bool->aH->Prop
 | false,.val d=>flat d=true
 | _,_=>True
def olds:List Bool->List aH->List aH
 | b::m,x::r=>wc b x::olds m r
 | _,r=>r
def we:List Bool->List aH->Prop
 | b::m,x::r=>Qr b x/\we m r
 | [],[]=>True
 | _,_=>False
theorem Gh:∀(m:List Bool)(as:List aH),(olds m as).length=as.length
 | [],[]=>rfl
 | [],_::_=>rfl
 | _::_,[]=>rfl
 | b::m,x::r=>by rw[olds,Z8,Z8,Gh m r]
theorem qR{W:Addr->Prop}{B:ao}:∀{vs:List V}{as:List aH},iY K W B vs as->∀(m:List Bool),we m as->∀(i:Nat)(k:aH),(olds m as)[i]?=some k ->
  (∃v d,vs[i]?=some v/\k=.new d/\Rep K B v d)∨(∃v d,vs[i]?=some v/\k=.val d/\Rep K B v d/\flat d=true)∨(∃b,vs[i]?=some (.ref b)/\k=.bag/\W b/\as[i]?=some .bag)
 | _,_,.nil,[],_,i,k,e=>by simp[olds]at e
 | _,_,.nil,_::_,aE,i,k,e=>by cases aE
 | _,_,.val h r,[],aE,i,k,e=>by cases aE
 | _,_,.bag h r,[],aE,i,k,e=>by cases aE
 | _,_,.val h r,b::m,aE,i+1,k,e=>by
  simpa using qR r m aE.2 i k (by simpa[olds]using e)
 | _,_,.bag h r,b::m,aE,i+1,k,e=>by
  simpa using qR r m aE.2 i k (by simpa[olds]using e)
 | _,_,.val h r,true::m,aE,0,k,e=>by
  simp[olds,wc]at e;subst e;exact .inl ⟨_,_,rfl,rfl,h⟩
 | _,_,.val h r,false::m,aE,0,k,e=>by
  simp[olds,wc]at e;subst e;exact .inr (.inl ⟨_,_,rfl,rfl,h,aE.1⟩)
 | _,_,.bag h r,b::m,aE,0,k,e=>by
  have e:k=.bag:=by cases b<;>(simp[olds,wc]at e;exact e.symm)
  subst e;exact .inr (.inr ⟨_,rfl,rfl,h,rfl⟩)
theorem Qs{W:Addr->Prop}{B H:ao}(sB:cp B H)(hw:∀a,W a->B a=none):cp B (fE H W (d4 H B)):=fun a o h=>by
 have dm:=sB a o h;have nw:¬W a:=fun z=>by rw[hw a z]at h;cases h
 by_cases q:∃vs,o=.lst vs
 ·obtain⟨vs,rfl⟩:=q;exact vA dm nw
 ·rw[vB fun vs e=>q ⟨vs,by rw[dm]at e;exact aab e⟩];exact v3 h fun vs e=>q ⟨vs,e⟩
theorem Ev.startN{N:List Str}{W:Addr->Prop}{B H:ao}{vs:List V}{as:List aH}{m:List Bool}(af:kC as<=1)(sB:cp B H)(hw:∀a,W a->B a=none/\gh H a)(d1:iY K W B vs as)(aE:we m as):Ev K H W (d4 H B) H (L2.start N vs) (olds m as++aad (N.length-as.length) .no):=by
 have aj:=d1.length;have ol:=Gh m as
 have nn:∀a,W a->d4 H B a=none:=fun a h=>by
  cases q:d4 H B a with
  | none=>rfl
  | some o=>have:=hQ a o q;rw[(hw a h).1]at this;cases this
 have wd:Wd H W (d4 H B) H:=⟨fun _ _ h _=>h,hQ.trans sB,nn,fun a h=>(hw a h).2,fun a h=>by obtain⟨x,y,q,_⟩:=(hw a h).2;rw[q];simp⟩
 have lo:∀i,i<as.length->(L2.start N vs)[i]?=(vs[i]?).map some:=fun i lt=>by
  unfold L2.start;rw[aaM (by rw[Zf];omega),aag]
 have cs:∀(i:Nat)(k:aH),(olds m as++aad (N.length-as.length) aH.no)[i]?=some k->(i<as.length/\(olds m as)[i]?=some k)∨k=aH.no:=fun i k h=>by
  by_cases z:i<(olds m as).length
  ·rw[aaM z]at h;exact .inl ⟨by omega,h⟩
  ·rw[aaJ (by omega)]at h;rw[abk]at h;split at h
   ·exact .inr (aab h).symm
   ·cases h
 refine⟨wd,by unfold L2.start;simp[aj,ol],fun i k h=>?_,fun i j a bw b8=>?_⟩
 ·rcases cs i k h with⟨lt,h⟩|rfl
  ·rw[lo i lt];rcases qR d1 m aE i k h with⟨v,d,aa,rfl,r⟩|⟨v,d,aa,rfl,r,f⟩|⟨b,aa,rfl,r,_⟩
   ·rw[aa];exact⟨v,rfl,r.mono (Qs sB fun a z=>(hw a z).1)⟩
   ·rw[aa];exact⟨v,rfl,r.flat f⟩
   ·rw[aa];exact⟨b,rfl,.inl r,wd.wb b r,(hw b r).2⟩
  ·trivial
 ·have one:∀i,cP (L2.start N vs) (olds m as++aad (N.length-as.length) aH.no) i a->as[i]?=some .bag:=fun i bF=>by
   rcases bF with⟨_,z|⟨ds,z⟩⟩|⟨_,z,_⟩
   rotate_right
   ·rcases cs i _ z with⟨_,z⟩|z
    ·rcases qR d1 m aE i _ z with⟨v,d,_,q,_⟩|⟨v,d,_,q,_⟩|⟨b,_,q,_⟩<;>cases q
    ·cases z
   ·rcases cs i _ z with⟨_,z⟩|z
    ·rcases qR d1 m aE i _ z with⟨v,d,_,q,_⟩|⟨v,d,_,q,_⟩|⟨b,_,_,_,q⟩
     ·cases q
     ·cases q
     ·exact q
    ·cases z
   ·rcases cs i _ z with⟨_,z⟩|z
    ·rcases qR d1 m aE i _ z with⟨v,d,_,q,_⟩|⟨v,d,_,q,_⟩|⟨b,_,q,_⟩<;>cases q
    ·cases z
  exact nu af (one i bw) (one j b8)
def Qt(k:aH->Prop):aH->Prop
 | .val d=>k (.new d)
 | .own (.l ds)=>k (.new (.lst ds))
 | .new d=>k (.new d)
 | _=>False
theorem th{P:Program}{w:World}{mg:Str->Option Value}{base:Heap}{x:Str}{st:Stmt}{N ps:List Str}{lv n:Nat}{F:FS}(m:List Bool)(oY:cD K mg x st ps)(S:cG N ps (b0 st))(aN:ps.length=n)(jg:∀(f:Addr) (cdv:Value) (A:Around) (outer:List abK) (s:Shared) (H:ao) (E:fB),eC lv (A.deeper (aci x (b0 st) s.heap.objs.size f cdv))->∃u,fX (kv jh P w K mg base N x (b0 st) f cdv A outer s H E).nox (ky st) u/\∀as k,as.length=n->F as k->we m as/\u { nx:=fun _=>k (.val .non),rt:=Qt k } (olds m as++aad (N.length-n) .no)):aI P w K mg base x ps (lv+1) (aK K n F):=by
 refine oY.ok S (fun vs H Q E h=>?_) (fun f cdv A outer s H vs Q E ak h=>?_)
 ·obtain⟨W,B,as,k,_,aj,_,_,_,d1,_⟩:=h;rw[d1.length,aj,aN]
 ·obtain⟨W,B,as,k,jl,aj,af,sB,hw,d1,q⟩:=h;obtain⟨u,⟨t,bB,rt⟩,bA⟩:=jg f cdv A outer s H E ak;obtain⟨aE,bA⟩:=bA as k aj jl;have ev:=Ev.startN (N:=N) (m:=m) (acR af) sB hw d1 aE;rw[aj]at ev
  have fin:∀az H',Wd H W az H'->bM H (d4 H B) az->∃bH,Wd H W bH H'/\bM H B bH/\cp az (d4 H bH):=fun az H' wd g=>by
   have Gi:cp B H':=fun a o h=>wd.fr a o (sB a o h) fun z=>by rw[(hw a z).1]at h;cases h
   obtain⟨bH,a9,bf⟩:∃bH:ao,(∀a o,B a=some o->bH a=some o)/\∀a,B a=none->bH a=az a :=
    ⟨fun a=>match B a with|some o=>some o|none=>az a,fun a o h=>by dsimp only;rw[h],fun a h=>by dsimp only;rw[h]⟩
   refine⟨bH,⟨wd.fr,fun a o h=>?_,fun a z=>?_,wd.wh,wd.wr⟩,⟨a9,fun a o h=>?_⟩,fun a o h=>?_⟩
   ·cases z:B a with
    | none=>rw[bf a z]at h;exact wd.bh a o h
    | some eA=>rw[a9 a eA z]at h;cases h;exact Gi a _ z
   ·rw[bf a (hw a z).1];exact wd.wb a z
   ·cases z:B a with
    | none =>
     rw[bf a z]at h;rcases g.n a o h with y|y
     ·rw[hQ a o y]at z;cases z
     ·exact .inr y
    | some eA=>rw[a9 a eA z]at h;cases h;exact .inl rfl
   ·have ab:bH a=some o:=by
     cases z:B a with
     | none=>rw[bf a z];exact h
     | some eA =>
      have ai:=Gi a _ z;rw[wd.bh a o h]at ai;cases ai;exact a9 a _ z
    by_cases y:∃vs,o=.lst vs
    ·obtain⟨vs,rfl⟩:=y;refine vb ab ?_;rcases g.n a _ h with y|y
     ·exact(r2 y).2
     ·exact y
    ·exact v3 ab fun vs e=>y ⟨vs,e⟩
  refine⟨t,bB,rt _ _ bA H W _ H (L2.start N vs) _ ev ⟨fun ρ σ az H' h e g=>?_,fun _ _ _ _ h=>h.elim,fun _ _ _ _ h=>h.elim,fun r v az H' h e g z=>?_⟩⟩
  ·obtain⟨bH,cZ,g2,_⟩:=fin az H' e.toWd g;exact q _ _ bH H' h ⟨cZ,g2,.non⟩
  ·cases r with
   | no=>exact h.elim
   | bag=>exact h.elim
   | pin v d=>exact h.elim
   | deep c=>exact h.elim
   | val d =>
    obtain⟨bH,cZ,g2,s2⟩:=fin az H' e g;exact q (.new d) v bH H' h ⟨cZ,g2,Rep.mono s2 z⟩
   | new d =>
    obtain⟨bH,cZ,g2,s2⟩:=fin az H' e g;exact q (.new d) v bH H' h ⟨cZ,g2,Rep.mono s2 (Rep.mono hQ z)⟩
   | own c =>
    cases c with
    | d _ _ _ _=>exact h.elim
    | l ds =>
    obtain⟨a,rfl,f1,f2,us,bO,f4⟩:=z;have ea:Ev K H W az H' [] []:=⟨e,rfl,fun i k h=>by simp at h,fun i j a m=>by rcases m with⟨z,_⟩|⟨_,z,_⟩<;>simp at z⟩;obtain⟨bG,g3⟩:=ea.freeze bO f1 f2 fun i m=>by rcases m with⟨z,_⟩|⟨_,z,_⟩<;>simp at z
    obtain⟨bH,cZ,g2,s2⟩:=fin _ H' bG.toWd (g.trans g3);exact q (.new (.lst ds)) _ bH H' h ⟨cZ,g2,Rep.mono s2 (.lst en (f4.mono g3.s))⟩
end
end L3
namespace Cut
open PySem L2 L3
def cT:P3->List P3->List (P3×P3)
 | _,[]=>[]
 | z,p::r=>(z,p)::cT p r
def bX:P3->List P3->P3
 | z,[]=>z
 | _,p::r=>bX p r
def da(ps:List P3):List (P3×P3):=cT (bX (0,0,1) ps) ps
theorem n0:∀(z:P3)(A B:List P3),cT z (A++B)=cT z A++cT (bX z A) B
 | _,[],_=>rfl
 | z,p::A,B=>by
  show(z,p)::cT p (A++B)=(z,p)::(cT p A++cT (bX p A) B)
  rw[n0 p A B]
theorem n1:∀(z:P3)(A B:List P3),bX z (A++B)=bX (bX z A) B
 | _,[],_=>rfl
 | _,p::A,B=>n1 p A B
theorem qS{z er:P3}{L:List P3}(h:L≠[]):bX z L=bX er L:=by
 cases L with
 | nil=>exact absurd rfl h
 | cons p r=>rfl
theorem A2:∀{z:P3}{L:List P3},L≠[]->bX z L∈L
 | _,[],h=>absurd rfl h
 | z,[p],_=>ZJ
 | z,p::q::r,_=>ZL _ (A2 (z:=p) (L:=q::r) (by simp))
theorem Gj:∀{z:P3}{L:List P3}{e:P3×P3},e∈cT z L->(e.1=z∨e.1∈L)/\e.2∈L
 | _,[],_,h=>by cases h
 | z,p::r,e,h=>by
  rcases Z6.mp h with rfl|h
  ·exact⟨.inl rfl,ZJ⟩
  ·obtain⟨aa,ab⟩:=Gj h;refine⟨.inr ?_,ZL _ ab⟩;rcases aa with aa|aa
   ·rw[aa];exact ZJ
   ·exact ZL _ aa
theorem j4{L:List P3}{e:P3×P3}(h:e∈da L):e.1∈L/\e.2∈L:=by
 have n:L≠[]:=by rintro rfl;cases h
 obtain⟨aa,ab⟩:=Gj h;refine⟨?_,ab⟩;rcases aa with aa|aa
 ·rw[aa];exact A2 n
 ·exact aa
section
variable{f:P3->Int}{mt:P3->P3->P3}
theorem wg{C:P3->P3->Prop}(a':∀u v,f u=0->f v=0->C u v):∀{ps:List P3}{w z:P3},
  (∀p q,(p,q)∈cT (ps.headD w) (ps.tail++[w])->0<=f p->0<=f q->C p q) ->
  (∀p q,(p,q)∈cT (ps.headD w) (ps.tail++[w])->f p*f q<0->f (mt p q)=0/\(0<f p->C p (mt p q))/\(0<f q->C (mt p q) q)) ->
  (0<=f (ps.headD w)->C z (ps.headD w))->(f (ps.headD w)<0->f z=0)->ps≠[] ->
  (∀e∈cT z (c6 f mt ps w),C e.1 e.2)/\(0<=f w->C (bX z (c6 f mt ps w)) w)/\(f w<0->f (bX z (c6 f mt ps w))=0)
 | [],_,_,_,_,_,_,aN=>absurd rfl aN
 | p::r,w,z,aa,ab,aL,bo,_=>by
  have aL:0<=f p->C z p:=aL;have bo:f p<0->f z=0:=bo
  have ay:(p,r.headD w)∈cT p (r++[w]):=by
   cases r with
   | nil=>exact ZJ
   | cons q r=>exact ZJ
  have aa:∀a b,(a,b)∈cT p (r++[w])->0<=f a->0<=f b->C a b:=aa;have ab:∀a b,(a,b)∈cT p (r++[w])->f a*f b<0->f (mt a b)=0/\(0<f a->C a (mt a b))/\(0<f b->C (mt a b) b):=ab
  have step:(∀e∈cT z (kp f p++cH f mt p (r.headD w)),C e.1 e.2)/\(0<=f (r.headD w)->C (bX z (kp f p++cH f mt p (r.headD w))) (r.headD w))/\(f (r.headD w)<0->f (bX z (kp f p++cH f mt p (r.headD w)))=0):=by
   generalize r.headD w=q at ay;by_cases cB:0<=f p
   ·rw[show kp f p=[p] by unfold kp;rw[if_pos cB]];by_cases c:f p*f q<0
    ·rw[kX c];obtain⟨m0,bw,b8⟩:=ab p q ay c
     have mJ:0<f p:=by
      rcases kY c with⟨a,_⟩|⟨a,_⟩
      ·exact a
      ·omega
     have j5:f q<0:=by
      rcases kY c with⟨_,a⟩|⟨a,_⟩
      ·exact a
      ·omega
     refine⟨fun e he=>?_,fun h=>absurd h (by omega),fun _=>m0⟩;rcases Z6.mp he with rfl|he
     ·exact aL cB
     ·rcases Z6.mp he with rfl|he
      ·exact bw mJ
      ·cases he
    ·rw[j0 c];refine⟨fun e he=>?_,fun h=>aa p q ay cB h,fun h=>?_⟩
     ·rcases Z6.mp he with rfl|he
      ·exact aL cB
      ·cases he
     ·show f p=0
      rcases acr cB with a|a
      ·exact absurd (aaj a h) c
      ·exact a.symm
   ·rw[show kp f p=[] by unfold kp;rw[if_neg cB]];have z0:=bo (by omega);by_cases c:f p*f q<0
    ·rw[kX c];obtain⟨m0,bw,b8⟩:=ab p q ay c
     have j5:0<f q:=by
      rcases kY c with⟨a,_⟩|⟨_,a⟩
      ·omega
      ·exact a
     refine⟨fun e he=>?_,fun _=>b8 j5,fun h=>absurd h (by omega)⟩;rcases Z6.mp he with rfl|he
     ·exact a' _ _ z0 m0
     ·cases he
    ·rw[j0 c];refine⟨fun e he=>(by cases he),fun h=>a' _ _ z0 ?_,fun _=>z0⟩;rcases acr h with a|a
     ·exact absurd (by rw[aak];exact aaj a (by omega)) c
     ·exact a.symm
  obtain⟨s1,s2,s3⟩:=step;show(∀e∈cT z (kp f p++cH f mt p (r.headD w)++c6 f mt r w),C e.1 e.2)/\(0<=f w->C (bX z (kp f p++cH f mt p (r.headD w)++c6 f mt r w)) w)/\(f w<0->f (bX z (kp f p++cH f mt p (r.headD w)++c6 f mt r w))=0)
  rw[n0 z (kp f p++cH f mt p (r.headD w)),n1 z (kp f p++cH f mt p (r.headD w))];cases r with
  | nil=>exact⟨fun e he=>by rw[show cT _ (c6 f mt [] w)=[]from rfl,Z']at he;exact s1 e he,s2,s3⟩
  | cons q r =>
   obtain⟨t1,cY,t3⟩:=wg a' (ps:=q::r) (w:=w) (z:=bX z (kp f p++cH f mt p q)) (fun a b hx=>aa a b (ZL _ hx)) (fun a b hx=>ab a b (ZL _ hx)) s2 s3 (by simp);refine⟨fun e he=>?_,cY,t3⟩;rcases aae.mp he with he|he
   ·exact s1 e he
   ·exact t1 e he
theorem A3{a:P3}{r:List P3}{e:P3×P3}:e∈cT a (r++[a])↔e∈da (a::r):=by
 have:da (a::r)=(bX a r,a)::cT a r:=rfl;rw[this,n0];simp[cT,or_comm]
theorem Qu{C:P3->P3->Prop}{ps:List P3}(a':∀u v,f u=0->f v=0->C u v)(o:P3)(aE:f o=0)(aa:∀e∈da ps,0<=f e.1->0<=f e.2->C e.1 e.2)(ab:∀e∈da ps,f e.1*f e.2<0->f (mt e.1 e.2)=0/\(0<f e.1->C e.1 (mt e.1 e.2))/\(0<f e.2->C (mt e.1 e.2) e.2)):
  ∀e∈da (dg f mt ps),C e.1 e.2:=by
 cases ps with
 | nil=>intro e he;cases he
 | cons a r =>
  intro e he;have n:dg f mt (a::r)≠[]:=by intro z;rw[z]at he;cases he
  have g1:∀p q,(p,q)∈cT ((a::r).headD a) ((a::r).tail++[a])->0<=f p->0<=f q->C p q:=fun p q h=>aa (p,q) (A3.mp h);have g2:∀p q,(p,q)∈cT ((a::r).headD a) ((a::r).tail++[a])->f p*f q<0->f (mt p q)=0/\(0<f p->C p (mt p q))/\(0<f q->C (mt p q) q):=fun p q h=>ab (p,q) (A3.mp h);have first:=wg (f:=f) (mt:=mt) (C:=fun u v=>u=o∨C u v) (fun u v bA aP=>.inr (a' u v bA aP)) (ps:=a::r) (w:=a) (z:=o) (fun p q h x y=>.inr (g1 p q h x y)) (fun p q h x=>⟨(g2 p q h x).1,fun y=>.inr ((g2 p q h x).2.1 y),fun y=>.inr ((g2 p q h x).2.2 y)⟩) (fun _=>.inl rfl) (fun _=>aE) (by simp)
  have ai:bX o (c6 f mt (a::r) a)=bX (0,0,1) (dg f mt (a::r)):=qS n;have e':f a<0->f (bX (0,0,1) (dg f mt (a::r)))=0:=fun h=>by rw[<-ai];exact first.2.2 h
  have bz:0<=f a->C (bX (0,0,1) (dg f mt (a::r))) a:=fun h=>by
   by_cases A4:bX o (c6 f mt (a::r) a)=o
   ·-- from Zt start
    have:=wg (f:=f) (mt:=mt) (C:=fun u v=>(u=a/\v=a)∨C u v) (fun u v bA aP=>.inr (a' u v bA aP)) (ps:=a::r) (w:=a) (z:=a) (fun p q h x y=>.inr (g1 p q h x y)) (fun p q h x=>⟨(g2 p q h x).1,fun y=>.inr ((g2 p q h x).2.1 y),fun y=>.inr ((g2 p q h x).2.2 y)⟩) (fun _=>.inl ⟨rfl,rfl⟩) (fun y=>absurd y (show ¬f a<0 by omega)) (by simp);have av:bX a (c6 f mt (a::r) a)=bX (0,0,1) (dg f mt (a::r)):=qS n;rcases this.2.1 h with⟨a4,_⟩|q
    ·rw[av]at a4;rw[a4];rw[ai,a4]at A4;rw[A4];exact a' o o aE aE
    ·rw[<-av];exact q
   ·rcases first.2.1 h with q|q
    ·exact absurd q A4
    ·rw[<-ai];exact q
  exact(wg a' g1 g2 bz e' (by simp)).1 e he
end
end Cut
namespace Cut
open PySem L2 L3
open PySem.Builtin.Int (intBits)
def mK(l:P3)(mt:P3->P3->P3):Prop:=∀p q,ln l p*ln l q<0->gq p q (mt p q)/\ln l (mt p q)=0
theorem qT{l p q:P3}(h:ln l p*ln l q<0):ln l (aX l p q)=0:=by
 unfold aX;by_cases w:0<p.2.2/\0<q.2.2
 ·rw[if_pos w]
  have cS:(crs l (crs p q)).2.2≠0:=by
   rw[show(crs l (crs p q)).2.2=ln l q*p.2.2 + -ln l p*q.2.2 by rw[sX l p q];rfl];rcases kY h with⟨a,b⟩|⟨a,b⟩
   ·have cu:ln l q*p.2.2<0:=by rw[aak];exact aaj w.1 b
    have dn : -ln l p*q.2.2<0:=by rw[aak];exact aaj w.2 (by omega)
    omega
   ·have cu:0<ln l q*p.2.2:=ZK b w.1;have dn:0 < -ln l p*q.2.2:=ZK (by omega) w.2;omega
  obtain⟨g,ba,aC⟩:=i4 cS;have z:ln l (crs l (crs p q))=0:=by rw[show crs l (crs p q)=lc (ln l q) p (-ln l p) q from sX l p q,vU];grind
  rw[aC,AR]at z;rcases aaG.mp z with y|y
  ·exact absurd y ba
  ·exact y
 ·rw[if_neg w];by_cases c:0<ln l q
  ·rw[if_pos c,vU];grind
  ·rw[if_neg c,vU];grind
theorem wi(l:P3):mK l (aX l):=fun _ _ h=>⟨pk h,qT h⟩
def kZ(l:P3):P3:=sc (-1) l
theorem lY(l p:P3):ln (kZ l) p = -ln l p:=by unfold kZ ln sc;dsimp only;grind
theorem mK.ng{l:P3}{mt:P3->P3->P3}(h:mK l mt):mK (kZ l) mt:=fun p q c=>by
 rw[lY,lY,aa5]at c;refine⟨(h p q c).1,?_⟩;rw[lY,(h p q c).2];rfl
theorem mK.meets{l:P3}{mt:P3->P3->P3}(h:mK l mt):Meets (ln l) mt:=fun p q c=>(h p q c).1
theorem gq.ln0{p q m g:P3}(h:gq p q m)(aa:Cut.ln g p=0)(ab:Cut.ln g q=0):Cut.ln g m=0:=by
 obtain⟨s,a,b,aq,ax,af,e⟩:=h;have k:s*Cut.ln g m=a*Cut.ln g p+b*Cut.ln g q:=by rw[<-AR,e,vU]
 rw[aa,ab,aai,aai]at k;rcases aaG.mp k with z|z
 ·omega
 ·exact z
section
variable{l:P3}{mt:P3->P3->P3}{ps:List P3}
theorem wj:∀{z:P3}{r:List P3},r≠[]->∃A,r=A++[bX z r]
 | _,[],h=>absurd rfl h
 | z,[p],_=>⟨[],rfl⟩
 | z,p::q::r,_=>by
  obtain⟨A,e⟩:=wj (z:=p) (r:=q::r) (by simp);exact⟨p::A,congrArg (p :: ·) e⟩
end
def d6(T:P3->P3->Rat)(es:List (P3×P3)):Rat:=(es.map fun e=>T e.1 e.2).sum
theorem hz(T:P3->P3->Rat):d6 T []=0:=rfl
theorem gK(T:P3->P3->Rat)(e:P3×P3)(es:List (P3×P3)):d6 T (e::es)=T e.1 e.2+d6 T es:=by unfold d6;rw[aaa,aaK]
theorem wk(T:P3->P3->Rat):∀es fs:List (P3×P3),d6 T (es++fs)=d6 T es+d6 T fs
 | [],fs=>by rw[aaz,hz];grind
 | e::es,fs=>by rw[aaL,gK,gK,wk T es fs];grind
section
variable{f:P3->Int}{mt:P3->P3->P3}{T:P3->P3->Rat}{V:P3->Prop}
def hX(f:P3->Int)(mt:P3->P3->P3)(T:P3->P3->Rat)(p q:P3):Rat :=
 if 0<=f p then(if 0<=f q then T p q else if f p*f q<0 then T p (mt p q)else 0)else(if f p*f q<0 then T (mt p q) q else 0)
def lZ(f:P3->Int)(T:P3->P3->Rat)(z p:P3):Rat:=if 0<=f p then T z p else 0
theorem wm{z p:P3}(h:0<=f p):lZ f T z p=T z p:=by unfold lZ;rw[if_pos h]
theorem wo{z p:P3}(h:¬0<=f p):lZ f T z p=0:=by unfold lZ;rw[if_neg h]
theorem Qv(a':∀u v,V u->V v->f u=0->f v=0->T u v=0){p q z:P3}(ti:V z)(n2:V q)(hm:f p*f q<0->V (mt p q)/\f (mt p q)=0)(bo:f p<0->f z=0):
  d6 T (cT z (kp f p++cH f mt p q))+lZ f T (bX z (kp f p++cH f mt p q)) q=lZ f T z p+hX f mt T p q/\(f q<0->f (bX z (kp f p++cH f mt p q))=0):=by
 by_cases cB:0<=f p
 ·rw[show kp f p=[p] by unfold kp;rw[if_pos cB],wm cB];by_cases c:f p*f q<0
  ·rw[kX c]
   have j5:¬0<=f q:=by
    rcases kY c with⟨_,a⟩|⟨a,_⟩<;>omega
   have ai:bX z ([p]++[mt p q])=mt p q:=rfl;have av:cT z ([p]++[mt p q])=[(z,p),(p,mt p q)]:=rfl;refine⟨?_,fun _=>by rw[ai];exact(hm c).2⟩;rw[ai,av,wo j5,gK,gK,hz];unfold hX;rw[if_pos cB,if_neg j5,if_pos c];dsimp only;grind
  ·rw[j0 c];have ai:bX z ([p]++[])=p:=rfl;have av:cT z ([p]++[])=[(z,p)]:=rfl;rw[ai,av,gK,hz];refine⟨?_,fun h=>?_⟩
   ·unfold hX;rw[if_pos cB];by_cases n3:0<=f q
    ·rw[wm n3,if_pos n3];dsimp only;grind
    ·rw[wo n3,if_neg n3,if_neg c];dsimp only;grind
   ·rcases acr cB with a|a
    ·exact absurd (aaj a h) c
    ·exact a.symm
 ·rw[show kp f p=[] by unfold kp;rw[if_neg cB],wo cB,aaz];have z0:=bo (by omega);unfold hX;rw[if_neg cB];by_cases c:f p*f q<0
  ·rw[kX c,if_pos c]
   have j5:0<=f q:=by
    rcases kY c with⟨a,_⟩|⟨_,a⟩<;>omega
   have ai:bX z [mt p q]=mt p q:=rfl;have av:cT z [mt p q]=[(z,mt p q)]:=rfl;have t0:T z (mt p q)=0:=a' _ _ ti (hm c).1 z0 (hm c).2;rw[ai,av,gK,hz,wm j5];refine⟨?_,fun h=>absurd h (by omega)⟩;dsimp only;rw[t0];grind
  ·rw[j0 c,if_neg c];have ai:bX z []=z:=rfl;have av:cT z []=[]:=rfl;rw[ai,av,hz];refine⟨?_,fun _=>z0⟩;by_cases n3:0<=f q
   ·have fm:f q=0:=by
     rcases acr n3 with a|a
     ·exact absurd (by rw[aak];exact aaj a (by omega)) c
     ·exact a.symm
    rw[wm n3,a' _ _ ti n2 z0 fm]
   ·rw[wo n3]
theorem A5(a':∀u v,V u->V v->f u=0->f v=0->T u v=0)(hm:∀p q,V p->V q->f p*f q<0->V (mt p q)/\f (mt p q)=0):∀{ps:List P3}{w z:P3},(∀p∈ps,V p)->V w->V z->(f (ps.headD w)<0->f z=0)->ps≠[] ->
  d6 T (cT z (c6 f mt ps w))+lZ f T (bX z (c6 f mt ps w)) w=lZ f T z (ps.headD w)+d6 (hX f mt T) (cT (ps.headD w) (ps.tail++[w]))/\(f w<0->f (bX z (c6 f mt ps w))=0)
 | [],_,_,_,_,_,_,aN=>absurd rfl aN
 | p::r,w,z,aP,Gk,ti,bo,_=>by
  have bo:f p<0->f z=0:=bo;have qU:=aP p ZJ
  have n2:V (r.headD w):=by
   cases r with
   | nil=>exact Gk
   | cons q r=>exact aP q (by simp)
  obtain⟨s1,s2⟩:=Qv (f:=f) (mt:=mt) (T:=T) (V:=V) a' ti n2 (hm p _ qU n2) bo;show d6 T (cT z (kp f p++cH f mt p (r.headD w)++c6 f mt r w))+lZ f T (bX z (kp f p++cH f mt p (r.headD w)++c6 f mt r w)) w=lZ f T z p+d6 (hX f mt T) (cT p (r++[w]))/\(f w<0->f (bX z (kp f p++cH f mt p (r.headD w)++c6 f mt r w))=0)
  rw[n0 z (kp f p++cH f mt p (r.headD w)),n1 z (kp f p++cH f mt p (r.headD w)),wk]
  have jO:V (bX z (kp f p++cH f mt p (r.headD w))):=by
   by_cases cB:0<=f p
   ·rw[show kp f p=[p] by unfold kp;rw[if_pos cB]];by_cases c:f p*f (r.headD w)<0
    ·rw[kX c];exact(hm _ _ qU n2 c).1
    ·rw[j0 c];exact qU
   ·rw[show kp f p=[] by unfold kp;rw[if_neg cB]];by_cases c:f p*f (r.headD w)<0
    ·rw[kX c];exact(hm _ _ qU n2 c).1
    ·rw[j0 c];exact ti
  cases r with
  | nil =>
   have ea:cT (bX z (kp f p++cH f mt p (([]:List P3).headD w))) (c6 f mt [] w)=[]:=rfl;have ai:cT p ([]++[w])=[(p,w)]:=rfl;have av:([]:List P3).headD w=w:=rfl;have bG:bX (bX z (kp f p++cH f mt p (([]:List P3).headD w))) (c6 f mt [] w)=bX z (kp f p++cH f mt p w):=rfl;rw[ea,ai,bG,hz,gK,hz];rw[av]at s1 s2 ⊢;refine⟨?_,s2⟩;dsimp only;grind
  | cons q r =>
   obtain⟨t1,cY⟩:=A5 a' hm (ps:=q::r) (w:=w) (z:=bX z (kp f p++cH f mt p q)) (fun x aB=>aP x (ZL _ aB)) Gk jO s2 (by simp);refine⟨?_,cY⟩;have ai:cT p (q::r++[w])=(p,q)::cT q (r++[w]):=rfl;have av:(q::r).headD w=q:=rfl;have bG:(q::r).tail=r:=rfl;rw[ai,gK];rw[av,bG]at t1;rw[av]at s1 ⊢;dsimp only;grind
theorem A6(T:P3->P3->Rat)(a:P3)(r:List P3):d6 T (cT a (r++[a]))=d6 T (da (a::r)):=by
 have:da (a::r)=(bX a r,a)::cT a r:=rfl;rw[this,n0,wk,gK];have:cT (bX a r) [a]=[(bX a r,a)]:=rfl;rw[this,gK,hz];dsimp only;grind
theorem Gl(a':∀u v,V u->V v->f u=0->f v=0->T u v=0)(hm:∀p q,V p->V q->f p*f q<0->V (mt p q)/\f (mt p q)=0)(o:P3)(Qw:V o)(aE:f o=0){ps:List P3}(aP:∀p∈ps,V p):
  d6 T (da (dg f mt ps))=d6 (hX f mt T) (da ps):=by
 cases ps with
 | nil=>rfl
 | cons a r =>
  have A7:=aP a ZJ;have first:=A5 a' hm (ps:=a::r) (w:=a) (z:=o) aP A7 Qw (fun _=>aE) (by simp)
  have ai:(a::r).headD a=a:=rfl;have av:(a::r).tail=r:=rfl;rw[ai,av,A6]at first
  by_cases n:dg f mt (a::r)=[]
  ·have n':c6 f mt (a::r) a=[]:=n;rw[n']at first
   have bG:cT o []=[]:=rfl;have c4:bX o []=o:=rfl;rw[bG,c4,hz]at first
   rw[n];have eL:da []=[]:=rfl;rw[eL,hz];have:=first.1
   grind
  ·have bG:bX o (c6 f mt (a::r) a)=bX (0,0,1) (dg f mt (a::r)):=qS n;have e':f a<0->f (bX (0,0,1) (dg f mt (a::r)))=0:=fun h=>by rw[<-bG];exact first.2 h
   have jO:V (bX (0,0,1) (dg f mt (a::r))):=by
    rcases pl (A2 (z:=(0,0,1)) n)with⟨h,_⟩|⟨p,ag,q,ay,c,e⟩
    ·exact aP _ h
    ·rw[e];exact(hm p q (aP p ag) (aP q ay) c).1
   have snd:=A5 a' hm (ps:=a::r) (w:=a) (z:=bX (0,0,1) (dg f mt (a::r))) aP A7 jO e' (by simp);rw[ai,av,A6]at snd;have c4:bX (bX (0,0,1) (dg f mt (a::r))) (c6 f mt (a::r) a)=bX (0,0,1) (dg f mt (a::r)):=qS n;rw[c4]at snd;have:=snd.1;show d6 T (cT (bX (0,0,1) (dg f mt (a::r))) (c6 f mt (a::r) a))=_
   grind
theorem Gm{T1 T2 Gn:P3->P3->Rat}:∀{es:List (P3×P3)},(∀e∈es,T1 e.1 e.2+T2 e.1 e.2=Gn e.1 e.2)->d6 T1 es+d6 T2 es=d6 Gn es
 | [],_=>by rw[hz,hz,hz];grind
 | e::es,h=>by
  have aa:=h e ZJ;have ab:=Gm (es:=es) fun e he=>h e (ZL _ he);rw[gK,gK,gK];grind
theorem Qx(a':∀u v,V u->V v->f u=0->f v=0->T u v=0){p q:P3}(qU:V p)(n2:V q)(hm:f p*f q<0->T p (mt p q)+T (mt p q) q=T p q):hX f mt T p q+hX (fun c => -f c) mt T p q=T p q:=by
 have j1:(-f p)*(-f q)=f p*f q:=aa5 _ _;unfold hX;dsimp only;rw[j1];rcases aa4 (f p) 0 with a|a|a
 ·rw[if_neg (show ¬0<=f p by omega),if_pos (show 0 <= -f p by omega)];rcases aa4 (f q) 0 with b|b|b
  ·have c:¬f p*f q<0:=by have:=abA a b;omega
   rw[if_neg c,if_pos (show 0 <= -f q by omega)];grind
  ·have c:¬f p*f q<0:=by rw[b,aai];omega
   rw[if_neg c,if_pos (show 0 <= -f q by omega)];grind
  ·have c:f p*f q<0:=by rw[aak];exact aaj b a
   rw[if_pos c,if_neg (show ¬0 <= -f q by omega),if_pos c];have:=hm c;grind
 ·have c:¬f p*f q<0:=by rw[a,aa3];omega
  rw[if_pos (show 0<=f p by omega),if_pos (show 0 <= -f p by omega),if_neg c];rcases aa4 (f q) 0 with b|b|b
  ·rw[if_neg (show ¬0<=f q by omega),if_pos (show 0 <= -f q by omega)];grind
  ·rw[if_pos (show 0<=f q by omega),if_pos (show 0 <= -f q by omega)];have:=a' p q qU n2 a b;grind
  ·rw[if_pos (show 0<=f q by omega),if_neg (show ¬0 <= -f q by omega)];grind
 ·rw[if_pos (show 0<=f p by omega),if_neg (show ¬0 <= -f p by omega)];rcases aa4 (f q) 0 with b|b|b
  ·have c:f p*f q<0:=aaj a b;rw[if_neg (show ¬0<=f q by omega),if_pos c,if_pos c];exact hm c
  ·have c:¬f p*f q<0:=by rw[b,aai];omega
   rw[if_pos (show 0<=f q by omega),if_neg c];grind
  ·have c:¬f p*f q<0:=by have:=ZK a b;omega
   rw[if_pos (show 0<=f q by omega),if_neg c];grind
theorem A8(a':∀u v,V u->V v->f u=0->f v=0->T u v=0):∀{es:List (P3×P3)},(∀e∈es,V e.1/\V e.2/\f e.1<=0/\f e.2<=0)->d6 (hX f mt T) es=0
 | [],_=>rfl
 | e::es,h=>by
  obtain⟨v1,v2,cu,dn⟩:=h e ZJ;have c3:=A8 a' (es:=es) fun e he=>h e (ZL _ he);rw[gK,c3];have c:¬f e.1*f e.2<0:=by have:=acs cu dn;omega
  have:hX f mt T e.1 e.2=0:=by
   unfold hX;rw[if_neg c,if_neg c];by_cases a:0<=f e.1
   ·rw[if_pos a];by_cases b:0<=f e.2
    ·rw[if_pos b];exact a' _ _ v1 v2 (by omega) (by omega)
    ·rw[if_neg b]
   ·rw[if_neg a]
  rw[this];grind
end
def hA(p:P3):Rat:=(p.1:Rat)/(p.2.2:Rat)
def hB(p:P3):Rat:=(p.2.1:Rat)/(p.2.2:Rat)
theorem dI{x:Int}(h:0<x):(x:Rat)≠0:=fun z=>by
 have:=Rat.intCast_eq_zero_iff.mp z;omega
theorem A9{p q m:P3}(h:gq p q m)(ag:0<p.2.2)(ay:0<q.2.2)(hm:0<m.2.2):∃a b:Rat,a+b=1/\hA m=a*hA p+b*hA q/\hB m=a*hB p+b*hB q:=by
 obtain⟨s,a,b,aq,ax,af,e⟩:=h;have ai:s*m.1=a*p.1+b*q.1:=congrArg (fun x:P3=>x.1) e;have av:s*m.2.1=a*p.2.1+b*q.2.1:=congrArg (fun x:P3=>x.2.1) e;have bG:s*m.2.2=a*p.2.2+b*q.2.2:=congrArg (fun x:P3=>x.2.2) e;have s0:=dI aq;have m0:=dI hm;have n4:=dI ag;have fm:=dI ay;have f1:(s:Rat)*m.1=a*p.1+b*q.1:=by rw[<-abe,ai,ac4,abe,abe]
 have f2:(s:Rat)*m.2.1=a*p.2.1+b*q.2.1:=by rw[<-abe,av,ac4,abe,abe]
 have bO:(s:Rat)*m.2.2=a*p.2.2+b*q.2.2:=by rw[<-abe,bG,ac4,abe,abe]
 unfold hA hB;generalize(s:Rat)=s' at *;generalize(a:Rat)=eI at *;generalize(b:Rat)=b' at *;generalize(m.1:Rat)=bw at *;generalize(m.2.1:Rat)=b8 at *;generalize(m.2.2:Rat)=jT at *;generalize(p.1:Rat)=cQ at *;generalize(p.2.1:Rat)=c5 at *;generalize(p.2.2:Rat)=o9 at *;generalize(q.1:Rat)=a4 at *;generalize(q.2.1:Rat)=bS at *;generalize(q.2.2:Rat)=fC at *;refine⟨eI*o9/(s'*jT),b'*fC/(s'*jT),?_,?_,?_⟩<;>grind
theorem Gp(h:P3->Rat):∀(z:P3)(L:List P3),d6 (fun p q=>h p-h q) (cT z L)=h z-h (bX z L)
 | z,[]=>by rw[show cT z []=[]from rfl,hz,show bX z []=z from rfl];grind
 | z,p::L=>by
  rw[show cT z (p::L)=(z,p)::cT p L from rfl,gK,Gp h p L,show bX z (p::L)=bX p L from rfl];dsimp only;grind
open Classical in
noncomputable def keepR(f:P3->Int)(mt:P3->P3->P3)(ps:List P3):List P3:=if ∃c∈ps,0<f c then dg f mt ps else[]
end Cut
namespace L3
open PySem L2
section
variable{X:aM}{e:Expr}{u:a7}{pos:Pos}
def Qy(i:Nat)(u:a7):cI:=fun U ρ=>∃m,ρ[i]?=some (.val (.int m))/\u ρ fun d=>∃n,d=.int n/\U.nx (ρ.set i (.val (.int (m+n))))
theorem Qz{i:Nat}{x:Str}{pos':Pos}(bD:X.N.Nodup)(aD:X.N[i]?=some x)(aB:Loc X.env.scope x)(he:br X e u)(hf:X.fn x=true∨X.env.scope.names.lookup x=some .local:=by first|exact .inl rfl|exact .inr rfl|assumption):
  e7 X (.AugAssign (.Name x pos') .Add e pos) (Qy i u):=by
 obtain⟨_,aa,ar⟩:=he;refine⟨_,KC bD aD aB aa KI hf,fun U ρ h R W B H σ D e s=>?_⟩;obtain⟨m,hm,h⟩:=h;obtain⟨v,aP,b3⟩:=e.val hm;refine⟨v,aP,?_⟩;refine ar ρ _ h R W B H σ _ e fun d w a0 H1 z1 ai g1 s1=>?_;obtain⟨n,rfl,z⟩:=z1;exact⟨m,n,b3.intV,s1.intV,s.nx _ _ a0 H1 z (ai.setV i (.int _)) g1⟩
end
theorem Gr{a b c:Nat}{s:cI}{U:fW}(I:List Cut.Piece->List aH->Prop):∀{sh done:List Cut.Piece}{ρ:List aH},I done ρ ->
  (∀pre x rest ρ,done++sh=pre++x::rest->I pre ρ->∀N:List aH->Prop,(∀r,I (pre++[x]) r->N r)->s { U with nx:=N,ct:=N,bk:=U.nx } (((ρ.set a (.new (.lst (x.1.map Cut.dP)))).set b (.val (.bl x.2.1))).set c (.val (Cut.dP x.2.2)))) ->
  (∀ρ,I (done++sh) ρ->U.nx ρ)->forR (mz 3 (g7 (AZ a) (g7 (tg b) (g7 (tg c) my)))) s U (sh.map Cut.dS) ρ
 | [],done,ρ,h0,_,ab=>ab ρ (by rw[Z'];exact h0)
 | x::sh,done,ρ,h0,aa,ab=>by
  refine⟨_,rfl,rfl,_,_,rfl,_,_,rfl,rfl,_,_,rfl,rfl,rfl,?_⟩;refine aa done x sh ρ rfl h0 _ fun r ak=>?_;refine Gr I ak (fun pre y rest ρ e=>aa pre y rest ρ (by rw[<-e];simp)) fun ρ h=>ab ρ ?_;have e:done++[x]++sh=done++x::sh:=by simp
  rw[<-e];exact h
end L3
namespace Cut
open PySem L2 L3
open PySem.Builtin.Int (intBits)
noncomputable def cn(f:P3->Int)(mt:P3->P3->P3)(sh:List Piece):List Piece:=(sh.map fun s=>(keepR f mt s.1,s.2)).filter fun s => !s.1.isEmpty
theorem tj{f:P3->Int}{mt:P3->P3->P3}(a b:List Piece):cn f mt (a++b)=cn f mt a++cn f mt b:=by unfold cn;rw[Z7,abZ]
theorem wq{f:P3->Int}{mt:P3->P3->P3}{s:Piece}(h:(keepR f mt s.1).isEmpty=false):cn f mt [s]=[(keepR f mt s.1,s.2)]:=by unfold cn;simp[h]
theorem wt{f:P3->Int}{mt:P3->P3->P3}{s:Piece}(h:(keepR f mt s.1).isEmpty=true):cn f mt [s]=[]:=by unfold cn;simp[h]
theorem l0{f:P3->Int}{mt:P3->P3->P3}(sh:List Piece):(cn f mt sh).length<=sh.length:=by
 unfold cn;refine Gq (acu _ _) ?_;rw[Zf];exact Zg _
theorem tk{f:P3->Int}{mt:P3->P3->P3}{sh:List Piece}{s:Piece}(h:s∈cn f mt sh):∃t∈sh,s=(dg f mt t.1,t.2)/\∃c∈t.1,0<f c:=by
 unfold cn at h;obtain⟨aa,ab⟩:=abt.mp h;obtain⟨t,bB,rfl⟩:=Z9.mp aa;refine⟨t,bB,?_⟩;unfold keepR at ab ⊢;split at ab
 ·rename_i c;rw[if_pos c];exact⟨rfl,c⟩
 ·simp at ab
theorem Gs:∀(z:P3)(L:List P3)(k:Nat),k<L.length->(cT z L)[k]?=some (bu (z::L) k,bu L k)
 | _,[],_,h=>absurd h (by simp)
 | z,p::L,0,_=>rfl
 | z,p::L,k+1,h=>by
  have:=Gs p L k (by simpa using h);simpa[cT,Fz]using this
theorem A':∀(z:P3)(L:List P3),(cT z L).length=L.length
 | _,[]=>rfl
 | z,p::L=>by simp[cT,A' p L]
theorem wu:∀(z:P3)(L:List P3),L≠[]->bX z L=bu L (L.length-1)
 | _,[],h=>absurd rfl h
 | z,[p],_=>rfl
 | z,p::q::L,_=>by
  have:=wu p (q::L) (by simp);show bX p (q::L)=_
  rw[this];rfl
theorem wx(ps:List P3):da ps=(aau ps.length).map fun k=>(bu ps ((k+ps.length-1)%ps.length),bu ps k):=by
 apply abJ;intro k;by_cases h:k<ps.length
 ·have aN:ps≠[]:=by rintro rfl;simp at h
  rw[aag,ack h];unfold da;rw[Gs _ _ _ h];simp only[abW];congr 2;cases k with
  | zero =>
   rw[PL,wu _ _ aN,aa2,aar (by omega)]
  | succ k =>
   rw[Fz,show k+1+ps.length-1=k+ps.length by omega,abO,aar (by omega)]
 ·rw[aaF (by unfold da;rw[A'];omega),aaF (by simp;omega)]
end Cut
namespace Cut
open PySem L2 L3
theorem Gu(h:P3->Int):∀ps:List P3,flats (ps.map fun c=>D.int (h c))=true
 | []=>rfl
 | p::r=>by
  rw[aaa,flats,Gu h r];rfl
theorem wy{f:P3->Int}{mt:P3->P3->P3}{ps:List P3}(h:∃c∈ps,0<f c):keepR f mt ps=dg f mt ps:=by unfold keepR;rw[if_pos h]
theorem Ba{f:P3->Int}{mt:P3->P3->P3}{ps:List P3}(h:¬∃c∈ps,0<f c):keepR f mt ps=[]:=by unfold keepR;rw[if_neg h]
theorem wz{l:P3}{ps:List P3}:(∃c∈ps,0<(fun c => -ln l c) c)↔∃c∈ps,ln l c<0 :=
 ⟨fun⟨c,h,z⟩=>⟨c,h,by have z:0 < -ln l c:=z;omega⟩,fun⟨c,h,z⟩=>⟨c,h,by show 0 < -ln l c;omega⟩⟩
end Cut
namespace L3
open PySem L2
theorem Bb{α:Type}{f h:α->D}{P:α->Bool}{ut:dA}{u:a7}{fs:List aH}:∀{rs:List α}{v0:aH}{k:List D->Prop},(∀r∈rs,∀k:Bool->Prop,k (P r)->ut (.val (f r)::fs) k)->(∀r∈rs,∀k:D->Prop,k (h r)->u (.val (f r)::fs) k)->k ((rs.filter P).map h)->gS (gi 0) ut u (rs.map f) (v0::fs) k
 | [],_,_,_,_,ah=>ah
 | r::rs,v0,k,aa,ab,ah=>by
  refine aa r ZJ _ ?_;cases c:P r with
  | true =>
   rw[if_pos rfl];refine ab r ZJ _ ?_;refine Bb (P:=P) (fun x aB=>aa x (ZL _ aB)) (fun x aB=>ab x (ZL _ aB)) ?_;rw[adG c]at ah;exact ah
  | false =>
   rw[if_neg aal];refine Bb (P:=P) (fun x aB=>aa x (ZL _ aB)) (fun x aB=>ab x (ZL _ aB)) ?_;rw[adH (by rw[c];decide)]at ah;exact ah
end L3
namespace Cut
open PySem L2 L3
open PySem.Builtin.Int (intBits)
theorem QA{ps:List P3}{i:Nat}(h:i<ps.length):(da ps).take (i+1)=(da ps).take i++[(bu ps ((i+ps.length-1)%ps.length),bu ps i)]:=by
 rw[List.take_succ,wx,aag,ack h];rfl
theorem QB(ps:List P3):(da ps).take ps.length=da ps:=acU (by unfold da;rw[A'];exact Zg _)
theorem n5(p q:P3):ln (crs p q) p=0:=by show bb p q p=0;unfold bb crs;grind
theorem Gv{f:P3->Int}{mt:P3->P3->P3}{x:P3}:∀{ps:List P3}{w:P3},x∈c6 f mt ps w->(x∈ps/\0<=f x)∨∃e∈cT (ps.headD w) (ps.tail++[w]),f e.1*f e.2<0/\x=mt e.1 e.2
 | [],_,h=>by cases h
 | p::r,w,h=>by
  have h:x∈kp f p++cH f mt p (r.headD w)++c6 f mt r w:=h;rcases aae.mp h with h|h
  ·rcases aae.mp h with h|h
   ·unfold kp at h;split at h
    ·rename_i z
     rw[aac.mp h];exact .inl ⟨ZJ,z⟩
    ·cases h
   ·unfold cH at h;split at h
    ·rename_i z
     refine .inr ⟨(p,r.headD w),?_,z,aac.mp h⟩;cases r<;>exact ZJ
    ·cases h
  ·rcases Gv h with⟨aa,ab⟩|⟨e,aa,ab⟩
   ·exact .inl ⟨ZL _ aa,ab⟩
   ·refine .inr ⟨e,?_,ab⟩;cases r with
    | nil=>cases h
    | cons q r=>exact ZL _ aa
theorem QC{f:P3->Int}{mt:P3->P3->P3}{x:P3}{ps:List P3}(h:x∈dg f mt ps):(x∈ps/\0<=f x)∨∃e∈da ps,f e.1*f e.2<0/\x=mt e.1 e.2:=by
 cases ps with
 | nil=>cases h
 | cons a r =>
  rcases Gv h with h|⟨e,aa,ab⟩
  ·exact .inl h
  ·exact .inr ⟨e,A3.mp aa,ab⟩
structure wA (b m:Nat) (ps:List P3):Prop where
 pts:∀x∈ps,c' b x
 lin:∀e∈da ps,∃g:P3,cm m g/\(g.1≠0∨g.2.1≠0∨g.2.2≠0)/\ln g e.1=0/\ln g e.2=0
theorem par{g u v:P3}(aC:g.1≠0∨g.2.1≠0∨g.2.2≠0)(bA:ln g u=0)(aP:ln g v=0)(n:(crs u v).1≠0∨(crs u v).2.1≠0∨(crs u v).2.2≠0):∃a b:Int,a≠0/\b≠0/\sc a (crs u v)=sc b g:=by
 have t:crs g (crs u v)=lc (ln g v) u (-ln g u) v:=sX g u v;rw[bA,aP]at t;generalize crs u v=w at *
 have t1:g.2.1*w.2.2-g.2.2*w.2.1=0:=by
  have:=congrArg (fun x:P3=>x.1) t;unfold crs lc at this;dsimp only at this;grind
 have cY:g.2.2*w.1-g.1*w.2.2=0:=by
  have:=congrArg (fun x:P3=>x.2.1) t;unfold crs lc at this;dsimp only at this;grind
 have t3:g.1*w.2.1-g.2.1*w.1=0:=by
  have:=congrArg (fun x:P3=>x.2.2) t;unfold crs lc at this;dsimp only at this;grind
 have iU:∀{x y:Int},x≠0->x*y=0->y=0:=fun h e=>(aaG.mp e).resolve_left h;rcases aC with h|h|h
 ·refine⟨g.1,w.1,h,fun z=>?_,?_⟩
  ·rw[z]at cY t3;have a:=iU h (show g.1*w.2.2=0 by grind);have b:=iU h (show g.1*w.2.1=0 by grind);rcases n with n|n|n<;>contradiction
  ·unfold sc;refine ee ?_ ?_ ?_<;>dsimp only<;>grind
 ·refine⟨g.2.1,w.2.1,h,fun z=>?_,?_⟩
  ·rw[z]at t1 t3;have a:=iU h (show g.2.1*w.2.2=0 by grind);have b:=iU h (show g.2.1*w.1=0 by grind);rcases n with n|n|n<;>contradiction
  ·unfold sc;refine ee ?_ ?_ ?_<;>dsimp only<;>grind
 ·refine⟨g.2.2,w.2.2,h,fun z=>?_,?_⟩
  ·rw[z]at t1 cY;have a:=iU h (show g.2.2*w.2.1=0 by grind);have b:=iU h (show g.2.2*w.1=0 by grind);rcases n with n|n|n<;>contradiction
  ·unfold sc;refine ee ?_ ?_ ?_<;>dsimp only<;>grind
theorem Gw(c:Int)(p q:P3):crs p (sc c q)=sc c (crs p q):=by
 refine ee ?_ ?_ ?_<;>simp only[crs,sc]<;>grind
theorem QD{l w g:P3}{a b:Int}(ax:a≠0)(af:b≠0)(e:sc a w=sc b g)(n:(crs l w).2.2≠0):(crs l g).2.2≠0/\nP (crs l w)=nP (crs l g):=by
 have ai:sc a (crs l w)=sc b (crs l g):=by rw[<-Gw,e,Gw]
 have aL:a*(crs l w).2.2=b*(crs l g).2.2:=congrArg (fun x:P3=>x.2.2) ai
 have dn:(crs l g).2.2≠0:=fun z=>by
  rw[z,aai]at aL;rcases aaG.mp aL with y|y<;>contradiction
 refine⟨dn,?_⟩;obtain⟨c,ha,hc⟩:=i4 dn;have av:sc a (crs l w)=sc (b*c) (nP (crs l g)):=by rw[ai,<-E2,<-hc]
 exact(qG ax (fun z=>by rcases aaG.mp z with y|y<;>contradiction) (fh dn) av).2
theorem eQ.sl{g:P3}{ps:List P3}(aC:aR g)(ag:∀p∈ps,aR p)(h:eQ ps):eQ (ps.map fun p=>nP (sld g p)):=h.map fun p q r a b c=>(Ph aC.1).side (ag p a).1 (ag q b).1 (ag r c).1
end Cut
namespace L3
open PySem L2
section
variable{K:PySem.W.Frag}{X:aM}{pos p:Pos}{bE:Expr}
theorem jk.rng2{B:ao}(s8:Int)(n:Nat):jk K B (p7 s8 n) ((aau n).map fun i:Nat=>D.int (s8+i)):=by
 intro H s i;rw[Zf,acj];refine⟨fun aD=>aD,fun aD=>aD,fun x H' aD ⟨ai,av⟩=>⟨ai,?_⟩⟩;refine⟨.int (s8+i),?_,?_⟩
 ·rw[aag,ack aD];rfl
 ·rw[av];exact .int _
def QF(u dY:a7):cO:=fun ρ k=>u ρ fun d=>dY ρ fun b1=>∃i j,d=.int i/\b1=.int j/\(-(2^62)<=i/\i<2^62 /\ -(2^62)<=j/\j<2^62)/\k ((aau (j-i).toNat).map fun t:Nat=>D.int (i+t))
theorem QG{a b:Expr}{u dY:a7}(ax:br X a u)(af:br X b dY)(aC:eB X "range")(hm:X.mg "range"=none)(aq:starEach [a,b] X.env=[(false,eval a X.env),(false,eval b X.env)]:=by rfl)(jL:starEach [b] X.env=[(false,eval b X.env)]:=by rfl):lH X bE (.Call (.Name "range" p) [a,b] [] pos) (QF u dY):=by
 obtain⟨_,aa,ar⟩:=ax;obtain⟨_,ab,aF⟩:=af;refine⟨_,KX aC hm (eh aa (eh ab fD (by rw[jL];rfl)) (by rw[aq,jL])) aq jL,fun ρ k h R W B H σ Q e q=>?_⟩;refine ar ρ _ h R W B H σ _ e fun d v a0 H1 z1 ai g1 s1=>?_;refine aF ρ _ z1 R W a0 H1 σ _ ai fun b1 v2 bH a3 aQ av g2 s2=>?_;obtain⟨i,j,rfl,rfl,QH,z⟩:=aQ;exact⟨i,j,by rw[s1.intV,s2.intV],QH,q _ _ bH a3 z av (g1.trans g2) (jk.rng2 _ _)⟩
end
section
variable{P:Program}{w:World}{A:Around}{E:Value->Shared->Prop}{s:Shared}
inductive hY (h:Heap):List (List Int)->List Value->Prop
 | nil:hY h [] []
 | cons {l:List Int} {a:Addr} {ks:List (List Int)} {us:List Value} (k:IsTupleKey (intKind P w) h l a) (r:hY h ks us):hY h (l::ks) (.ref a::us)
def iJ(P:Program)(w:World)(h:Heap)(ks:List (List Int))(a:Addr):Prop:=∃cK us n,h.get? a=some cK/\cK.cls=.type "tuple"/\cK.data=.seq us n/\hY (P:=P) (w:=w) h ks us.toList
theorem hY.inj2{h:Heap}{us:List Value}:∀{x y:List (List Int)},hY (P:=P) (w:=w) h x us->hY (P:=P) (w:=w) h y us->x=y:=by
 intro x y p;induction p generalizing y with
 | nil=>intro q;cases q;rfl
 | cons k r c3 =>
  intro q;cases q with
  | cons k' du=>rw[k.inj k',c3 du]
theorem iJ.ty{ks:List (List Int)}{a:Addr}(x:iJ P w s.heap ks a):s.TypeIs (.ref a) "tuple":=let⟨cK,_,_,aa,ab,_⟩:=x;⟨cK,aa,ab⟩
theorem iJ.inj2{h:Heap}{a:Addr}{x y:List (List Int)}(p:iJ P w h x a)(q:iJ P w h y a):x=y:=by
 obtain⟨kU,dj,cu,a1,_,aG,bL⟩:=p;obtain⟨kW,dY,dn,a2,_,aJ,b1⟩:=q;rw[a1]at a2;cases a2;rw[aG]at aJ;cases aJ;exact bL.inj2 b1
theorem hY.keep{h h':Heap}{d:Addr}{cK:Obj}{es:Array DictEntry}{bq:Nat}(aE:h.get? d=some cK)(hd:cK.data=.dict es bq)(aq:Heap.SameBut d h h'):∀{ks:List (List Int)}{us:List Value},hY (P:=P) (w:=w) h ks us->hY (P:=P) (w:=w) h' ks us
 | _,_,.nil=>.nil
 | _,_,.cons k r=>.cons (k.keeps aE hd aq) (hY.keep aE hd aq r)
theorem iJ.keep{h h':Heap}{ks:List (List Int)}{a d:Addr}{cK:Obj}{es:Array DictEntry}{bq:Nat}(x:iJ P w h ks a)(aE:h.get? d=some cK)(hd:cK.data=.dict es bq)(aq:Heap.SameBut d h h'):iJ P w h' ks a:=by
 obtain⟨kU,dj,cu,a1,a9,aG,bL⟩:=x;refine⟨kU,dj,cu,?_,a9,aG,bL.keep aE hd aq⟩
 have ne:a≠d:=by
  rintro rfl;rw[aE]at a1;cases a1;rw[hd]at aG;cases aG
 exact(aq.2 a ne).trans a1
def wB(ks:List (List Int)):Nat:=(ks.map fun l=>l.length+1).sum+1
theorem QI{ks:List (List Int)}{a:Addr}{Q:Int->Shared->Prop}(bA:A.units+3<cLine)(ah:iJ P w s.heap ks a)(h:Q (nr true ks) { s with toks:=s.toks+wB ks }):wpAny (model P w) A (pyHash (.ref a)) Q E s:=by
 have eb:=ah.ty;obtain⟨cK,us,n,aa,_,aL,bo⟩:=ah;unfold pyHash
 first|unfold pyHashByItsType|skip
 first|refine wpAny_bind (wpAny_cRoomFor_or (.inr (by omega)) ?_)|skip
 refine wpAny_bind (wpAny_specialOf eb F.slot_tuple_hash.lookup ?_);show wpAny (model P w) A (if(some (Value.builtin "tuple.__hash__")==some Value.none)=true then _ else _) Q E s
 rw[if_neg (by rw[beq_builtin_none];exact aal)];refine wpAny_bind (wpAny_specialOf eb F.slot_tuple_hash.lookup ?_);show wpAny (model P w) A (callSpecialIfBoundUnlessNone? (.ref a) "__hash__" _ >>= _) Q E s
 refine wpAny_bind (wpAny_callSpecialIfBoundUnlessNone?_slot eb F.slot_tuple_hash (wpAny_call_entry F.slot_tuple_hash eb F.entry_tuple_hash ?_ (F.args_tuple_hash_1 _)));show wpAny (model P w) _ (Builtin.Tuple.tupleItemsOf (.ref a) >>= _) _ _ s
 refine wpAny_bind (wpAny_tupleItemsOf aa aL ?_);refine wpAny_bind ?_;rw[<-ac5]
 refine wpAny_forIn_list _
  (fun rest (b:Array Int) s'=>∃done left,ks=done++left/\hY (P:=P) (w:=w) s.heap left rest/\b.toList=done.map (fun l=>reduceHash (Builtin.Tuple.tupleHashOf (l.map hashInt)))/\s'={ s with toks:=s.toks+(done.map fun l=>l.length+1).sum })
  _ ?_ ?_ _ _ ⟨[],ks,rfl,bo,rfl,rfl⟩
 ·rintro x rest b s' ⟨done,left,rfl,aj,af,rfl⟩;cases aj with
  | @cons l c ih _ bY ar =>
   have fin:∃qV lf,done++l::ih=qV++lf/\hY (P:=P) (w:=w) s.heap lf rest/\(b.push (reduceHash (Builtin.Tuple.tupleHashOf (l.map hashInt)))).toList=qV.map (fun l=>reduceHash (Builtin.Tuple.tupleHashOf (l.map hashInt))) /\
     ({ s with toks:=s.toks+(done.map fun l=>l.length+1).sum+(l.length+1) }:Shared)={ s with toks:=s.toks+(qV.map fun l=>l.length+1).sum }:=⟨done++[l],ih,by simp,ar,by simp[af],by simp[ac6]⟩
   refine wpAny_bind (wpAny_pyHash_tuple (s:={ s with toks:=s.toks+(done.map fun l=>l.length+1).sum }) (by show A.units+_<cLine;omega) bY ?_)
   first
    | exact wpAny_pure fin
    | exact wpAny_bind (wpAny_pure (wpAny_pure fin))
 ·rintro b s' ⟨done,left,rfl,aj,af,rfl⟩;cases aj;rw[Z']at h;show wpAny (model P w) _ (retInt (Builtin.Tuple.tupleHashOf b.toList)) _ _ _
  rw[af];refine wpAny_ret_mkInt ?_;generalize a':Builtin.Tuple.tupleHashOf (done.map fun l=>reduceHash (Builtin.Tuple.tupleHashOf (l.map hashInt)))=z;have av:nr true done=reduceHash z:=by rw[<-a'];rfl
  rw[av]at h;show wpAny (model P w) _ (if(decide (-(2:Int)^63<=z)&&decide (z<2^63))=true then _ else _) Q E _
  unfold reduceHash at h;by_cases ak:(decide (-(2:Int)^63<=z)&&decide (z<2^63))=true
  ·rw[if_pos ak];rw[if_pos ak]at h;exact wpAny_pure (by simpa[ac6,wB]using h)
  ·rw[if_neg ak];rw[if_neg ak]at h;exact wpAny_bind (wpAny_rule (wpAny_pure (by simpa[ac6,wB]using h)))
theorem QJ{x y:List (List Int)}{a b:Addr}{R:PySem.Fin->Shared->Prop}(bA:A.units+2<cLine)(aB:iJ P w s.heap x a)(a5:iJ P w s.heap y b)(h:R (.done (.ret (.bool (decide (x=y))))) s):
  wpAny (model P w) A (Builtin.«tuple.__eq__» ⟨[.ref a,.ref b],[]⟩) R E s:=by
 have eb:=a5.ty;obtain⟨kU,xs,cu,a1,_,aG,bL⟩:=aB;obtain⟨kW,ys,dn,a2,_,aJ,b1⟩:=a5;show wpAny (model P w) A (isInstance (.ref b) (.type "tuple") >>= _) _ _ s
 refine wpAny_bind (wpAny_isInstance eb isSubtype_tuple_tuple ?_);simp only[abQ,aaS,if_false];refine wpAny_bind (wpAny_tupleItemsOf a1 aG (wpAny_bind (wpAny_tupleItemsOf a2 aJ (wpAny_bind ?_))))
 refine wpAny_forIn_list _
  (fun rest r s'=>r.1=none/\s'=s/\∃gF ey tl tm,rest=List.zip tl tm/\hY (P:=P) (w:=w) s.heap gF tl/\hY (P:=P) (w:=w) s.heap ey tm/\decide (gF=ey)=decide (x=y)/\(tl.length==tm.length)=(xs.size==ys.size))
  _ ?_ ?_ _ _ ⟨rfl,rfl,x,y,xs.toList,ys.toList,rfl,bL,b1,rfl,by simp⟩
 ·rintro⟨u,v⟩ rest r s' ⟨ak,rfl,gF,ey,tl,tm,a',rK,nj,wC,hlen⟩;cases rK with
  | nil=>simp at a'
  | @cons bY Zu eS QK aa QL =>
   cases nj with
   | nil=>simp at a'
   | @cons ck Zv c9 QM ab QN =>
    rw[List.zip_cons_cons,abX,abN]at a';obtain⟨⟨rfl,rfl⟩,rfl⟩:=a';refine wpAny_bind (wpAny_eqBool_tuple (by omega) aa ab ?_);by_cases ah:bY=ck
    ·subst ah;rw[decide_eq_true rfl];simp only[abQ,aaS,if_false];refine wpAny_pure ⟨rfl,rfl,eS,c9,QK,QM,rfl,QL,QN,?_,by simpa using hlen⟩;rw[<-wC];by_cases av:eS=c9<;>simp[av]
    ·rw[decide_eq_false ah];simp only[Bool.not_false,if_true];have hf:decide (x=y)=false:=by rw[<-wC];simp[ah]
     rw[hf]at h;exact wpAny_bind (wpAny_pure (wpAny_pure (wpAny_pure h)))
 ·rintro⟨ar,aF⟩ s' ⟨ak,rfl,gF,ey,tl,tm,a',rK,nj,wC,hlen⟩;simp only at ak;subst ak;refine wpAny_pure ?_
  have QO:(xs.size==ys.size)=decide (x=y):=by
   rw[<-wC,<-hlen];cases rK with
   | nil=>cases nj<;>simp
   | cons _ _ =>
    cases nj with
    | nil=>simp
    | cons _ _=>simp at a'
  show R (.done (.ret (.bool (xs.size==ys.size)))) s'
  rw[QO];exact h
theorem eq2{x y:List (List Int)}{a b:Addr}{Q:Bool->Shared->Prop}(bA:A.units+3<cLine)(aB:iJ P w s.heap x a)(a5:iJ P w s.heap y b)(h:Q (decide (x=y)) s):wpAny (model P w) A (eqBool (.ref a) (.ref b)) Q E s:=by
 unfold eqBool
 try with_reducible refine wpAny_holding ?_
 show wpAny (model P w) A (if(Value.ref a==Value.ref b)=true then _ else _) Q E s
 by_cases hx:(Value.ref a==Value.ref b)=true
 ·rw[if_pos hx];obtain rfl:a=b:=by have:=eq_of_beq hx;injection this
  obtain rfl:=aB.inj2 a5;exact wpAny_bind (wpAny_rule (wpAny_pure (by simpa using h)))
 ·rw[if_neg hx]
  exact wpAny_bind (wpAny_richCompare_same_room (op:=.Eq) aB.ty a5.ty F.slot_tuple_eq
   (wpAny_call_entry F.slot_tuple_eq aB.ty F.entry_tuple_eq (QJ (by show A.units+_+2<cLine;omega) aB a5 ⟨_,rfl,(fun e=>nomatch e),wpAny_truthy_bool h⟩) (F.args_tuple_eq_2 _ _)) (by omega))
theorem QP(n:Nat){l:List Int}{a:Addr}{Q:Bool->Shared->Prop}(ah:IsTupleKey (intKind P w) s.heap l a)(h:Q true s):wpAny (model P w) A (eqIsQuiet (n+1) (.ref a)) Q E s:=by
 have eb:=ah.typeIs;obtain⟨cK,us,m,aa,_,aL,bo⟩:=ah;unfold eqIsQuiet;refine wpAny_bind (wpAny_specialOf eb F.slot_tuple_eq.lookup ?_);show wpAny (model P w) A (isInstance (.ref a) (.type "tuple") >>= _) _ _ s
 refine wpAny_bind (wpAny_isInstance eb isSubtype_tuple_tuple ?_);simp only[abQ,aaS,if_false];refine wpAny_bind (wpAny_seqItems aa aL (wpAny_bind ?_));show wpAny (model P w) A (forIn us _ _) _ _ s
 rw[<-ac5];refine wpAny_forIn_list _ (fun rest r s'=>r.1=none/\s'=s/\∀v∈rest,carriedByValue v=true) _ ?_ ?_ _ _ ⟨rfl,rfl,bo.byValue⟩
 ·rintro v rest r s' ⟨ak,rfl,qi⟩;rw[eqIsQuiet_byValue _ (qi v ZJ)];refine wpAny_bind (wpAny_pure ?_);simp only[abQ,aaS,if_false];exact wpAny_pure ⟨rfl,rfl,fun u Bc=>qi u (ZL _ Bc)⟩
 ·rintro⟨ar,aF⟩ s' ⟨ak,rfl,_⟩;simp only at ak;subst ak;exact wpAny_pure h
theorem QQ{ks:List (List Int)}{a:Addr}{Q:Bool->Shared->Prop}(ah:iJ P w s.heap ks a)(h:Q true s):wpAny (model P w) A (eqIsQuiet 8 (.ref a)) Q E s:=by
 have eb:=ah.ty;obtain⟨cK,us,m,aa,_,aL,bo⟩:=ah;unfold eqIsQuiet;refine wpAny_bind (wpAny_specialOf eb F.slot_tuple_eq.lookup ?_);show wpAny (model P w) A (isInstance (.ref a) (.type "tuple") >>= _) _ _ s
 refine wpAny_bind (wpAny_isInstance eb isSubtype_tuple_tuple ?_);simp only[abQ,aaS,if_false];refine wpAny_bind (wpAny_seqItems aa aL (wpAny_bind ?_));show wpAny (model P w) A (forIn us _ _) _ _ s
 rw[<-ac5];refine wpAny_forIn_list _ (fun rest r s'=>r.1=none/\s'=s/\∃left,hY (P:=P) (w:=w) s.heap left rest) _ ?_ ?_ _ _ ⟨rfl,rfl,ks,bo⟩
 ·rintro v rest r s' ⟨ak,rfl,left,aj⟩;cases aj with
  | @cons l c ih _ bY ar =>
   refine wpAny_bind (QP 6 bY ?_);simp only[abQ,aaS,if_false];exact wpAny_pure ⟨rfl,rfl,ih,ar⟩
 ·rintro⟨ar,aF⟩ s' ⟨ak,rfl,_⟩;simp only at ak;subst ak;exact wpAny_pure h
end
def kd(P:Program)(w:World):Bool->HeapKind P w (List (List Int))
 | false=>{
  is:=fun h k a=>∃l,k=[l]/\IsTupleKey (intKind P w) h l a
  hash:=nr false
  draws:=fun k=>(k.headD []).length+1
  room:=fun A=>A.units+3<cLine
  inj:=by rintro h a x y ⟨l,rfl,p⟩ ⟨m,rfl,q⟩;rw[p.inj q]
  keeps:=fun⟨l,e,p⟩ aE hd aq=>⟨l,e,p.keeps aE hd aq⟩
  pyHash:=fun bA ⟨l,e,p⟩ h=>by subst e;exact wpAny_pyHash_tuple (by omega) p h
  eqBool:=fun bA ⟨l,e,p⟩ ⟨m,aT,q⟩ h=>by subst e aT;exact wpAny_eqBool_tuple (by omega) p q (by simpa using h)
  quiet:=fun⟨l,e,p⟩ h=>wpAny_eqIsQuiet_tuple p h }
 | true=>{
  is:=iJ P w
  hash:=nr true
  draws:=wB
  room:=fun A=>A.units+3<cLine
  inj:=fun p q=>p.inj2 q
  keeps:=fun p aE hd aq=>p.keep aE hd aq
  pyHash:=fun bA p h=>QI bA p h
  eqBool:=fun bA p q h=>eq2 bA p q h
  quiet:=fun p h=>QQ p h }
theorem QR(P:Program)(w:World)(b:Bool)(k:List (List Int)):(kd P w b).hash k=nr b k:=by cases b<;>rfl
theorem Bd{P:Program}{w:World}{b:Bool}{A:Around}(h:A.units+4<cLine):(kd P w b).room A.in1:=by
 cases b<;>exact(show A.units+1+3<cLine by omega)
def cg{α:Type}:List (List (List Int))->List α->List (List Int)->Option α
 | k'::ks,d::ds,k=>if k'=k then some d else cg ks ds k
 | _,_,_=>none
def fb{α:Type}:List (List (List Int))->List α->List (List Int)->α->List α
 | k'::ks,d::ds,k,x=>(if k'=k then x else d)::fb ks ds k x
 | _,ds,_,_=>ds
def fH(ks:List (List (List Int)))(k:List (List Int)):List (List (List Int)):=if k∈ks then ks else ks++[k]
def f6{α:Type}(ks:List (List (List Int)))(ds:List α)(k:List (List Int))(x:α):List α:=if k∈ks then fb ks ds k x else ds++[x]
def d5:List (List (List Int))->List Addr->List Value->List (List (List Int)×Addr×Value)
 | k::ks,a::as,u::us=>(k,a,u)::d5 ks as us
 | _,_,_=>[]
section
variable{P:Program}{w:World}{b:Bool}
theorem Be:∀(ks:List (List (List Int)))(as:List Addr)(us:List Value),ji b ks as us=(d5 ks as us).map (entryOfKey (kd P w b))
 | k::ks,a::as,u::us=>by
  rw[ji,d5,aaa,<-Be ks as us];unfold entryOfKey;rw[QR]
 | [],_,_=>by simp[ji,d5]
 | _::_,[],_=>by simp[ji,d5]
 | _::_,_::_,[]=>by simp[ji,d5]
theorem Bf:∀{ks:List (List (List Int))}{as:List Addr}{us:List Value},as.length=ks.length->us.length=ks.length->(d5 ks as us).map (·.1)=ks
 | [],_,_,_,_=>by simp[d5]
 | k::ks,[],_,h,_=>by simp at h
 | k::ks,_::_,[],_,h=>by simp at h
 | k::ks,a::as,u::us,aa,ab=>by
  rw[d5,aaa,Bf (by simpa using aa) (by simpa using ab)]
theorem wD:∀{ks:List (List (List Int))}{as:List Addr}{us:List Value}(k:List (List Int)),as.length=ks.length->us.length=ks.length->(atKey (d5 ks as us) k).map (·.2)=cg ks us k
 | [],_,_,_,_,_=>by simp[d5,atKey,cg]
 | k::ks,[],_,_,h,_=>by simp at h
 | k::ks,_::_,[],_,_,h=>by simp at h
 | k'::ks,a::as,u::us,k,aa,ab=>by
  have c3:=wD (ks:=ks) (as:=as) (us:=us) k (by simpa using aa) (by simpa using ab);by_cases e:k'=k
  ·simp[d5,atKey,cg,e]
  ·rw[cg,if_neg e,<-c3];simp[d5,atKey,List.find?_cons,e]
theorem tn{α:Type}:∀{ks:List (List (List Int))}{ds:List α}{k:List (List Int)},ds.length=ks.length->(cg ks ds k=none↔k∉ks)
 | [],_,_,_=>by simp[cg]
 | k'::ks,[],_,h=>by simp at h
 | k'::ks,d::ds,k,h=>by
  have c3:=tn (ks:=ks) (ds:=ds) (k:=k) (by simpa using h);rw[cg];by_cases e:k'=k
  ·simp[e]
  ·rw[if_neg e,c3,Z6];constructor
   ·intro z w;rcases w with w|w
    ·exact e w.symm
    ·exact z w
   ·exact fun z w=>z (.inr w)
theorem Bg{α:Type}{x:α}:∀(ks:List (List (List Int)))(ds:List α)(k:List (List Int)),(fb ks ds k x).length=ds.length
 | [],_,_=>by simp[fb]
 | k'::ks,[],_=>by simp[fb]
 | k'::ks,d::ds,k=>by rw[fb,Z8,Bg ks ds k,Z8]
theorem Gx:∀{ks:List (List (List Int))}{as:List Addr}{us:List Value}(k:List (List Int))(u:Value),(d5 ks as us).map (putAt k u)=d5 ks as (fb ks us k u)
 | [],_,_,_,_=>by simp[d5]
 | k::ks,[],_,_,_=>by simp[d5]
 | k::ks,_::_,[],_,_=>by simp[d5,fb]
 | k'::ks,a::as,v::us,k,u=>by
  rw[d5,aaa,Gx k u,fb,d5];unfold putAt;by_cases e:k'=k
  ·rw[if_pos e,if_pos e]
  ·rw[if_neg e,if_neg e]
theorem Gy:∀{ks:List (List (List Int))}{as:List Addr}{us:List Value}(k:List (List Int))(a:Addr)(u:Value),as.length=ks.length->us.length=ks.length->d5 (ks++[k]) (as++[a]) (us++[u])=d5 ks as us++[(k,a,u)]
 | [],[],[],_,_,_,_,_=>rfl
 | [],_::_,_,_,_,_,h,_=>by simp at h
 | [],[],_::_,_,_,_,_,h=>by simp at h
 | k::ks,[],_,_,_,_,h,_=>by simp at h
 | k::ks,_::_,[],_,_,_,_,h=>by simp at h
 | k'::ks,eI::as,ep::us,k,a,u,aa,ab=>by
  rw[aaL,aaL,aaL,d5,Gy k a u (by simpa using aa) (by simpa using ab),d5,aaL]
theorem QS{ks:List (List (List Int))}{as:List Addr}{us:List Value}(k:List (List Int))(a:Addr)(u:Value)(aa:as.length=ks.length)(ab:us.length=ks.length):
  storedH (d5 ks as us) k a u=d5 (fH ks k) (if k∈ks then as else as++[a]) (f6 ks us k u):=by
 have g:=wD (as:=as) (us:=us) k aa ab;unfold storedH fH f6;by_cases m:k∈ks
 ·have s:(atKey (d5 ks as us) k).isSome=true:=by
   have z:((atKey (d5 ks as us) k).map (·.2)).isSome=true:=by
    rw[g];cases q:cg ks us k with
    | none=>exact absurd m ((tn ab).mp q)
    | some x=>rfl
   rwa [adI]at z
  rw[if_pos s,if_pos m,if_pos m,if_pos m,Gx]
 ·have s:¬(atKey (d5 ks as us) k).isSome=true:=by
   have z:((atKey (d5 ks as us) k).map (·.2)).isSome=false:=by
    rw[g,(tn ab).mpr m];rfl
   rw[adI]at z;rw[z];simp
  rw[if_neg s,if_neg m,if_neg m,if_neg m,Gy k a u aa ab]
def mL(H:ao)(b:Bool)(k:List (List Int))(a:Addr):Prop:=match b with
 | false=>∃l:List Int,k=[l]/\H a=some (.tup (l.map V.int))
 | true=>∃as:List Addr,H a=some (.tup (as.map V.ref))/\Paired (fun(l:List Int) c=>H c=some (.tup (l.map V.int))) k as
theorem Gz:∀{l:List Int}{us:List Value},Vals (l.map V.int) us->ItemsAre (intKind P w) l us
 | [],_,r=>by rw[aa']at r;cases r;exact .nil
 | i::l,_,r=>by
  rw[aaa]at r;cases r with
  | cons h t =>
   obtain⟨t',e⟩:=(show ∃t,_=Value.int i t from h);subst e;exact .cons (by simp[intKind,Value.isInt]) (Gz t)
theorem GA{H:ao}{h:Heap}{l:List Int}{a:Addr}(ok:eo P w H h)(e:H a=some (.tup (l.map V.int))):IsTupleKey (intKind P w) h l a:=by
 obtain⟨_,its,r,o,aa,ab,n,aL⟩:=(show fL P w H h a (.tup (l.map V.int))from ok a _ e);exact⟨o,its.toArray,n,aa,ab,aL,by simpa using Gz r⟩
theorem GB{H:ao}{h:Heap}(ok:eo P w H h):∀{ks:List (List Int)}{as:List Addr}{us:List Value},Paired (fun(l:List Int) c=>H c=some (.tup (l.map V.int))) ks as->Vals (as.map V.ref) us->hY (P:=P) (w:=w) h ks us
 | [],[],_,.nil,r=>by rw[aa']at r;cases r;exact .nil
 | _::_,a::as,_,.cons p q,r=>by
  rw[aaa]at r;cases r with
  | cons h t =>
   cases(show _=Value.ref a from h);exact .cons (GA ok p) (GB ok q t)
theorem mL.is{H:ao}{h:Heap}{k:List (List Int)}{a:Addr}(x:mL H b k a)(ok:eo P w H h):(kd P w b).is h k a:=by
 cases b with
 | false =>
  obtain⟨l,rfl,e⟩:=x;exact⟨l,rfl,GA ok e⟩
 | true =>
  obtain⟨as,e,p⟩:=x;obtain⟨_,its,r,o,aa,ab,n,aL⟩:=(show fL P w H h a (.tup (as.map V.ref))from ok a _ e);exact⟨o,its.toArray,n,aa,ab,aL,by simpa using GB ok p r⟩
structure n6 (H:ao) (b:Bool) (a:Addr) (bq:Nat) (ks:List (List (List Int))) (as:List Addr) (vs:List V):Prop where
 h:H a=some (iV b a bq ks as vs)
 k:Paired (mL H b) ks as
theorem GC{H:ao}{h:Heap}(ok:eo P w H h):∀{ks:List (List (List Int))}{as:List Addr}{us:List Value},Paired (mL H b) ks as->∀x∈d5 ks as us,(kd P w b).is h x.1 x.2.1
 | _,_,[],p,x,m=>by cases p<;>simp[d5]at m
 | [],[],_::_,.nil,x,m=>by simp[d5]at m
 | k::ks,a::as,u::us,.cons p q,x,m=>by
  rw[d5]at m;rcases Z6.mp m with e|m
  ·subst e;exact p.is ok
  ·exact GC ok q x m
theorem n6.raw{H:ao}{h:Heap}{a:Addr}{bq:Nat}{ks:List (List (List Int))}{as:List Addr}{vs:List V}(d:n6 H b a bq ks as vs)(ok:eo P w H h):
  ks.length<=sizeLine/\as.length=ks.length/\vs.length=ks.length/\(a==sysModules)=false/\∃us,Vals vs us/\h.DictOfH (kd P w b) a (d5 ks as us)/\ks.Nodup:=by
 obtain⟨⟨aa,ab,aL,bo,us,de,o,es,fl,lN,k0,tq,Bh⟩,_⟩:=(show fL P w H h a (iV b a bq ks as vs)from ok a _ d.h);have wF:=de.length;exact⟨aa,ab,aL,bo,us,de,⟨o,es,bq,fl,lN,k0,by rw[tq,Be (P:=P) (w:=w)],GC ok d.k,by rw[Bf ab (by omega)];exact Bh⟩,Bh⟩
theorem Bi:∀{ks:List (List (List Int))}{vs:List V}{us:List Value}(k:List (List Int)),Vals vs us->m4 (cg ks vs k) (cg ks us k)
 | [],_,_,_,_=>by simp[cg];trivial
 | _::_,_,_,_,.nil=>by simp[cg];trivial
 | k'::ks,_,_,k,.cons r t=>by
  rw[cg,cg];by_cases e:k'=k
  ·rw[if_pos e,if_pos e];exact r
  ·rw[if_neg e,if_neg e];exact Bi k t
theorem GD{v:V}{u:Value}(r:RelV v u):∀{ks:List (List (List Int))}{vs:List V}{us:List Value}(k:List (List Int)),Vals vs us->Vals (fb ks vs k v) (fb ks us k u)
 | [],_,_,_,t=>by simp only[fb];exact t
 | _::_,_,_,_,.nil=>by simp only[fb];exact .nil
 | k'::ks,_,_,k,.cons q t=>by
  rw[fb,fb];refine .cons ?_ (GD r k t);by_cases e:k'=k
  ·rw[if_pos e,if_pos e];exact r
  ·rw[if_neg e,if_neg e];exact q
theorem QT{v:V}{u:Value}(r:RelV v u){ks:List (List (List Int))}{vs:List V}{us:List Value}(k:List (List Int))(t:Vals vs us):Vals (f6 ks vs k v) (f6 ks us k u):=by
 unfold f6;by_cases m:k∈ks
 ·rw[if_pos m,if_pos m];exact GD r k t
 ·rw[if_neg m,if_neg m];exact Paired.snoc t r
end
theorem QU{o:Option V}{u:Option Value}{d:V}{d':Value}(r:m4 o u)(iz:RelV d d'):RelV (o.getD d) (u.getD d'):=by
 cases o<;>cases u<;>first|exact iz|exact r|exact r.elim
def QV(b:Bool):e6:=fun x y H Q=>∃a c bq ks as vs k v,x=.ref a/\y=.ref c/\n6 H b a bq ks as vs/\mL H b k c/\cg ks vs k=some v/\Q v H
def QW(H:ao)(a:Addr):Prop:=∃b bq ks as vs,n6 H b a bq ks as vs
def QX(b:Bool):TE:=fun _ H Q=>∀p,H p=none->Q (.ref p) (upd H p (iV b p 0 [] [] []))
def QY(b:Bool)(n7 ty wG:TE):TE:=fun σ H Q=>n7 σ H fun x H1=>∃a,x=.ref a/\QW H1 a/\ty σ H1 fun y a3=>wG σ a3 fun z cU=>∃c bq ks as vs k,y=.ref c/\n6 cU b a bq ks as vs/\mL cU b k c/\Q ((cg ks vs k).getD z) cU
def QZ(b:Bool)(n7 ty rR:TE):fM:=fun D σ H=>rR σ H fun v H1=>n7 σ H1 fun x a3=>ty σ a3 fun y cU=>∃a c bq ks as vs k,x=.ref a/\y=.ref c/\n6 cU b a bq ks as vs/\mL cU b k c/\ks.length<sizeLine /\
 ∀jf,D.nx σ (upd cU a (iV b a jf (fH ks k) (if k∈ks then as else as++[c]) (f6 ks vs k v)))
section
variable{X:aM}{b:Bool}{pos pos' apos cW:Pos}{o e f i value:Expr}{n7 ty wG rR:TE}
theorem n6.typ{H:ao}{s:Shared}{pins:List (Addr×Obj)}{σ:St}{a:Addr}{bq:Nat}{ks:List (List (List Int))}{as:List Addr}{vs:List V}(I:Inv X pins σ H s)(d:n6 H b a bq ks as vs):
  s.TypeIs (.ref a) "dict"/\∀c,Value.ref a=.ref c->∃cK,s.heap.get? c=some cK/\cK.dict=none:=by
 obtain⟨_,_,_,_,us,_,ia,_⟩:=d.raw I.hok;refine⟨ia.typeIs,fun c q=>?_⟩;cases q;obtain⟨cK,_,_,aa,ab,_⟩:=ia;exact⟨cK,aa,ab.2.1⟩
theorem Q0(bA:X.A.units+4<cLine):qg X (QV b):=by
 intro A7 sl pins s σ H x y v u Q I bc cx h aq;obtain⟨a,c,bq,ks,as,vs,k,z,rfl,rfl,d,qW,l,q⟩:=h;cases bc;cases(show u=Value.ref c from cx);obtain⟨aa,ab,aL,bo,us,de,ia,fl⟩:=d.raw I.hok;have wF:=de.length;have g:=wD (as:=as) (us:=us) k ab (by omega);obtain⟨ep,Bc,hL⟩:=m4.some_of (v:=z) (o:=cg ks us k) (by rw[<-l];exact Bi k de);rw[Bc]at g;obtain⟨p,ag,lW⟩:=Option.map_eq_some_iff.mp g
 exact PyProof.Rows.subscriptTail_builtinR (x:=ep) ia.typeIs PySem.F.slot_dict_getitem.lookup
  (wpAny_getItem_heap (Q:=fun r s'=>r=ep/\gY X pins σ Q r s') (Bd bA) (qW.is I.hok) ia ag ⟨lW,by rw[lW];exact⟨z,H,I.tok _,hL,q⟩⟩) aq
theorem Q1(bA:X.A.units+4<cLine)(aE:b2 X o n7)(he:b2 X e ty)(hf:b2 X f wG)(ip:attributeBase o "get" X.env (eval o X.env)=eval o X.env:=by rfl)(kx:((backTo cW (starEach [e,f] X.env)).all (fun x => !x.1)&&(backToKw cW (keywordEach [] X.env)).all (fun x=>x.1.isSome)
   && decide (([e,f]:List Expr).length+([]:List Keyword).length+(if([]:List Keyword).isEmpty then 0 else 1)<30))=true:=by rfl)(iq:(apos.endLine==cW.line)=true:=by rfl)(Bj:backTo cW (starEach [e,f] X.env)=[(false,eval e X.env),(false,eval f X.env)]:=by rfl):
  b2 X (.Call (.Attribute o "get" apos) [e,f] [] cW) (QY b n7 ty wG):=by
 intro pins s σ H Q I h;refine wpAny_Call_method ip kx iq PySem.F.plainAttrs_dict adJ PySem.F.type_dict_get (cq (aE pins s σ H _ I h) fun u s1 ⟨x,H1,bg,bc,a,ex,Q2,a4⟩=>?_);obtain⟨a9,Zw,i6,Zx,k1,d⟩:=Q2;subst ex;obtain rfl:u=Value.ref a:=bc;obtain⟨t1,cY⟩:=d.typ bg;refine⟨t1,cY,?_⟩;rw[Bj]
 refine Calls.callWith_builtin rfl (Calls.evalArgs_plain (Calls.spliced_cons (cq (he pins s1 σ H1 _ bg a4) fun hH s2 ⟨y,a3,d9,cx,bS⟩ =>
  Calls.spliced_cons (cq (hf pins s2 σ a3 _ d9 bS) fun Q3 s3 ⟨z,cU,dd,h9,c,bq,ks,as,vs,k,fQ,wH,qW,fC⟩=>Calls.spliced_nil ?_))))
 subst fQ;obtain rfl:hH=Value.ref c:=cx;obtain⟨aa,ab,aL,bo,us,de,ia,fl⟩:=wH.raw dd.hok;have wF:=de.length;refine call_meetsIn adJ ia.typeIs PySem.F.entry_dict_get (PySem.F.args_dict_get_3 _ _ _) (meetsH_dict_get_default (kd X.prog X.w b) a c bo Q3) ⟨Bd bA,k,d5 ks as us,qW.is dd.hok,ia,?_⟩;rw[wD k ab (by omega)];exact⟨_,cU,dd.tok _,QU (Bi k de) h9,fC⟩
theorem Q4{ks:List (List (List Int))}{k:List (List Int)}(h:ks.Nodup):(fH ks k).Nodup:=by
 unfold fH;by_cases m:k∈ks
 ·rw[if_pos m];exact h
 ·rw[if_neg m];refine List.nodup_append.mpr ⟨h,by simp,fun x aB y a5=>?_⟩;rw[aac.mp a5];rintro rfl;exact m aB
theorem Q5(bA:X.A.units+4<cLine)(aE:b2 X o n7)(aD:b2 X i ty)(aP:b2 X value rR)(aq:swapsWith value (some (.Subscript o i pos')) pos.line X.env=pure false:=by rfl):
  il X (.Assign [.Subscript o i pos'] value pos) (QZ b n7 ty rR):=by
 intro pins s σ H D I h;refine wpAny_Assign_Subscript (cq (aP pins s σ H _ I h) fun r s1 ⟨v,H1,bg,b3,a4⟩=>cq (aE pins s1 σ H1 _ bg a4) fun u s2 ⟨x,a3,d9,bc,bS⟩=>cq (aD pins s2 σ a3 _ d9 bS) fun hH s3 ⟨y,cU,dd,cx,a,c,Zy,ks,as,vs,k,ex,fQ,wH,qW,aj,fC⟩=>?_) aq;subst ex fQ;obtain rfl:u=Value.ref a:=bc;obtain rfl:hH=Value.ref c:=cx;obtain⟨aa,ab,aL,bo,us,de,ia,fl⟩:=wH.raw dd.hok;have wF:=de.length
 have le:(d5 ks as us).length=ks.length:=by
  have:=congrArg aam (Bf (as:=as) (us:=us) ab (by omega))
  rwa [Zf]at this
 refine wpAny_setItem_heap (Bd bA) (qW.is dd.hok) ia (fun h' qV gd=>?_) (by omega);rw[QS k c r ab (by omega)]at qV
 have lk:(fH ks k).length<=sizeLine:=by
  unfold fH;split
  ·exact aa
  ·rw[ZM,aaQ];omega
 have la:(if k∈ks then as else as++[c]).length=(fH ks k).length:=by
  unfold fH;split
  ·exact ab
  ·rw[ZM,ZM,ab];rfl
 have lv:(f6 ks vs k v).length=(fH ks k).length:=by
  unfold fH f6;split
  ·rw[Bg];exact aL
  ·rw[ZM,ZM,aL];rfl
 obtain⟨cK,es,bq,kU,kW,FG,mM,Zz,ZA⟩:=qV
 have Ak:Inv X pins σ (upd cU a (iV b a bq (fH ks k) (if k∈ks then as else as++[c]) (f6 ks vs k v))) { s3 with heap:=h',toks:=s3.toks+(kd X.prog X.w b).draws k }:=by
  refine dd.write (x:=a) (e:=a) (by rw[wH.h];trivial) (.inl rfl) (fun d0 q af z=>(gd.2 d0 af).trans z) ⟨cK,kU⟩ ?_;refine⟨⟨lk,la,lv,bo,_,QT b3 k de,cK,es,kU,kW,FG,?_,Q4 fl⟩,⟨cK,kU⟩,?_⟩
  ·rw[mM,Be (P:=X.prog) (w:=X.w)]
  ·rintro g1 g2 ⟨z1,aQ,fF,eY,jo,kK,Bk,oD,Bl,Bm⟩ ah;exact⟨z1,aQ,fF,eY,jo,kK,Bk,oD,ah _ Bl,Bm⟩
 exact⟨σ,_,Ak,fC bq⟩
theorem Q6:b2 X (.Dict [] [] pos) (QX b):=fun pins s σ H Q I h=>by
 have big:sysModules<s.heap.objs.size:=Nat.lt_trans (by decide) ((I.mod.glob.keeps I.bk).lt:mainGlobals<s.heap.objs.size);refine wpAny_Dict_empty ⟨.ref s.heap.objs.size,_,I.laid (a:=s.heap.objs.size) (o:=iV b s.heap.objs.size 0 [] [] []) (t':=s.toks) (fun _ _ q=>Heap.get?_push_of_some _ q) (Zg _) ?_,rfl,h _ (I.hok.fresh (Zg _))⟩;refine⟨⟨aaE _,rfl,rfl,beq_eq_false_iff_ne.mpr (aaB (aat big)),[],.nil,_,#[],Heap.get?_push_size _ rfl,⟨rfl,rfl,rfl⟩,rfl,rfl,List.nodup_nil⟩,⟨_,Heap.get?_push_size _ rfl⟩,?_⟩;rintro g1 g2 ⟨z1,aQ,fF,eY,jo,kK,Bk,oD,Bl,Bm⟩ ah;exact⟨z1,aQ,fF,eY,jo,kK,Bk,oD,ah _ Bl,Bm⟩
end
def tr(h:Heap)(d:Addr)(es:Array DictEntry)(bq:Nat):Prop:=∃o,h.get? d=some o/\o.ExactDict/\o.data=.dict es bq
section
variable{prog:Program}{w:World}{A:Around}{E:Value->Shared->Prop}{s:Shared}{d it:Addr}{i bq:Nat}{es:Array DictEntry}
theorem Q7{Q:Value->Shared->Prop}(hd:(d==sysModules)=false)(hm:tr s.heap d es bq)(gZ:Q (.ref s.heap.objs.size) { s with heap:=s.heap.push { cls:=.type "dict_keyiterator",data:=.fields #[.ref d,.int 0 0,.int es.size 0,.int bq 0] } }):wpAny (model prog w) A (pyIter (.ref d)) Q E s:=by
 obtain⟨o,aE,hc,he⟩:=hm;have ty:s.TypeIs (.ref d) "dict":=⟨o,aE,hc.1⟩;have no:¬(d==sysModules)=true:=fun z=>by rw[hd]at z;cases z
 refine wpAny_pyIter_slot ty F.slot_dict_iter (wpAny_call_entry F.slot_dict_iter ty F.entry_dict_iter ?_ (F.args_dict_iter_1 _));unfold Builtin.«dict.__iter__» Builtin.Dict.dictSlotNone;refine wpAny_bind (wpAny_bind (wpAny_notOrdered_dict ty (show wpAny _ _ (pure (Value.ref d)) _ _ s from wpAny_pure ?_)));show wpAny _ _ (Builtin.Dict.showsAll d >>= _) _ _ s
 unfold Builtin.Dict.showsAll;rw[if_neg no];refine wpAny_bind (wpAny_pure (wpAny_bind (wpAny_dictEntries aE he (wpAny_bind (wpAny_dictEpoch aE he (wpAny_bind (wpAny_newObj_type (wpAny_pure ?_))))))));exact⟨_,rfl,"dict_keyiterator",_,⟨_,Heap.get?_push_size _ rfl,rfl⟩,F.slot_dict_keyiterator_next.lookup,by simpa[rawInt]using gZ⟩
theorem GF{Q:Option Value->Shared->Prop}(eJ:A.handled=none)(hit:s.heap.IsKeyIter it d i es.size bq)(hm:tr s.heap d es bq)(more:∀e h',es[i]?=some e->h'.IsKeyIter it d (i+1) es.size bq->Heap.SameBut it s.heap h'->Q (some e.key) { s with heap:=h' })(done:∀h',es[i]?=none->Heap.ExtBut it s.heap h'->Q none { s with heap:=h' }):wpAny (model prog w) A (pyNext (.ref it)) Q E s:=by
 have ty:=hit.typeIs;obtain⟨ZC,aD,ci,qX⟩:=hit;obtain⟨o,aE,hc,he⟩:=hm;have own:Builtin.Dict_items.ownsTuple "dict_keyiterator"=false:=by decide
 have cS:¬((i:Int)<0):=by omega
 have none_:¬(Value.ref d==Value.none)=true:=aal;unfold pyNext;refine wpAny_bind (wpAny_attempt (wpAny_callSpecial?_slot (name:="__next__") ty F.slot_dict_keyiterator_next (wpAny_call_entry F.slot_dict_keyiterator_next ty F.entry_dict_keyiterator_next ?_ (F.args_dict_keyiterator_next_1 _))));refine wpAny_bind (wpAny_pure (wpAny_bind (wpAny_bind ?_)))
 first|refine wpAny_bind (wpAny_typeNameOfWhole_keyiter ty (wpAny_pure (wpAny_bind (wpAny_fieldsOf aD qX ?_))))|refine wpAny_bind (wpAny_typeNameOf_keyiter ty (wpAny_pure (wpAny_bind (wpAny_fieldsOf aD qX ?_))))
 rw[own];show wpAny _ _ (if(Value.ref d==Value.none)=true then _ else _) _ _ s
 rw[if_neg none_];refine wpAny_bind (wpAny_pure (wpAny_bind (wpAny_dictEntries aE he ?_)));rw[if_neg (by simp)];refine wpAny_bind (wpAny_pure (wpAny_bind (wpAny_dictEpoch aE he ?_)));rw[if_neg (by simp)];refine wpAny_pure ?_;simp only[cS,if_false,Int.toNat_natCast];cases q:es[i]? with
 | some e =>
  let aa:=s.heap.update it (Obj.mapFields (·.setIfInBounds 1 (rawInt ((i:Int)+1))))
  have bY:aa.IsKeyIter it d (i+1) es.size bq:=by
   refine⟨_,Heap.get?_update_self _ aD ?_,(Obj.cls_mapFields ..).trans ci,?_⟩
   ·exact Obj.isFreed_of_fields (Obj.data_mapFields qX _)
   ·rw[Obj.data_mapFields qX];simp[rawInt]
  refine wpAny_bind ?_
  first|refine wpAny_bind (wpAny_typeNameOfWhole_keyiter ty (wpAny_pure (wpAny_bind (wpAny_isOneOf_keyiter ty ?_))))|refine wpAny_bind (wpAny_typeNameOf_keyiter ty (wpAny_pure (wpAny_bind (wpAny_isOneOf_keyiter ty ?_))))
  show wpAny _ _ (setField (.ref it) 1 (rawInt ((i:Int)+1)) >>= _) _ _ s
  refine wpAny_bind (wpAny_setField aD qX (by simp) (wpAny_bind (wpAny_holding (wpAny_bind (wpAny_isOneOf_keyiter (s:={ s with heap:=aa }) bY.typeIs ?_)))));exact wpAny_pure (wpAny_pure ⟨_,rfl,wpAny_pure (more e aa q bY (Heap.SameBut.update ..))⟩)
 | none =>
  refine wpAny_bind ?_
  first|refine wpAny_bind (wpAny_typeNameOfWhole_keyiter ty (wpAny_pure ?_))|refine wpAny_bind (wpAny_typeNameOf_keyiter ty (wpAny_pure ?_))
  show wpAny _ _ (setField (.ref it) 0 .none >>= _) _ _ s
  refine wpAny_bind (wpAny_setField aD qX (by simp) ?_);show wpAny _ _ (newExc (.type "StopIteration") [] >>= _) _ _ _
  unfold newExc newTuple;refine wpAny_bind (wpAny_bind (wpAny_newObj_type (wpAny_bind (m:=firstArgMember _ _) (wpAny_of_eq (a:=Value.none) (by first|rfl|(unfold firstArgMember;rfl)) (wpAny_newObj_type ?_ (by size_fits)))) (by size_fits)));unfold raiseNew;refine wpAny_bind (wpAny_handled ?_);rw[show A.in1.handled=none from eJ];refine wpAny_bind (wpAny_pure (wpAny_throw ?_));refine wpAny_bind (wpAny_isInstance (T:="StopIteration") (b:=true) (by exact⟨_,Heap.get?_push_size _ rfl,rfl⟩) isSubtype_stop ?_);exact wpAny_pure (done _ q (((Heap.SameBut.update ..).extBut.push _).push _))
theorem Q8{k v:Value}{hsh:Int}{Q:Option Value->Shared->Prop}(eJ:A.handled=none)(hit:s.heap.IsKeyIter it d i es.size bq)(hm:tr s.heap d es bq)(aB:es[i]?=some ⟨hsh,k,v⟩)(gZ:∀h',h'.IsKeyIter it d (i+1) es.size bq->Heap.SameBut it s.heap h'->Q (some k) { s with heap:=h' }):wpAny (model prog w) A (pyNext (.ref it)) Q E s :=
 GF eJ hit hm (fun e h' q a b=>by rw[aB]at q;cases q;exact gZ h' a b) fun h' q _=>by rw[aB]at q;cases q
theorem Q9{Q:Option Value->Shared->Prop}(eJ:A.handled=none)(hit:s.heap.IsKeyIter it d i es.size bq)(hm:tr s.heap d es bq)(aB:es.size<=i)(gZ:∀h',Heap.ExtBut it s.heap h'->Q none { s with heap:=h' }):wpAny (model prog w) A (pyNext (.ref it)) Q E s :=
 GF eJ hit hm (fun e h' q _ _=>by rw[Array.getElem?_eq_none aB]at q;cases q) fun h' _ ew=>gZ h' ew
end
def GG(b:Bool)(a:Addr)(bq:Nat)(ks:List (List (List Int)))(as:List Addr)(vs:List V):h5 where
 go:=fun i H=>H a=some (iV b a bq ks as vs)/\i<ks.length
 yld:=fun i H x H'=>H'=H/\∃c,as[i]?=some c/\x=.ref c
 stop:=fun i H=>H a=some (iV b a bq ks as vs)/\ks.length<=i
theorem GH{b:Bool}:∀{ks:List (List (List Int))}{as:List Addr}{us:List Value},as.length=ks.length->us.length=ks.length->(ji b ks as us).length=ks.length
 | [],_,_,_,_=>by simp[ji]
 | k::ks,[],_,h,_=>by simp at h
 | k::ks,_::_,[],_,h=>by simp at h
 | k::ks,a::as,u::us,aa,ab=>by rw[ji,Z8,Z8,GH (by simpa using aa) (by simpa using ab)]
theorem GI{b:Bool}:∀{ks:List (List (List Int))}{as:List Addr}{us:List Value}{i:Nat},as.length=ks.length->us.length=ks.length->i<ks.length->∃k c u,as[i]?=some c/\us[i]?=some u/\(ji b ks as us)[i]?=some ⟨nr b k,.ref c,u⟩
 | [],_,_,i,_,_,h=>by simp at h
 | k::ks,[],_,_,h,_,_=>by simp at h
 | k::ks,_::_,[],_,_,h,_=>by simp at h
 | k::ks,a::as,u::us,0,_,_,_=>⟨k,a,u,rfl,rfl,rfl⟩
 | k::ks,a::as,u::us,i+1,aa,ab,aL=>by
  obtain⟨k',c,ep,z1,aQ,fF⟩:=GI (b:=b) (ks:=ks) (as:=as) (us:=us) (i:=i) (by simpa using aa) (by simpa using ab) (by simpa using aL);exact⟨k',c,ep,by simpa using z1,by simpa using aQ,by simpa[ji]using fF⟩
section
variable{P:Program}{w:World}{K:PySem.W.Frag}{bE:Expr}{b:Bool}{a:Addr}{bq:Nat}{ks:List (List (List Int))}{as:List Addr}{vs:List V}
theorem Bn{H:ao}{h:Heap}(ok:eo P w H h)(e:H a=some (iV b a bq ks as vs)):∃us es,tr h a es bq/\es.toList=ji b ks as us/\as.length=ks.length/\us.length=ks.length/\es.size=ks.length/\Vals vs us/\(a==sysModules)=false:=by
 obtain⟨⟨aa,ab,aL,bo,us,de,o,es,fl,lN,k0,tq,Bh⟩,_⟩:=(show fL P w H h a (iV b a bq ks as vs)from ok a _ e);have wF:=de.length;exact⟨us,es,⟨o,fl,lN,k0⟩,tq,ab,by omega,by rw[<-acH,tq,GH ab (by omega)],de,bo⟩
theorem Q'(it:Addr):Turn P w K bE (GG b a bq ks as vs) [it] it (fun i h=>h.IsKeyIter it a i ks.length bq) where
 mem:=by simp
 obj:=fun i h st c hc=>by
  have e:c=it:=by simpa using hc
  subst e;obtain⟨o,e,_,d⟩:=st;exact⟨o,e,fun v z=>by rw[d]at z;cases z⟩
 keep:=fun i h h' st k=>st.at fun o e=>k it (by simp) o e
 item:=by
  intro X gD hw e5 hc i pins s σ H E I hf st aC;subst gD hw e5;obtain⟨ay,aD⟩:=aC;obtain⟨us,es,iz,o3,bt,bz,e',_⟩:=Bn I.hok ay;obtain⟨k,c,u,Ra,ZD,he⟩:=GI (b:=b) bt bz aD;obtain⟨f0,f1,f2,bO,f4,d2⟩:=hf it (by simp);refine Q8 (I.ok.hd hc) (by rw[e'];exact st) iz (hsh:=nr b k) (k:=.ref c) (v:=u) (by rw[<-acK,o3];exact he) fun h' jK gd=>?_;rw[e']at jK;have bg:Inv X pins σ H { s with heap:=h' }:=I.turned (t':=s.toks) (fun d0 o af e=>(gd.2 d0 af).trans e) f0 f1 bO f4 d2;obtain⟨o,e,aJ,d⟩:=id jK;exact⟨.ref c,rfl,uO (s:={ s with heap:=h' }) e aJ d (by decide) ⟨.ref c,H,bg,rfl,⟨rfl,c,Ra,rfl⟩,jK,fun b' af=>(hf b' af).1⟩⟩
 done:=by
  intro X gD hw e5 hc i pins s σ H E I hf st aC;subst gD hw e5;obtain⟨ay,aD⟩:=aC;obtain⟨us,es,iz,o3,bt,bz,e',_⟩:=Bn I.hok ay;obtain⟨f0,f1,f2,bO,f4,d2⟩:=hf it (by simp);exact Q9 (I.ok.hd hc) (by rw[e'];exact st) iz (by omega) fun h' ew=>⟨rfl,I.turned (t':=s.toks) (fun d0 o af e=>ew d0 o af e) f0 f1 bO f4 d2⟩
 self:=fun _ _ _ _ _ st h=>wpAny_pyIter_keyiter st h
end
def Rb(gM:TE):TI:=fun σ H R=>gM σ H fun x H1=>∃b a bq ks as vs,x=.ref a/\H1 a=some (iV b a bq ks as vs)/\R (GG b a bq ks as vs) H1
section
variable{X:aM}{bE:Expr}
theorem Rc{l:Expr}{gM:TE}(aj:b2 X l gM):jJ X bE l (Rb gM):=by
 intro pins s σ H R I h;refine cq (aj pins s σ H _ I h) fun v s1 ⟨x,H1,bg,ar,a4⟩=>?_;obtain⟨b,a,bq,ks,as,vs,e,ay,q⟩:=a4;subst e;cases ar;obtain⟨us,es,iz,o3,bt,bz,e',_,aq⟩:=Bn bg.hok ay;refine Q7 aq iz ?_;refine⟨s1.heap.objs.size,[s1.heap.objs.size],_,_,H1,rfl,bg.kept (t':=s1.toks) fun b o e=>Heap.get?_push_of_some _ e,Q' _,⟨_,Heap.get?_push_size _ rfl,rfl,by rw[e'];rfl⟩,fun c hc=>?_,q⟩;have e:c=s1.heap.objs.size:=by simpa using hc
 subst e;exact bg.fpOk (Zg _) (bg.hok.fresh (Zg _))
end
section
variable{K:PySem.W.Frag}{B H:ao}
theorem Bo:∀{vs:List V}{l:List Int},Reps K B vs (l.map D.int)->vs=l.map V.int
 | _,[],r=>by cases r;rfl
 | _,i::l,r=>by
  rw[aaa]at r;cases r with
  | cons h t=>rw[h.intV,Bo t];rfl
theorem GJ(s:cp B H):∀{vs:List V}{k:List (List Int)},Reps K B vs (k.map fun ks=>.tup (ks.map D.int))->∃as:List Addr,vs=as.map V.ref/\Paired (fun(l:List Int) c=>H c=some (.tup (l.map V.int))) k as
 | _,[],r=>by cases r;exact⟨[],rfl,.nil⟩
 | _,l::k,r=>by
  rw[aaa]at r;cases r with
  | cons h t =>
   obtain⟨c,us,rfl,hc,rs⟩:=h.tupV;rw[Bo rs]at hc;obtain⟨as,rfl,p⟩:=GJ s t;exact⟨c::as,rfl,.cons (s _ _ hc) p⟩
theorem Bp{b:Bool}{k:List (List Int)}{v:V}(r:Rep K B v (ir b k)):∃c,v=.ref c:=by
 unfold ir at r;split at r
 ·obtain⟨c,_,rfl,_⟩:=r.tupV;exact⟨c,rfl⟩
 ·obtain⟨c,_,rfl,_⟩:=r.tupV;exact⟨c,rfl⟩
theorem wI{b:Bool}{k:List (List Int)}{c:Addr}(s:cp B H)(af:b=false->∃l,k=[l])(r:Rep K B (.ref c) (ir b k)):mL H b k c:=by
 cases b with
 | false =>
  obtain⟨l,rfl⟩:=af rfl;obtain⟨d0,us,e,hc,rs⟩:=(show Rep K B (.ref c) (.tup (l.map D.int))from r).tupV;cases e;rw[Bo rs]at hc;exact⟨l,rfl,s _ _ hc⟩
 | true =>
  obtain⟨d0,us,e,hc,rs⟩:=(show Rep K B (.ref c) (.tup (k.map fun ks=>.tup (ks.map D.int)))from r).tupV;cases e;obtain⟨as,rfl,p⟩:=GJ s rs;exact⟨as,s _ _ hc,p⟩
theorem tu{b:Bool}(s:cp B H):∀{ks:List (List (List Int))}{as:List Addr},(b=false->∀k∈ks,∃l,k=[l])->Reps K B (as.map V.ref) (ks.map (ir b))->Paired (mL H b) ks as
 | [],[],_,_=>.nil
 | [],_::_,_,r=>by cases r
 | _::_,[],_,r=>by cases r
 | k::ks,a::as,af,r=>by
  rw[aaa,aaa]at r;cases r with
  | cons h t=>exact .cons (wI s (fun z=>af z k ZJ) h) (tu s (fun z k' m=>af z k' (ZL _ m)) t)
theorem GK{b:Bool}{z:V}{GL:D}(h9:Rep K B z GL)(k:List (List Int)):∀{ks:List (List (List Int))}{vs:List V}{ds:List D},Reps K B vs ds->Rep K B ((cg ks vs k).getD z) ((cg ks ds k).getD GL)
 | [],_,_,_=>by simp only[cg,acb];exact h9
 | _::_,_,_,.nil=>by simp only[cg,acb];exact h9
 | k'::ks,_,_,.cons h t=>by
  rw[cg,cg];by_cases e:k'=k
  ·rw[if_pos e,if_pos e];exact h
  ·rw[if_neg e,if_neg e];exact GK (b:=b) h9 k t
theorem GN{d:D}(k:List (List Int)):∀{ks:List (List (List Int))}{vs:List V}{ds:List D},Reps K B vs ds->cg ks ds k=some d->∃v,cg ks vs k=some v/\Rep K B v d
 | [],_,_,_,e=>by simp[cg]at e
 | _::_,_,_,.nil,e=>by simp[cg]at e
 | k'::ks,_,_,.cons h t,e=>by
  rw[cg]at e ⊢;by_cases z:k'=k
  ·rw[if_pos z]at e ⊢;cases e;exact⟨_,rfl,h⟩
  ·rw[if_neg z]at e ⊢;exact GN k t e
theorem GO{v:V}{d:D}(r:Rep K B v d)(k:List (List Int)):∀{ks:List (List (List Int))}{vs:List V}{ds:List D},Reps K B vs ds->Reps K B (fb ks vs k v) (fb ks ds k d)
 | [],_,_,t=>by simp only[fb];exact t
 | _::_,_,_,.nil=>by simp only[fb];exact .nil
 | k'::ks,_,_,.cons h t=>by
  rw[fb,fb];refine .cons ?_ (GO r k t);by_cases e:k'=k
  ·rw[if_pos e,if_pos e];exact r
  ·rw[if_neg e,if_neg e];exact h
theorem Rd{v:V}{d:D}(r:Rep K B v d)(k:List (List Int)){ks:List (List (List Int))}{vs:List V}{ds:List D}(t:Reps K B vs ds):Reps K B (f6 ks vs k v) (f6 ks ds k d):=by
 unfold f6;by_cases m:k∈ks
 ·rw[if_pos m,if_pos m];exact GO r k t
 ·rw[if_neg m,if_neg m];exact t.append (.cons r .nil)
theorem Rf{b:Bool}{c:Addr}{k:List (List Int)}{ks:List (List (List Int))}{as:List Addr}(r:Rep K B (.ref c) (ir b k))(t:Reps K B (as.map V.ref) (ks.map (ir b))):
  Reps K B ((if k∈ks then as else as++[c]).map V.ref) ((fH ks k).map (ir b)):=by
 unfold fH;by_cases m:k∈ks
 ·rw[if_pos m,if_pos m];exact t
 ·rw[if_neg m,if_neg m,Z7,Z7];exact t.append (.cons r .nil)
end
def wJ(b:Bool)(k:List (List Int)):Prop:=b=false->∃l,k=[l]
theorem Rg{b:Bool}{k:List (List Int)}{ks:List (List (List Int))}(h:b=false->∀k∈ks,∃l,k=[l])(ah:wJ b k):b=false->∀k'∈fH ks k,∃l,k'=[l]:=fun z k' m=>by
 unfold fH at m;split at m
 ·exact h z k' m
 ·rcases aae.mp m with m|m
  ·exact h z k' m
  ·rw[aac.mp m];exact ah z
def Rh(b:Bool)(i:Nat):cI:=fun U ρ=>U.nx (ρ.set i (.own (.d b none [] [])))
def Ri(b:Bool)(n:Nat)(jx tv:a7):a7:=fun ρ k=>∃t ks ds,ρ[n]?=some (.own (.d b t ks ds))/\jx ρ fun y=>tv ρ fun z=>∃aZ,y=ir b aZ/\wJ b aZ/\k ((cg ks ds aZ).getD z)
def Rj(b:Bool)(n:Nat)(jx wK:a7):cI:=fun U ρ=>wK ρ fun d=>∃t ks ds,ρ[n]?=some (.own (.d b t ks ds))/\jx ρ fun y=>∃aZ,y=ir b aZ/\wJ b aZ/\ks.length<sizeLine/\U.nx (ρ.set n (.own (.d b t (fH ks aZ) (f6 ks ds aZ d))))
def Rk(b:Bool)(nX jx:a7):a7:=fun ρ k=>nX ρ fun x=>jx ρ fun y=>∃ks ds aZ d,x=.dct b ks ds/\y=ir b aZ/\wJ b aZ/\cg ks ds aZ=some d/\k d
def Rl(u:a7):cO:=fun ρ k=>u ρ fun x=>∃b ks ds,x=.dct b ks ds/\k (ks.map (ir b))
def Rm(i:Nat)(s:cI):cI:=fun U ρ=>∃b t ks ds,ρ[i]?=some (.own (.d b t ks ds))/\s U (ρ.set i (.val (.dct b ks ds)))
section
variable{X:aM}{b:Bool}{n:Nat}{x:Str}{px pos pos' apos cW tw:Pos}{o e f i value:Expr}{nX jx tv wK:a7}{bE:Expr}
theorem Rn{i:Nat}(bD:X.N.Nodup)(aD:X.N[i]?=some x)(aB:Loc X.env.scope x)(aq:swapsWith (.Dict [] [] tw) (some (.Name x pos')) pos.line X.env=pure false:=by rfl)(hf:X.fn x=true∨X.env.scope.names.lookup x=some .local:=by first|exact .inl rfl|exact .inr rfl|assumption):
  e7 X (.Assign [.Name x pos'] (.Dict [] [] tw) pos) (Rh b i):=by
 refine⟨_,oH bD aD aB (Q6 (b:=b)) aq hf,fun U ρ h R W B H σ D e s=>?_⟩;intro p ag;obtain⟨f1,f2,bO⟩:=e.toWd.fresh ag;exact s.nx _ _ B _ h ((e.allocH ag _).setC i f1 bO ⟨0,[],[],(fun _ z=>nomatch z),en,.nil,fun _ _ z=>by simp at z,.nil⟩ fun j _ m=>e.notNew ag m rfl) (bM.refl _ _)
theorem GP(n:Nat)(bA:X.A.units+4<cLine)(he:br X e jx)(hf:br X f tv)(bD:X.N[n]?=some x:=by rfl)(aP:gb X.env.scope x:=by first|exact Sz rfl|exact ZN (Sz rfl)|exact ZN (ZN rfl))(hd:(x==("__debug__":Str))=false:=by decide)(dB:(x==("__classdict__":Str))=false:=by decide)(ip:attributeBase (.Name x px) "get" X.env (eval (.Name x px) X.env)=eval (.Name x px) X.env:=by rfl)(kx:((backTo cW (starEach [e,f] X.env)).all (fun x => !x.1)&&(backToKw cW (keywordEach [] X.env)).all (fun x=>x.1.isSome)
   && decide (([e,f]:List Expr).length+([]:List Keyword).length+(if([]:List Keyword).isEmpty then 0 else 1)<30))=true:=by rfl)(iq:(apos.endLine==cW.line)=true:=by rfl)(Bj:backTo cW (starEach [e,f] X.env)=[(false,eval e X.env),(false,eval f X.env)]:=by rfl):
  br X (.Call (.Attribute (.Name x px) "get" apos) [e,f] [] cW) (Ri b n jx tv):=by
 obtain⟨_,aa,ar⟩:=he;obtain⟨_,ab,aF⟩:=hf;refine⟨_,Q1 (b:=b) bA (hG bD aP hd dB) aa ab ip kx iq Bj,fun ρ k z R W B H σ Q ev q=>?_⟩;obtain⟨t,ks,ds,aE,z⟩:=z;obtain⟨a,ai,av,bG,bq,as,vs,_,c4,eL,jU,D'⟩:=ev.ownC aE;refine⟨_,ai,a,rfl,⟨b,bq,ks,as,vs,c4,tu ev.bh jU eL⟩,?_⟩;refine ar ρ _ z R W B H σ _ ev fun y v a0 H1 z1 f1 g1 s1=>?_;refine aF ρ _ z1 R W a0 H1 σ _ f1 fun c9 v2 bH a3 aQ f2 g2 s2=>?_;obtain⟨aZ,rfl,ah,ay⟩:=aQ;obtain⟨c,rfl⟩:=Bp s1;obtain⟨eI,aG,aJ,bZ,jf,tx,kF,_,bQ,b4,b5,pq⟩:=f2.ownC aE;rw[ai]at aG;cases aG;exact⟨c,jf,ks,tx,kF,aZ,rfl,⟨bQ,tu f2.bh b5 b4⟩,wI f2.bh ah (s1.mono g2.s),q _ _ bH a3 ay f2 (g1.trans g2) (GK (b:=b) s2 aZ pq)⟩
theorem Ro(b:Bool)(bA:X.A.units+4<cLine)(aE:br X o nX)(he:br X e jx)(aq:qf e):br X (.Subscript o e pos) (Rk b nX jx):=by
 obtain⟨_,aa,ar⟩:=aE;obtain⟨_,ab,aF⟩:=he;refine⟨_,jP (Q0 (b:=b) bA) aa ab aq,fun ρ k z R W B H σ Q ev q=>?_⟩;refine ar ρ _ z R W B H σ _ ev fun x v a0 H1 z1 f1 g1 s1=>?_;refine aF ρ _ z1 R W a0 H1 σ _ f1 fun y v2 bH a3 aQ f2 g2 s2=>?_;obtain⟨ks,ds,aZ,d,rfl,rfl,ah,aj,ay⟩:=aQ;obtain⟨c,rfl⟩:=Bp s2;cases s1.mono g2.s with
 | @dct a _ bq _ as vs _ eD Bq u2 hI =>
  obtain⟨v,aP,b3⟩:=GN aZ hI aj;exact⟨a,c,bq,ks,as,vs,aZ,v,rfl,rfl,⟨f2.bh _ _ eD,tu f2.bh u2 Bq⟩,wI f2.bh ah s2,aP,q _ _ bH a3 ay f2 (g1.trans g2) b3⟩
theorem GQ(n:Nat)(bA:X.A.units+4<cLine)(he:br X e jx)(aP:br X value wK)(bD:X.N[n]?=some x:=by rfl)(Rp:gb X.env.scope x:=by first|exact Sz rfl|exact ZN (Sz rfl)|exact ZN (ZN rfl))(hd:(x==("__debug__":Str))=false:=by decide)(dB:(x==("__classdict__":Str))=false:=by decide)(aq:swapsWith value (some (.Subscript (.Name x px) e pos')) pos.line X.env=pure false:=by rfl):
  e7 X (.Assign [.Subscript (.Name x px) e pos'] value pos) (Rj b n jx wK):=by
 obtain⟨_,aa,ar⟩:=aP;obtain⟨_,ab,aF⟩:=he;refine⟨_,Q5 (b:=b) bA (hG bD Rp hd dB) ab aa aq,fun U ρ z R W B H σ D ev dw=>?_⟩;refine ar ρ _ z R W B H σ _ ev fun d v a0 H1 z1 f1 g1 s1=>?_;obtain⟨t,ks,ds,aE,z1⟩:=z1;obtain⟨a,ai,av,bG,_⟩:=f1.ownC aE;refine⟨_,ai,?_⟩;refine aF ρ _ z1 R W a0 H1 σ _ f1 fun y v2 bH a3 aQ f2 g2 s2=>?_;obtain⟨aZ,rfl,ah,aj,ay⟩:=aQ;obtain⟨c,rfl⟩:=Bp s2;obtain⟨eI,aG,aJ,bZ,bq,as,vs,ha,bQ,b4,b5,pq⟩:=f2.ownC aE;rw[ai]at aG;cases aG;refine⟨a,c,bq,ks,as,vs,aZ,rfl,rfl,⟨bQ,tu f2.bh b5 b4⟩,wI f2.bh ah s2,aj,fun jf=>?_⟩;exact dw.nx _ _ bH _ ay (f2.writeC ai aE ⟨jf,_,_,ha,en,Rf s2 b4,Rg b5 ah,Rd (s1.mono g2.s) aZ pq⟩) (g1.trans g2)
theorem Rq{st:List Stmt}{s:cI}(i:Nat)(h:fX X st s):fX X st (Rm i s):=by
 obtain⟨_,aa,ar⟩:=h;refine⟨_,aa,fun U ρ h R W B H σ D e dw=>?_⟩;obtain⟨b,t,ks,ds,aE,z⟩:=h;obtain⟨az,aT,g⟩:=e.fzD aE;exact ar U _ z R W az H σ D aT (dw.grow g)
theorem Rr{l:Expr}(aj:br X l nX):lH X bE l (Rl nX):=by
 obtain⟨_,aa,ar⟩:=aj;refine⟨_,Rc aa,fun ρ k h R W B H σ Q e q=>?_⟩;refine ar ρ _ h R W B H σ _ e fun d v a0 H1 z1 ai g1 s1=>?_;obtain⟨b,ks,ds,rfl,z⟩:=z1;cases s1 with
 | @dct a _ bq _ as vs _ eD Bq u2 hI =>
  refine⟨b,a,bq,ks,as,vs,rfl,ai.bh _ _ eD,q _ _ a0 H1 z ai g1 fun H' wL i=>⟨fun aD=>⟨wL _ _ eD,by simpa using aD⟩,fun aD=>⟨wL _ _ eD,by simpa using aD⟩,fun x a3 aD y=>?_⟩⟩;obtain⟨rfl,c,hc,rfl⟩:=y;obtain⟨d,hd,iz⟩:=Bq.getV (i:=i) (v:=.ref c) (by rw[aag,hc];rfl);exact⟨rfl,d,hd,iz⟩
end
theorem tA{A:Around}{k:Nat}(ak:eC k A):A.units+4<cLine:=adK (Nat.add_le_add_left (by decide:4<=64) _) ak.units
abbrev tB:=Bool->List (List (List Int))->List D->List D->(List (List (List Int))->List D->Prop)->Prop
def tC(K:PySem.W.Frag)(n:Nat)(F:tB):gN:=fun vs H Q _=>∃(B:ao)(a:Addr)(us:List V)(xs:List D)(b:Bool)(ks:List (List (List Int)))(ds:List D)(k:List (List (List Int))->List D->Prop),
 vs=.ref a::us/\F b ks ds xs k/\xs.length+1=n/\cp B H/\B a=none/\jS K B H a (.d b none ks ds)/\Reps K B us xs /\
 ∀ih ds' az H',k ih ds'->(∀c o,c≠a->H c=some o->H' c=some o)->cp az H'->cp B az->(∀c o,az c=some o->B c=some o∨c=a∨H c=none)->az a=none->jS K az H' a (.d b none ih ds')->Q .non H'
def Rt(m n:Nat)(F:tB)(w:cO):cI:=fun U ρ=>∃b t ks ds,ρ[m]?=some (.own (.d b t ks ds))/\w ρ fun xs=>xs.length+1=n/\F b ks ds xs fun ih ds'=>U.nx (ρ.set m (.own (.d b t ih ds')))
section
variable{K:PySem.W.Frag}
theorem Ru{P:Program}{w:World}{mg:Str->Option Value}{base:Heap}{x:Str}{st:Stmt}{N ps:List Str}{lv n:Nat}{F:tB}(oY:cD K mg x st ps)(S:cG N ps (b0 st))(aN:ps.length=n)(jg:∀(f:Addr) (cdv:Value) (A:Around) (outer:List abK) (s:Shared) (H:ao) (E:fB),eC lv (A.deeper (aci x (b0 st) s.heap.objs.size f cdv))->∃u,fX (kv jh P w K mg base N x (b0 st) f cdv A outer s H E).nox (ky st) u/\∀b t ks ds xs k,xs.length+1=n->F b ks ds xs k->u { nx:=fun ρ=>∃ih ds',ρ[0]?=some (.own (.d b t ih ds'))/\k ih ds',rt:=fun _=>False } (.own (.d b t ks ds)::xs.map aH.val++aad (N.length-n) .no)):aI P w K mg base x ps (lv+1) (tC K n F):=by
 refine oY.ok S (fun vs H Q E h=>?_) (fun f cdv A outer s H vs Q E ak h=>?_)
 ·obtain⟨B,a,us,xs,b,ks,ds,k,rfl,_,aj,_,_,_,rs,_⟩:=h;rw[Z8,rs.length,aj,aN]
 ·obtain⟨B,a,us,xs,b,ks,ds,k,rfl,jl,aj,sB,af,hc,rs,q⟩:=h;obtain⟨u,⟨t,bB,rt⟩,bA⟩:=jg f cdv A outer s H E ak;obtain⟨bq,as,vs,_,bQ,b4,b5,pq⟩:=hc;have hlen:=rs.length;have Br:(fun c=>if c=a then none else H c:ao) a=none:=if_pos rfl;have wM:∀c,c≠a->(fun c=>if c=a then none else H c:ao) c=H c:=fun c z=>if_neg z;generalize EO:(fun c=>if c=a then none else H c:ao)=R at Br wM;have ZE:(xs.map aH.val).length=us.length:=by rw[Zf];omega
  have Rv:(L2.start N (.ref a::us))[0]?=some (some (.ref a)):=rfl
  have atS:∀i v,us[i]?=some v->(L2.start N (.ref a::us))[i+1]?=some (some v):=fun i v h=>by
   have lt:i<us.length:=by
    by_cases z:i<us.length
    ·exact z
    ·rw[aaF (by omega)]at h;cases h
   unfold L2.start;rw[aaM (by rw[Zf,Z8];omega),aag,adL,h];rfl
  have look:∀(i:Nat)(aZ:aH),(aH.own (.d b (some a) ks ds)::xs.map aH.val++aad (N.length-n) aH.no)[i]?=some aZ->(i=0/\aZ=.own (.d b (some a) ks ds))∨(∃j d,i=j+1/\xs[j]?=some d/\aZ=.val d)∨aZ=.no:=fun i aZ h=>by
   cases i with
   | zero=>exact .inl ⟨rfl,(aab h).symm⟩
   | succ j =>
    rw[aaL,adL]at h;by_cases z:j<(xs.map aH.val).length
    ·rw[aaM z,aag]at h;cases y:xs[j]? with
     | none=>rw[y]at h;cases h
     | some d=>rw[y]at h;exact .inr (.inl ⟨j,d,rfl,y,(aab h).symm⟩)
    ·rw[aaJ (by omega),abk]at h;split at h
     ·exact .inr (.inr (aab h).symm)
     ·cases h
  have ev:Ev K R (fun _=>False) B H (L2.start N (.ref a::us)) (.own (.d b (some a) ks ds)::xs.map aH.val++aad (N.length-n) .no):=by
   refine⟨⟨fun c o h _=>?_,sB,fun _ z=>z.elim,fun _ z=>z.elim,fun _ z=>z.elim⟩,?_,fun i aZ h=>?_,fun i j c bw b8=>?_⟩
   ·by_cases z:c=a
    ·subst z;rw[Br]at h;cases h
    ·rw[wM c z]at h;exact h
   ·unfold L2.start;simp only[ZM,Zf,Z8,aa9];omega
   ·rcases look i aZ h with⟨rfl,rfl⟩|⟨j,d,rfl,hd,rfl⟩|rfl
    ·exact⟨a,by rw[Rv];rfl,Br,af,bq,as,vs,fun c z=>by cases z;rfl,bQ,b4,b5,pq⟩
    ·obtain⟨v,aP,b3⟩:=rs.get hd;exact⟨v,by rw[atS j v aP];rfl,b3⟩
    ·trivial
   ·have one:∀i,cP (L2.start N (.ref a::us)) (.own (.d b (some a) ks ds)::xs.map aH.val++aad (N.length-n) .no) i c->i=0:=fun i m=>by
     rcases m with⟨_,z|⟨_,z⟩⟩|⟨_,z,_⟩
     rotate_right
     ·rcases look i _ z with⟨rfl,y⟩|⟨j,d,rfl,hd,y⟩|y<;>cases y
     ·rcases look i _ z with⟨rfl,y⟩|⟨j,d,rfl,hd,y⟩|y<;>cases y
     ·rcases look i _ z with⟨rfl,y⟩|⟨j,d,rfl,hd,y⟩|y
      ·rfl
      ·cases y
      ·cases y
    rw[one i bw,one j b8]
  refine⟨t,bB,rt _ _ (bA b (some a) ks ds xs k aj jl) R (fun _=>False) B H (L2.start N (.ref a::us)) _ ev ⟨fun ρ σ az H' h e g=>?_,fun _ _ _ _ h=>h.elim,fun _ _ _ _ h=>h.elim,fun _ _ _ _ h=>h.elim⟩⟩;obtain⟨ih,ds',aE,ah⟩:=h;obtain⟨eI,bL,b1,g4,jf,tx,kF,gI,qO,Bs,Bt,Bu⟩:=e.ownC aE;have dq:a=eI:=gI a rfl;subst dq;refine q ih ds' az H' ah (fun c o hc dm=>e.fr c o (by rw[wM c hc];exact dm) fun z=>z) e.bh g.s (fun c o z=>?_) g4 ⟨jf,tx,kF,(fun _ z=>nomatch z),qO,Bs,Bt,Bu⟩;rcases g.n c o z with y|y
  ·exact .inl y
  ·by_cases aQ:c=a
   ·exact .inr (.inl aQ)
   ·rw[wM c aQ]at y;exact .inr (.inr y)
end
section
variable{X:aM}{m n:Nat}{x:Str}{px p pos wN:Pos}{e:Expr}{es:List Expr}{F:tB}{w:cO}
theorem GR{f:Str}{ps:List Str}{j lv:Nat}(m:Nat)(c:aI X.prog X.w X.K X.mg X.base f ps j (tC X.K n F))(ak:eC lv X.A)(aC:eB X f)(ax:oV X es w)(bD:X.N[m]?=some x:=by rfl)(aP:gb X.env.scope x:=by first|exact Sz rfl|exact ZN (Sz rfl)|exact ZN (ZN rfl))(hd:(x==("__debug__":Str))=false:=by decide)(dB:(x==("__classdict__":Str))=false:=by decide)(gQ:j<=lv:=by decide)(g0:(f==("__debug__":Str))=false:=by decide)(he:starEach (.Name x px::es) X.env=(false,eval (.Name x px) X.env)::starEach es X.env:=by rfl)(eK:(backTo pos (starEach es X.env)).any (·.1)=false:=by rfl)(aq:swapsWith (.Call (.Name f p) (.Name x px::es) [] pos) none wN.line X.env=pure false:=by rfl):
  e7 X (.Expr (.Call (.Name f p) (.Name x px::es) [] pos) wN) (Rt m n F w):=by
 obtain⟨_,aa,ar⟩:=ax;refine⟨_,rH (qk c ak aC (eh (hG bD aP hd dB) aa he) gQ g0 he eK) aq,fun U ρ h R W B H σ D ev dw=>?_⟩;obtain⟨b,t,ks,ds,aE,h⟩:=h;obtain⟨a,ai,av,bG,_⟩:=ev.ownC aE;refine⟨_,ai,?_⟩;refine ar ρ _ h R W B H σ _ ev fun xs vs a0 H1 z1 f1 g1 s1=>?_;obtain⟨qY,z1⟩:=z1;obtain⟨eI,aG,aJ,bZ,bq,as,us,ha,bQ,b4,b5,pq⟩:=f1.ownC aE;rw[ai]at aG;cases aG;show tC X.K n F ((.ref a::vs)++[]) H1 _ _
 rw[Z'];refine⟨a0,a,vs,xs,b,ks,ds,_,rfl,z1,qY,f1.bh,bZ,⟨bq,as,us,(fun _ z=>nomatch z),bQ,b4,b5,pq⟩,s1,fun ih ds' az H' ah fr sB s2 jR Rw Rx=>?_⟩;have GS:¬W a:=fun z=>f1.wr a z aJ;have bF:cP σ ρ m a:=.inl ⟨ai,.inr ⟨_,aE⟩⟩
 have nb:∀c,c≠a->a0 c=none->H1 c≠none->az c=none:=fun c hc aa ab=>by
  cases z:az c with
  | none=>rfl
  | some o =>
   rcases jR c o z with y|y|y
   ·rw[aa]at y;cases y
   ·exact absurd y hc
   ·exact absurd y ab
 have f0:Ev X.K R W a0 H1 (σ.set m (some .non)) (ρ.set m .no):=f1.set m trivial fun _ _ z=>by rcases z with z|⟨_,z⟩<;>cases z
 have wd:Wd R W az H':=by
  refine⟨fun c o h nw=>fr c o (by rintro rfl;rw[aJ]at h;cases h) (f1.fr c o h nw),sB,fun c z=>?_,fun c z=>?_,f1.wr⟩
  ·obtain⟨bI,c9,qZ,_⟩:=f1.wh c z;exact nb c (by rintro rfl;exact GS z) (f1.wb c z) (by rw[qZ];simp)
  ·obtain⟨bI,c9,qZ,mw⟩:=f1.wh c z;exact⟨bI,c9,fr c _ (by rintro rfl;exact GS z) qZ,mw⟩
 have keep:∀c,c≠a->H1 c≠none->H' c=H1 c:=fun c hc aN=>by
  cases z:H1 c with
  | none=>exact absurd z aN
  | some o=>exact fr c o hc z
 have f2:Ev X.K R W az H' (σ.set m (some .non)) (ρ.set m .no):=f0.move wd s2 fun i c f'=>by
  have ne:c≠a:=by
   rintro rfl;obtain⟨jY,f'⟩:=r0 f' (by simp) (by simp) rfl;exact jY (f1.sep i m c f' bF)
  obtain⟨bI,c9⟩:=f0.mutOk f';refine⟨nb c ne bI c9,fun z=>?_,fun _=>keep c ne c9⟩;obtain⟨d0,w1,_,_,Ry⟩:=f0.bagAt z;rw[oT f' z]at w1;cases w1;obtain⟨bK,eS,k2,i7⟩:=Ry;exact⟨bK,eS,by rw[keep c ne c9];exact k2,i7⟩
 obtain⟨jf,tx,jo,_,qO,Bs,Bt,Bu⟩:=Rx
 have bO:=f2.setC m (c:=.d b t ih ds') aJ Rw ⟨jf,tx,jo,ha,qO,Bs,Bt,Bu⟩ fun j bP f'=>by
  obtain⟨jY,f'⟩:=r0 f' (by simp) (by simp) rfl;exact jY (f1.sep j m a f' bF)
 rw[abw,abw]at bO
 have q:σ.set m (some (.ref a))=σ:=by
  apply abJ;intro j;by_cases z:m=j
  ·subst z
   have lt:m<σ.length:=by
    by_cases z:m<σ.length
    ·exact z
    ·rw[aaF (by omega)]at ai;cases ai
   rw[aa8 lt,ai]
  ·rw[aaV z]
 rw[q]at bO;refine dw.nx _ _ az H' ah bO (g1.trans ⟨s2,fun c o z=>?_⟩);rcases jR c o z with y|y|y
 ·exact .inl y
 ·subst y;exact .inr aJ
 ·exact .inr (f1.toWd.fresh y).1
end
end L3
namespace Cut
open PySem L2 L3
abbrev ek(ps:List P3):D:=.lst (ps.map dP)
theorem GU{α β:Type}{f:α->β}{L:List α}{i:Int}(aa : -(L.length:Int)<=i)(ab:i<L.length):∃x∈L,dE (L.map f) i=some (f x):=by
 have e:∃j,L2.ixN (L.map f).length i=some j/\j<L.length:=by
  unfold L2.ixN;rw[Zf];by_cases h0:0<=i
  ·rw[if_pos h0,if_pos ab];exact⟨_,rfl,by omega⟩
  ·rw[if_neg h0,if_pos aa];exact⟨_,rfl,by omega⟩
 obtain⟨j,e,bP⟩:=e;refine⟨L[j],ac0 _,?_⟩;unfold dE;rw[e];simp[bP]
end Cut
namespace Cut
open PySem L2 L3
open PySem.Builtin.Int (intBits)
abbrev GV:=List (List P3)
end Cut
namespace Cut
open PySem L2 L3
def dL(p:P3):List Int:=[p.1,p.2.1,p.2.2]
def jy(l:P3):Int:=(aav (aav l.1.natAbs l.2.1.natAbs) l.2.2.natAbs:Nat)
def k3(l:P3):Prop:=l.1<0∨(l.1=0/\l.2.1<0)
instance(l:P3):Decidable (k3 l):=by unfold k3;infer_instance
def gr(l:P3):Int:=if k3 l then -jy l else jy l
def hh(l:P3):P3:=(l.1/gr l,l.2.1/gr l,l.2.2/gr l)
theorem GW(l:P3):jy l∣l.1/\jy l∣l.2.1/\jy l∣l.2.2:=by
 unfold jy;refine⟨?_,?_,?_⟩
 ·exact abI.mpr (acg (abU _ _) (abU _ _))
 ·exact abI.mpr (acg (abU _ _) (acf _ _))
 ·exact abI.mpr (acf _ _)
theorem tD(l:P3):gr l∣l.1/\gr l∣l.2.1/\gr l∣l.2.2:=by
 obtain⟨a,b,c⟩:=GW l;unfold gr;split
 ·exact⟨abF.mpr a,abF.mpr b,abF.mpr c⟩
 ·exact⟨a,b,c⟩
theorem Rz(c:Int)(l:P3):jy (sc c l)=c.natAbs*jy l:=by
 unfold jy sc;dsimp only;rw[aa1,aa1,aa1,ach,ach,Int.natCast_mul]
theorem RA{c:Int}{l:P3}(hc:c≠0)(aj:l.1≠0∨l.2.1≠0):gr (sc c l)=c*gr l:=by
 have down:k3 (sc c l)↔(if 0<c then k3 l else ¬k3 l):=by
  unfold k3 sc;dsimp only;split
  ·rename_i h
   constructor
   ·rintro(z|⟨z,y⟩)
    ·exact .inl (by
      by_cases q:l.1<0
      ·exact q
      ·have:=aaH (aas h) (show 0<=l.1 by omega)
       omega)
    ·have z:=(aaG.mp z).resolve_left hc;refine .inr ⟨z,?_⟩;by_cases q:l.2.1<0
     ·exact q
     ·have:=aaH (aas h) (show 0<=l.2.1 by omega);omega
   ·rintro(z|⟨z,y⟩)
    ·exact .inl (aaj h z)
    ·exact .inr ⟨by rw[z,aai],aaj h y⟩
  ·rename_i h
   have h:c<0:=by omega
   constructor
   ·rintro(z|⟨z,y⟩) (q|⟨q,r⟩)
    ·have:=abA h q;omega
    ·rw[q,aai]at z;omega
    ·have z:=(aaG.mp z).resolve_left hc;omega
    ·have:=abA h r;omega
   ·intro z;have z1:¬l.1<0:=fun q=>z (.inl q);by_cases q:l.1=0
    ·refine .inr ⟨by rw[q,aai],abf h ?_⟩;have aQ:¬l.2.1<0:=fun r=>z (.inr ⟨q,r⟩);rcases aj with w|w
     ·exact absurd q w
     ·omega
    ·exact .inl (abf h (by omega))
 unfold gr;rw[Rz];by_cases h:0<c
 ·rw[if_pos h]at down;have e:((c.natAbs:Nat):Int)=c:=by omega
  by_cases d:k3 l
  ·rw[if_pos (down.mpr d),if_pos d,e,acv]
  ·rw[if_neg (fun z=>d (down.mp z)),if_neg d,e]
 ·rw[if_neg h]at down;have e:((c.natAbs:Nat):Int) = -c:=by omega
  by_cases d:k3 l
  ·rw[if_neg (fun z=>down.mp z d),if_pos d,e,acv,abH]
  ·rw[if_pos (down.mpr d),if_neg d,e,abH,Int.neg_neg]
theorem wO{l:P3}(aj:l.1≠0∨l.2.1≠0):gr l≠0:=by
 have g:jy l≠0:=fun z=>by
  obtain⟨a,b,_⟩:=GW l;rw[z]at a b;have a:=Int.zero_dvd.mp a;have b:=Int.zero_dvd.mp b;rcases aj with h|h<;>contradiction
 unfold gr;split
 ·omega
 ·exact g
theorem Bv{c x g:Int}(hc:c≠0)(aC:g≠0)(h:g∣x):c*x/(c*g)=x/g:=by
 obtain⟨k,rfl⟩:=h;rw[adM _ aC,<-abc,adM _ (aah hc aC)]
theorem n8{c:Int}{l:P3}(hc:c≠0)(aj:l.1≠0∨l.2.1≠0):hh (sc c l)=hh l:=by
 obtain⟨a,b,d⟩:=tD l;have g:=wO aj;unfold hh;rw[RA hc aj];unfold sc;dsimp only;rw[Bv hc g a,Bv hc g b,Bv hc g d]
def d7(p q:P3):P3:=hh (crs p q)
def dZ(p q x:P3):List (List Int):=[dL (d7 p q),dL x]
def fI(φ:List (List Int)->Int)(p q:P3):Rat:=((φ (dZ p q p):Int):Rat)-((φ (dZ p q q):Int):Rat)
def dc(φ:List (List Int)->Int)(ps:List P3):Rat:=d6 (fI φ) (da ps)
def e2(φ:List (List Int)->Int)(rs:List (List P3)):Rat:=(rs.map (dc φ)).sum
def fi(rs b6:List (List P3)):Prop:=∀φ,e2 φ rs=e2 φ b6
theorem RB{l w:P3}(aj:l.1≠0∨l.2.1≠0)(hw:w.1≠0∨w.2.1≠0)(h:crs l w=(0,0,0)):hh l=hh w:=by
 have aa:l.2.1*w.2.2-l.2.2*w.2.1=0:=congrArg (·.1) h;have ab:l.2.2*w.1-l.1*w.2.2=0:=congrArg (·.2.1) h;have aL:l.1*w.2.1-l.2.1*w.1=0:=congrArg (·.2.2) h;by_cases a:l.1=0
 ·have b:l.2.1≠0:=aj.resolve_left fun z=>z a
  have w1:w.1=0:=by
   rw[a]at aL;have:l.2.1*w.1=0:=by omega
   exact(aaG.mp this).resolve_left b
  have cZ:w.2.1≠0:=hw.resolve_left fun z=>z w1;have e:sc w.2.1 l=sc l.2.1 w:=ee (by show w.2.1*l.1=l.2.1*w.1;rw[a,w1];simp) (by show w.2.1*l.2.1=l.2.1*w.2.1;rw[aak]) (by show w.2.1*l.2.2=l.2.1*w.2.2;grind);rw[<-n8 cZ aj,e,n8 b hw]
 ·have w1:w.1≠0:=fun z=>by
   rw[z]at aL;have:l.1*w.2.1=0:=by omega
   have:=(aaG.mp this).resolve_left a;rcases hw with q|q
   ·exact q z
   ·exact q this
  have e:sc w.1 l=sc l.1 w:=ee (by show w.1*l.1=l.1*w.1;rw[aak]) (by show w.1*l.2.1=l.1*w.2.1;grind) (by show w.1*l.2.2=l.1*w.2.2;grind);rw[<-n8 w1 aj,e,n8 a hw]
theorem j6{u v:P3}(bA:aR u)(aP:aR v)(h:u≠v):(crs u v).1≠0∨(crs u v).2.1≠0:=by
 by_cases a:(crs u v).1=0
 ·right;intro b;have a:u.2.1*v.2.2-u.2.2*v.2.1=0:=a;have b:u.2.2*v.1-u.1*v.2.2=0:=b;obtain⟨ai,av,bG⟩:=u9 bA aP (by grind) (by grind);exact h (ee ai av bG)
 ·exact .inl a
theorem RC{l u v:P3}(bA:ln l u=0)(aP:ln l v=0):crs l (crs u v)=(0,0,0):=by
 unfold ln at bA aP;refine ee ?_ ?_ ?_<;>simp only[crs]<;>grind
theorem RD{l u v:P3}(aj:l.1≠0∨l.2.1≠0)(bA:aR u)(aP:aR v)(h:u≠v)(sm:ln l u=0)(lv:ln l v=0):d7 u v=hh l:=(RB aj (j6 bA aP h) (RC sm lv)).symm
theorem RE(u v:P3):crs v u=sc (-1) (crs u v):=by refine ee ?_ ?_ ?_<;>simp only[crs,sc]<;>grind
theorem GX{u v:P3}(bA:aR u)(aP:aR v):d7 v u=d7 u v:=by
 by_cases h:u=v
 ·rw[h]
 ·unfold d7;rw[RE,n8 (by decide) (j6 bA aP h)]
theorem Bw{s b:Int}{x w:P3}(aq:s≠0)(af:b≠0)(hw:w.1≠0∨w.2.1≠0)(e:sc s x=sc b w):hh x=hh w:=by
 obtain⟨ai,av,_⟩:=Ah e
 have aB:x.1≠0∨x.2.1≠0:=by
  rcases hw with h|h
  ·left;intro z;rw[z,aai]at ai;exact aah af h ai.symm
  ·right;intro z;rw[z,aai]at av;exact aah af h av.symm
 rw[<-n8 aq aB,e,n8 af hw]
theorem wQ{p q m:P3}(ag:aR p)(ay:aR q)(h:p≠q)(b:gq p q m):d7 p m=d7 p q/\d7 m q=d7 p q:=by
 obtain⟨s,a,c,s0,fG,ha,e⟩:=b;obtain⟨ai,av,bG⟩:s*m.1=a*p.1+c*q.1/\s*m.2.1=a*p.2.1+c*q.2.1/\s*m.2.2=a*p.2.2+c*q.2.2:=⟨congrArg (·.1) e,congrArg (·.2.1) e,congrArg (·.2.2) e⟩;have w:=j6 ag ay h;constructor
 ·refine Bw (s:=s) (b:=c) (by omega) (by omega) w ?_;refine ee ?_ ?_ ?_<;>simp only[crs,sc]<;>grind
 ·refine Bw (s:=s) (b:=a) (by omega) (by omega) w ?_;refine ee ?_ ?_ ?_<;>simp only[crs,sc]<;>grind
section
variable(φ:List (List Int)->Int)(l:P3)
def l1(x:P3):Rat:=((φ [dL (hh l),dL x]:Int):Rat)
def hi(p q:P3):Rat:=fI φ p q-(l1 φ l p-l1 φ l q)
end
theorem GY{T1 T2:P3->P3->Rat}:∀(es:List (P3×P3)),d6 (fun p q=>T1 p q-T2 p q) es=d6 T1 es-d6 T2 es
 | []=>by rw[hz,hz,hz];grind
 | e::es=>by rw[gK,gK,gK,GY es];grind
theorem wR{T1 T2:P3->P3->Rat}:∀{es:List (P3×P3)},(∀e∈es,T1 e.1 e.2=T2 e.1 e.2)->d6 T1 es=d6 T2 es
 | [],_=>rfl
 | e::es,h=>by rw[gK,gK,h e ZJ,wR fun e he=>h e (ZL _ he)]
theorem RF(h:P3->Rat)(ps:List P3):d6 (fun p q=>h p-h q) (da ps)=0:=by
 cases ps with
 | nil=>rfl
 | cons a r =>
  have e:bX (bX (0,0,1) (a::r)) (a::r)=bX (0,0,1) (a::r):=qS (by simp);unfold da;rw[Gp,e];grind
theorem Bx(φ:List (List Int)->Int)(l:P3)(ps:List P3):d6 (hi φ l) (da ps)=dc φ ps:=by
 unfold hi dc;rw[GY (T1:=fI φ) (T2:=fun p q=>l1 φ l p-l1 φ l q),RF];grind
theorem By(φ:List (List Int)->Int)(u:P3):fI φ u u=0:=by unfold fI;grind
theorem wU{φ:List (List Int)->Int}{l u v:P3}(aj:l.1≠0∨l.2.1≠0)(bA:aR u)(aP:aR v)(sm:ln l u=0)(lv:ln l v=0):hi φ l u v=0:=by
 by_cases h:u=v
 ·subst h;unfold hi;rw[By];grind
 ·unfold hi fI l1 dZ;rw[RD aj bA aP h sm lv];grind
section
variable{l o:P3}{ps:List P3}
theorem GZ(φ:List (List Int)->Int)(aj:l.1≠0∨l.2.1≠0)(aE:aR o)(lo:ln l o=0)(aP:∀p∈ps,aR p):dc φ (keepR (ln l) (aX l) ps)=d6 (hX (ln l) (aX l) (hi φ l)) (da ps):=by
 have tE:∀p q,aR p->aR q->ln l p*ln l q<0->aR (aX l p q):=fun p q ag ay c=>by
  rw[<-jv ag ay];exact fh (jw ag ay c)
 have a':∀u v,aR u->aR v->ln l u=0->ln l v=0->hi φ l u v=0:=fun u v bA aP a b=>wU aj bA aP a b;unfold keepR;split
 ·rw[<-Bx φ l];exact Gl (V:=aR) a' (fun p q ag ay c=>⟨tE p q ag ay c,qT c⟩) o aE lo aP
 ·rename_i n
  rw[A8 (V:=aR) a' fun e he=>?_]
  ·rfl
  ·obtain⟨aa,ab⟩:=j4 he;have a:¬0<ln l e.1:=fun z=>n ⟨_,aa,z⟩;have b:¬0<ln l e.2:=fun z=>n ⟨_,ab,z⟩;exact⟨aP _ aa,aP _ ab,by omega,by omega⟩
theorem G0(φ:List (List Int)->Int)(aj:l.1≠0∨l.2.1≠0)(aE:aR o)(lo:ln l o=0)(aP:∀p∈ps,aR p):dc φ (keepR (fun c => -ln l c) (aX l) ps)=d6 (hX (fun c => -ln l c) (aX l) (hi φ l)) (da ps):=by
 have tE:∀p q,aR p->aR q->ln l p*ln l q<0->aR (aX l p q):=fun p q ag ay c=>by
  rw[<-jv ag ay];exact fh (jw ag ay c)
 have a':∀u v,aR u->aR v -> -ln l u=0 -> -ln l v=0->hi φ l u v=0:=fun u v bA aP a b=>wU aj bA aP (by omega) (by omega);unfold keepR;split
 ·rw[<-Bx φ l];refine Gl (f:=fun c => -ln l c) (V:=aR) a' (fun p q ag ay c=>?_) o aE (by show -ln l o=0;omega) aP;have c:ln l p*ln l q<0:=by rw[aa5]at c;exact c
  exact⟨tE p q ag ay c,by show -ln l (aX l p q)=0;rw[qT c];rfl⟩
 ·rename_i n
  rw[A8 (f:=fun c => -ln l c) (V:=aR) a' fun e he=>?_]
  ·rfl
  ·obtain⟨aa,ab⟩:=j4 he;have a:¬0 < -ln l e.1:=fun z=>n ⟨_,aa,z⟩;have b:¬0 < -ln l e.2:=fun z=>n ⟨_,ab,z⟩;exact⟨aP _ aa,aP _ ab,by show -ln l e.1<=0;omega,by show -ln l e.2<=0;omega⟩
theorem Bz{p q:P3}(c:ln l p*ln l q<0):p≠q:=by
 rintro rfl
 have:0<=ln l p*ln l p:=by
  rcases Int.le_total 0 (ln l p)with h|h
  ·exact aaH h h
  ·exact acs h h
 omega
theorem RG{φ:List (List Int)->Int}{p q m:P3}(ag:aR p)(ay:aR q)(h:p≠q)(b:gq p q m):hi φ l p m+hi φ l m q=hi φ l p q:=by
 obtain⟨ai,av⟩:=wQ ag ay h b;unfold hi fI dZ;rw[ai,av];grind
theorem wV(φ:List (List Int)->Int)(aj:l.1≠0∨l.2.1≠0)(aE:aR o)(lo:ln l o=0)(aP:∀p∈ps,aR p):dc φ (keepR (ln l) (aX l) ps)+dc φ (keepR (fun c => -ln l c) (aX l) ps)=dc φ ps:=by
 rw[GZ φ aj aE lo aP,G0 φ aj aE lo aP,<-Bx φ l];refine Gm fun e he=>?_;obtain⟨aa,ab⟩:=j4 he;exact Qx (V:=aR) (fun u v bA aP a b=>wU aj bA aP a b) (aP _ aa) (aP _ ab) fun c=>RG (aP _ aa) (aP _ ab) (Bz c) (pk c)
end
def i8:List Int->P3
 | [a,b,c]=>(a,b,c)
 | _=>(0,0,0)
theorem wW(p:P3):i8 (dL p)=p:=rfl
def j7(s:Int)(φ:List (List Int)->Int)(l:P3):List (List Int)->Int
 | [k,x]=>if 0<s*ln l (i8 x)then φ [k,x]-φ [dL (hh l),x]-(φ [k,dL (nP (crs l (i8 k)))]-φ [dL (hh l),dL (nP (crs l (i8 k)))])else 0
 | _=>0
theorem BA{l p q:P3}(ag:aR p)(ay:aR q)(h:p≠q)(aN:(crs l (crs p q)).2.2≠0):nP (crs l (d7 p q))=nP (crs l (crs p q)):=by
 have w:=j6 ag ay h;have g:=wO w;obtain⟨bL,b1,g4⟩:=tD (crs p q)
 have e:crs p q=sc (gr (crs p q)) (d7 p q):=by
  unfold d7 hh sc;refine ee ?_ ?_ ?_
  ·exact(abR bL).symm
  ·exact(abR b1).symm
  ·exact(abR g4).symm
 have av:crs l (crs p q)=sc (gr (crs p q)) (crs l (d7 p q)):=by
  conv=>lhs;rw[e]
  refine ee ?_ ?_ ?_<;>simp only[crs,sc]<;>grind
 have pt:=fh aN;obtain⟨c,ha,hc⟩:=i4 aN;exact(qG (M:=crs l (d7 p q)) (h:=nP (crs l (crs p q))) g ha pt (by rw[<-av];exact hc)).2
theorem G1{l p q:P3}(ag:aR p)(ay:aR q)(mJ:ln l p≠0)(j5:ln l q=0):nP (crs l (d7 p q))=q/\nP (crs l (d7 q p))=q:=by
 have ne:p≠q:=by rintro rfl;exact mJ j5
 have e:crs l (crs p q)=sc (-ln l p) q:=by
  unfold ln at j5 ⊢;refine ee ?_ ?_ ?_<;>simp only[crs,sc]<;>grind
 have j2:=ay.1
 have aN:(crs l (crs p q)).2.2≠0:=by
  rw[e];exact aah (by omega) (by omega)
 have a:nP (crs l (d7 p q))=q:=by
  rw[BA ag ay ne aN];exact(qG (M:=crs l (crs p q)) (G:=1) (c :=-ln l p) (by decide) (by omega) ay (by rw[e];unfold sc;simp)).2
 exact⟨a,by rw[GX ag ay];exact a⟩
theorem wX(a b:Int):((a-b:Int):Rat)=(a:Rat)-(b:Rat):=by grind
section
variable{l:P3}{φ:List (List Int)->Int}
theorem wY{s:Int}{k:List Int}{x:P3}(h:0<s*ln l x):((j7 s φ l [k,dL x]:Int):Rat)=((φ [k,dL x]:Int):Rat)-l1 φ l x-(((φ [k,dL (nP (crs l (i8 k)))]:Int):Rat)-l1 φ l (nP (crs l (i8 k)))):=by
 have e:j7 s φ l [k,dL x]=φ [k,dL x]-φ [dL (hh l),dL x]-(φ [k,dL (nP (crs l (i8 k)))]-φ [dL (hh l),dL (nP (crs l (i8 k)))]):=by
  show(if 0<s*ln l x then _ else _)=_
  rw[if_pos h]
 rw[e,wX,wX,wX];rfl
theorem pv{s:Int}{k:List Int}{x:P3}(h:¬0<s*ln l x):((j7 s φ l [k,dL x]:Int):Rat)=0:=by
 have e:j7 s φ l [k,dL x]=0:=by
  show(if 0<s*ln l x then _ else _)=_
  rw[if_neg h]
 rw[e];rfl
theorem G2(aj:l.1≠0∨l.2.1≠0){p q:P3}(ag:aR p)(ay:aR q){s:Int}(aq:s=1∨s = -1):hX (fun c=>s*ln l c) (aX l) (hi φ l) p q=fI (j7 s φ l) p q:=by
 have wZ:∀a b:Int,(s*a)*(s*b)=a*b:=fun a b=>by rcases aq with rfl|rfl<;>grind
 unfold hX;dsimp only;rw[wZ];have s0:∀x:Int,s*x=0->x=0:=fun x h=>by rcases aq with rfl|rfl<;>omega
 have key:fI (j7 s φ l) p q=((j7 s φ l [dL (d7 p q),dL p]:Int):Rat)-((j7 s φ l [dL (d7 p q),dL q]:Int):Rat):=rfl;rw[key];rcases aa4 (s*ln l p) 0 with a|a|a
 ·rw[if_neg (show ¬0<=s*ln l p by omega),pv (show ¬0<s*ln l p by omega)];by_cases b:0<s*ln l q
  ·have c:ln l p*ln l q<0:=by rw[<-wZ];exact abf a b
   have ne:=Bz c;obtain⟨ai,av⟩:=wQ ag ay ne (pk c);have em:nP (crs l (i8 (dL (d7 p q))))=aX l p q:=by rw[wW,BA ag ay ne (jw ag ay c),jv ag ay]
   rw[if_pos c,wY b,em];unfold hi fI dZ;rw[av];grind
  ·have c:¬ln l p*ln l q<0:=by rw[<-wZ];have:=acs (show s*ln l p<=0 by omega) (show s*ln l q<=0 by omega);omega
   rw[if_neg c,pv b];grind
 ·have mJ:=s0 _ a;have c:¬ln l p*ln l q<0:=by rw[mJ,aa3];omega
  rw[if_pos (show 0<=s*ln l p by omega),pv (show ¬0<s*ln l p by omega),if_neg c];rcases aa4 (s*ln l q) 0 with b|b|b
  ·rw[if_neg (show ¬0<=s*ln l q by omega),pv (show ¬0<s*ln l q by omega)];grind
  ·rw[if_pos (show 0<=s*ln l q by omega),pv (show ¬0<s*ln l q by omega),wU aj ag ay mJ (s0 _ b)];grind
  ·have j5:ln l q≠0:=fun z=>by rw[z,aai]at b;omega
   have em:nP (crs l (i8 (dL (d7 p q))))=p:=by rw[wW];exact(G1 ay ag j5 mJ).2
   rw[if_pos (show 0<=s*ln l q by omega),wY b,em];unfold hi fI dZ;grind
 ·have mJ:ln l p≠0:=fun z=>by rw[z,aai]at a;omega
  rw[if_pos (show 0<=s*ln l p by omega),wY a];rcases aa4 (s*ln l q) 0 with b|b|b
  ·have c:ln l p*ln l q<0:=by rw[<-wZ];exact aaj a b
   have ne:=Bz c;obtain⟨ai,av⟩:=wQ ag ay ne (pk c);have em:nP (crs l (i8 (dL (d7 p q))))=aX l p q:=by rw[wW,BA ag ay ne (jw ag ay c),jv ag ay]
   rw[if_neg (show ¬0<=s*ln l q by omega),if_pos c,pv (show ¬0<s*ln l q by omega),em];unfold hi fI dZ;rw[ai];grind
  ·have em:nP (crs l (i8 (dL (d7 p q))))=q:=by rw[wW];exact(G1 ag ay mJ (s0 _ b)).1
   rw[if_pos (show 0<=s*ln l q by omega),pv (show ¬0<s*ln l q by omega),em];unfold hi fI dZ;grind
  ·rw[if_pos (show 0<=s*ln l q by omega),wY b];unfold hi fI dZ;grind
theorem G3{o:P3}{ps:List P3}(aj:l.1≠0∨l.2.1≠0)(aE:aR o)(lo:ln l o=0)(aP:∀p∈ps,aR p):dc φ (keepR (ln l) (aX l) ps)=dc (j7 1 φ l) ps/\dc φ (keepR (fun c => -ln l c) (aX l) ps)=dc (j7 (-1) φ l) ps:=by
 rw[GZ φ aj aE lo aP,G0 φ aj aE lo aP];constructor
 ·refine wR fun e he=>?_;obtain⟨aa,ab⟩:=j4 he;have:=G2 (φ:=φ) aj (aP _ aa) (aP _ ab) (s:=1) (.inl rfl);rw[<-this];congr 1;funext c;rw[ac7]
 ·refine wR fun e he=>?_;obtain⟨aa,ab⟩:=j4 he;have:=G2 (φ:=φ) aj (aP _ aa) (aP _ ab) (s :=-1) (.inr rfl);rw[<-this];congr 1;funext c;rw[Int.neg_one_mul]
end
theorem fi.keep{l o:P3}{rs b6:List (List P3)}(h:fi rs b6)(aj:l.1≠0∨l.2.1≠0)(aE:aR o)(lo:ln l o=0)(ak:∀ps∈rs,∀p∈ps,aR p)(ay:∀ps∈b6,∀p∈ps,aR p):
  fi (rs.map (keepR (ln l) (aX l))) (b6.map (keepR (ln l) (aX l)))/\fi (rs.map (keepR (fun c => -ln l c) (aX l))) (b6.map (keepR (fun c => -ln l c) (aX l))):=by
 have one:∀(L:List (List P3)) φ,(∀ps∈L,∀p∈ps,aR p)->e2 φ (L.map (keepR (ln l) (aX l)))=e2 (j7 1 φ l) L:=fun L φ eW=>by
  unfold e2;rw[aap];congr 1;exact abg fun ps ag=>(G3 aj aE lo (eW ps ag)).1
 have two:∀(L:List (List P3)) φ,(∀ps∈L,∀p∈ps,aR p)->e2 φ (L.map (keepR (fun c => -ln l c) (aX l)))=e2 (j7 (-1) φ l) L:=fun L φ eW=>by
  unfold e2;rw[aap];congr 1;exact abg fun ps ag=>(G3 aj aE lo (eW ps ag)).2
 exact⟨fun φ=>by rw[one rs φ ak,one b6 φ ay];exact h _,fun φ=>by rw[two rs φ ak,two b6 φ ay];exact h _⟩
theorem G4(m:P3->P3):∀(z:P3)(L:List P3),cT (m z) (L.map m)=(cT z L).map fun e=>(m e.1,m e.2)
 | _,[]=>rfl
 | z,p::L=>by
  show(m z,m p)::cT (m p) (L.map m)=_
  rw[G4 m p L];rfl
theorem G5(m:P3->P3):∀(z:P3)(L:List P3),bX (m z) (L.map m)=m (bX z L)
 | _,[]=>rfl
 | z,p::L=>G5 m p L
theorem BB(m:P3->P3)(ps:List P3):da (ps.map m)=(da ps).map fun e=>(m e.1,m e.2):=by
 cases ps with
 | nil=>rfl
 | cons a r =>
  unfold da
  have e:bX (0,0,1) ((a::r).map m)=m (bX (0,0,1) (a::r)):=by
   rw[<-G5 m (0,0,1) (a::r)];exact qS (by simp)
  rw[e,G4]
theorem RH{T:P3->P3->Rat}(m:P3->P3)(es:List (P3×P3)):d6 T (es.map fun e=>(m e.1,m e.2))=d6 (fun p q=>T (m p) (m q)) es:=by
 unfold d6;rw[aap];rfl
structure jz (m A:P3->P3):Prop where
 lin:∀c l,A (sc c l)=sc c (A l)
 ne:∀l:P3,(l.1≠0∨l.2.1≠0)->(A l).1≠0∨(A l).2.1≠0
 pt:∀p,aR p->aR (m p)
 ln:∀p q,aR p->aR q->∃g h:Int,g≠0/\h≠0/\sc g (crs (m p) (m q))=sc h (A (crs p q))
def BC(m A:P3->P3)(φ:List (List Int)->Int):List (List Int)->Int
 | [k,x]=>φ [dL (hh (A (i8 k))),dL (m (i8 x))]
 | _=>0
theorem G6{p q:P3}:crs p q=sc (gr (crs p q)) (d7 p q):=by
 obtain⟨bL,b1,g4⟩:=tD (crs p q);unfold d7 hh sc;refine ee ?_ ?_ ?_
 ·exact(abR bL).symm
 ·exact(abR b1).symm
 ·exact(abR g4).symm
theorem RI{p q:P3}(ag:aR p)(ay:aR q)(h:p≠q):(d7 p q).1≠0∨(d7 p q).2.1≠0:=by
 have w:=j6 ag ay h;rw[G6]at w;rcases w with w|w
 ·exact .inl fun z=>w (by show _*(d7 p q).1=0;rw[z,aai])
 ·exact .inr fun z=>w (by show _*(d7 p q).2.1=0;rw[z,aai])
theorem jz.line{m A:P3->P3}(M:jz m A){p q:P3}(ag:aR p)(ay:aR q)(h:p≠q):d7 (m p) (m q)=hh (A (d7 p q)):=by
 obtain⟨g,c,ba,ha,e⟩:=M.ln p q ag ay;have w:=j6 ag ay h;have ai:d7 (m p) (m q)=hh (A (crs p q)):=Bw ba ha (M.ne _ w) e;rw[ai]
 conv=>lhs;rw[G6,M.lin]
 exact n8 (wO w) (M.ne _ (RI ag ay h))
theorem jz.side{m A:P3->P3}(M:jz m A)(φ:List (List Int)->Int){p q:P3}(ag:aR p)(ay:aR q):fI φ (m p) (m q)=fI (BC m A φ) p q:=by
 by_cases h:p=q
 ·subst h;rw[By,By]
 ·unfold fI dZ;rw[M.line ag ay h];rfl
theorem jz.ring{m A:P3->P3}(M:jz m A)(φ:List (List Int)->Int){ps:List P3}(aP:∀p∈ps,aR p):dc φ (ps.map m)=dc (BC m A φ) ps:=by
 unfold dc;rw[BB,RH];refine wR fun e he=>?_;obtain⟨aa,ab⟩:=j4 he;exact M.side φ (aP _ aa) (aP _ ab)
theorem jz.bal{m A:P3->P3}(M:jz m A){rs b6:List (List P3)}(h:fi rs b6)(ak:∀ps∈rs,∀p∈ps,aR p)(ay:∀ps∈b6,∀p∈ps,aR p):fi (rs.map fun ps=>ps.map m) (b6.map fun ps=>ps.map m):=fun φ=>by
 have one:∀(L:List (List P3)),(∀ps∈L,∀p∈ps,aR p)->e2 φ (L.map fun ps=>ps.map m)=e2 (BC m A φ) L:=fun L eW=>by
  unfold e2;rw[aap];congr 1;exact abg fun ps ag=>M.ring φ (eW ps ag)
 rw[one rs ak,one b6 ay];exact h _
def slA(v l:P3):P3:=(l.1*v.2.2,l.2.1*v.2.2,l.2.2*v.2.2-l.1*v.1-l.2.1*v.2.1)
def q0(l:P3):P3:=(-l.1,-l.2.1,l.2.2)
theorem BD{v:P3}(aP:0<v.2.2):jz (fun p=>nP (sld v p)) (slA v):=by
 refine⟨fun c l=>?_,fun l h=>?_,fun p ag=>fh ?_,fun p q ag ay=>?_⟩
 ·refine ee ?_ ?_ ?_<;>simp only[slA,sc]<;>grind
 ·rcases h with h|h
  ·exact .inl (aah h (by omega))
  ·exact .inr (aah h (by omega))
 ·have:=ag.1;show p.2.2*v.2.2≠0
  exact aah (by omega) (by omega)
 ·have cu:(sld v p).2.2≠0:=aah (by have:=ag.1;omega) (by omega);have dn:(sld v q).2.2≠0:=aah (by have:=ay.1;omega) (by omega);obtain⟨g1,z1,ai⟩:=i4 cu;obtain⟨g2,aQ,av⟩:=i4 dn;refine⟨g1*g2,v.2.2,aah z1 aQ,by omega,?_⟩;rw[<-Ai,<-ai,<-av];refine ee ?_ ?_ ?_<;>simp only[crs,sc,slA,sld]<;>grind
theorem pw:jz trn q0:=by
 refine⟨fun c l=>?_,fun l h=>?_,fun p ag=>zF ag,fun p q ag ay=>⟨1,1,by decide,by decide,?_⟩⟩
 ·refine ee ?_ ?_ ?_<;>simp only[q0,sc]<;>grind
 ·rcases h with h|h
  ·exact .inl (by show -l.1≠0;omega)
  ·exact .inr (by show -l.2.1≠0;omega)
 ·refine ee ?_ ?_ ?_<;>simp only[crs,sc,q0,trn]<;>grind
theorem BE(φ:List (List Int)->Int)(a:P3)(r:List P3):dc φ (r++[a])=dc φ (a::r):=by
 unfold dc;rw[<-A6]
 have e:da (r++[a])=cT a (r++[a]):=by
  unfold da;rw[n1];rfl
 rw[e]
end Cut
namespace Cut
open PySem L2 L3
open PySem.Builtin.Int (intBits)
theorem RJ{ps:List P3}{i:Nat}(h:i<ps.length):∃p q,p∈ps/\q∈ps/\dE (ps.map dP) ((i:Int)-1)=some (dP p)/\dE (ps.map dP) (i:Int)=some (dP q)/\(p,q)∈da ps/\(da ps).take (i+1)=(da ps).take i++[(p,q)]:=by
 obtain⟨p,mp,ag⟩:=GU (f:=id) (L:=ps) (i:=(i:Int)-1) (by omega) (by omega);obtain⟨q,BF,ay⟩:=GU (f:=id) (L:=ps) (i:=(i:Int)) (by omega) (by omega);rw[List.map_id]at ag ay;have ai:bu ps ((i+ps.length-1)%ps.length)=p:=E1 (aab ((Fx h).symm.trans (sH ag)));have av:bu ps i=q:=E1 (aab ((lU h).symm.trans (sH ay)));have w2:(da ps).take (i+1)=(da ps).take i++[(p,q)]:=by rw[QA h,ai,av]
 exact⟨p,q,mp,BF,sH ag,sH ay,acn (i:=i+1) (by rw[w2];simp),w2⟩
theorem G7{α:Type}(k:List (List Int))(x:α):∀{ks:List (List (List Int))}{ds:List α}(key:List (List Int)),ds.length=ks.length->cg (fH ks k) (f6 ks ds k x) key=if key=k then some x else cg ks ds key:=by
 have ix:∀{ks:List (List (List Int))}{ds:List α}(key:List (List Int)),ds.length=ks.length->cg ks (fb ks ds k x) key=if key=k/\k∈ks then some x else cg ks ds key:=by
  intro ks;induction ks with
  | nil=>intro ds key h;simp[cg]
  | cons k' ks c3 =>
   intro ds key h;cases ds with
   | nil=>simp at h
   | cons d ds =>
    have c3:=c3 (ds:=ds) key (by simpa using h);rw[fb,cg,cg];by_cases e:k'=key
    ·rw[if_pos e,if_pos e];by_cases av:k'=k
     ·rw[if_pos av,if_pos ⟨by rw[<-e,av],by rw[av];simp⟩]
     ·rw[if_neg av,if_neg (fun z=>av (e.trans z.1))]
    ·rw[if_neg e,if_neg e,c3];by_cases z:key=k/\k∈ks
     ·rw[if_pos z,if_pos ⟨z.1,ZL _ z.2⟩]
     ·rw[if_neg z,if_neg (fun y=>z ⟨y.1,by
       rcases Z6.mp y.2 with q|q
       ·exact absurd (q.symm.trans y.1.symm) e
       ·exact q⟩)]
 have ap:∀{ks:List (List (List Int))}{ds:List α}(key:List (List Int)),ds.length=ks.length->cg (ks++[k]) (ds++[x]) key=(cg ks ds key).or (if k=key then some x else none):=by
  intro ks;induction ks with
  | nil =>
   intro ds key h;cases ds with
   | nil=>simp[cg]
   | cons d ds=>simp at h
  | cons k' ks c3 =>
   intro ds key h;cases ds with
   | nil=>simp at h
   | cons d ds =>
    have c3:=c3 (ds:=ds) key (by simpa using h);rw[aaL,aaL,cg,cg];by_cases e:k'=key
    ·rw[if_pos e,if_pos e];rfl
    ·rw[if_neg e,if_neg e,c3]
 intro ks ds key h;unfold fH f6;by_cases m:k∈ks
 ·rw[if_pos m,if_pos m,ix key h];by_cases e:key=k
  ·rw[if_pos ⟨e,m⟩,if_pos e]
  ·rw[if_neg (fun z=>e z.1),if_neg e]
 ·rw[if_neg m,if_neg m,ap key h];by_cases e:key=k
  ·subst e;rw[(tn h).mpr m,if_pos rfl];rfl
  ·rw[if_neg e,if_neg (fun z=>e z.symm)];cases cg ks ds key<;>rfl
theorem G8{α:Type}{k:List (List Int)}{x:α}{ks:List (List (List Int))}{ds:List α}(h:ds.length=ks.length):(f6 ks ds k x).length=(fH ks k).length/\(fH ks k).length<=ks.length+1:=by
 unfold fH f6;by_cases m:k∈ks
 ·rw[if_pos m,if_pos m,Bg];exact⟨h,by omega⟩
 ·rw[if_neg m,if_neg m,ZM,ZM,h];exact⟨rfl,Zg _⟩
theorem BG{α β:Type}(f:α->β):∀(ks:List (List (List Int)))(ds:List α)(key:List (List Int)),cg ks (ds.map f) key=(cg ks ds key).map f
 | [],_,_=>by simp[cg]
 | _::_,[],_=>by simp[cg]
 | k'::ks,d::ds,key=>by
  rw[aaa,cg,cg];by_cases e:k'=key
  ·rw[if_pos e,if_pos e];rfl
  ·rw[if_neg e,if_neg e,BG f ks ds key]
theorem G9{α β:Type}(f:α->β)(k:List (List Int))(x:α)(ks:List (List (List Int)))(ds:List α):(f6 ks ds k x).map f=f6 ks (ds.map f) k (f x):=by
 have ix:∀(ks:List (List (List Int)))(ds:List α),(fb ks ds k x).map f=fb ks (ds.map f) k (f x):=by
  intro ks;induction ks with
  | nil=>intro ds;simp[fb]
  | cons k' ks c3 =>
   intro ds;cases ds with
   | nil=>simp[fb]
   | cons d ds =>
    rw[fb,aaa,c3,aaa,fb];by_cases e:k'=k
    ·rw[if_pos e,if_pos e]
    ·rw[if_neg e,if_neg e]
 unfold f6;by_cases m:k∈ks
 ·rw[if_pos m,if_pos m,ix]
 ·rw[if_neg m,if_neg m,Z7];rfl
def tF(key:List (List Int))(e:P3×P3):Int:=(if key=dZ e.1 e.2 e.1 then 1 else 0)-(if key=dZ e.1 e.2 e.2 then 1 else 0)
def n9(key:List (List Int))(es:List (P3×P3)):Int:=(es.map (tF key)).sum
def oa(key:List (List Int))(rs:List (List P3)):Int:=(rs.map fun ps=>n9 key (da ps)).sum
theorem BH:∀(l:List Int),((l.sum:Int):Rat)=(l.map fun x:Int=>(x:Rat)).sum
 | []=>by simp
 | a::l=>by
  rw[aaK,aaa,aaK,<-BH l];grind
theorem RK{rs b6:List (List P3)}(h:fi rs b6)(key:List (List Int)):oa key rs=oa key b6:=by
 have one:∀L:List (List P3),((oa key L:Int):Rat)=e2 (fun k=>if key=k then 1 else 0) L:=fun L=>by
  unfold oa e2;rw[BH,aap];congr 1;refine abg fun ps _=>?_;show((n9 key (da ps):Int):Rat)=_
  unfold n9 dc d6;rw[BH,aap];congr 1;refine abg fun e _=>?_;show((tF key e:Int):Rat)=_
  unfold tF fI;rw[wX]
 have:=h (fun k=>if key=k then 1 else 0);rw[<-one,<-one]at this;exact_mod_cast this
def mN(ps:List P3):Prop:=ps.length<=75/\(∀e∈da ps,(crs e.1 e.2).1≠0∨(crs e.1 e.2).2.1≠0)/\∀p∈ps,cm 4000 p
theorem G'{g x:Int}{n:Nat}(h:g∣x)(x0:x≠0)(b:intBits x<=n):intBits g<=n:=by
 refine intBits_le_iff.mpr (adK ?_ (intBits_le_iff.mp b));exact acQ (by omega) (abV.mpr h)
theorem RL{l:P3}{n:Nat}(a9:intBits l.1<=n)(bf:intBits l.2.1<=n)(w:l.1≠0∨l.2.1≠0):intBits (gr l)<=n:=by
 obtain⟨bL,b1,_⟩:=tD l;rcases w with h|h
 ·exact G' bL h a9
 ·exact G' b1 h bf
theorem Ha(ks:List (List (List Int)))(vs:List Int)(key:List (List Int)):(cg ks (vs.map D.int) key).getD (.int 0)=.int ((cg ks vs key).getD 0):=by
 rw[BG];cases cg ks vs key<;>rfl
def iK(p q:P3)(t:Int):P3:=cy (p.1*q.2.2*(3-t)+q.1*p.2.2*t) (p.2.1*q.2.2*(3-t)+q.2.1*p.2.2*t) (p.2.2*q.2.2*3)
theorem RM{ps:List P3}{k:Nat}(h:k<ps.length)(ab:2<=ps.length):dE (ps.map dP) ((k:Int)-2)=some (dP (bu ps ((k+ps.length-2)%ps.length))):=by
 by_cases z:2<=k
 ·have e:(k+ps.length-2)%ps.length=k-2:=by
   rw[show k+ps.length-2=(k-2)+ps.length by omega,abO,aar (by omega)]
  rw[e,show((k:Int)-2)=((k-2:Nat):Int) by omega];exact lU (by omega)
 ·have e:(k+ps.length-2)%ps.length=k+ps.length-2:=aar (by omega);rw[e,kS (by omega)];unfold dE ixN;rw[if_neg (by omega),if_pos (by rw[Zf];omega)];show(ps.map dP)[_]?=_
  rw[aag,Zf,show((k:Int)-2+(ps.length:Int)).toNat=k+ps.length-2 by omega,aan (by omega)];rfl
theorem Hb{x:Int}(h:sg x=1):0<x:=by
 unfold sg at h;split at h
 ·assumption
 ·split at h<;>omega
theorem eQ.turn{ps:List P3}(h:eQ ps){k:Nat}(ah:k<ps.length):0<bb (bu ps ((k+ps.length-2)%ps.length)) (bu ps ((k+ps.length-1)%ps.length)) (bu ps k):=by
 have e':=h.1
 have e:((k+ps.length-2)%ps.length+1)%ps.length=(k+ps.length-1)%ps.length:=by
  rw[Nat.mod_add_mod];congr 1;omega
 have k4:∀d,0<d->d<ps.length->k≠(k+ps.length-d)%ps.length:=fun d gI bL z=>by
  by_cases y:d<=k
  ·rw[show k+ps.length-d=(k-d)+ps.length by omega,abO,aar (by omega)]at z;omega
  ·rw[aar (by omega)]at z;omega
 have:=h.2 ((k+ps.length-2)%ps.length) k (aby _ (by omega)) ah (k4 2 (by decide) (by omega)) (by rw[e];exact k4 1 (by decide) (by omega));rw[e]at this;exact Hb this
theorem RN(p q r:P3):bb p q r=bb q r p:=by unfold bb crs;grind
theorem eQ.fan{ps:List P3}(h:eQ ps){k:Nat}(cf:0<k)(ah:k+1<ps.length):0<bb (bu ps 0) (bu ps k) (bu ps (k+1)):=by
 have:=h.2 k 0 (by omega) (by omega) (by omega) (by rw[aar ah];omega);rw[aar ah]at this;rw[RN];exact Hb this
theorem RO{p s:P3}(ag:aR p)(aq:aR s)(lB:Bool):cy ((1-2*(if lB then 1 else 0))*(p.1*s.2.2-s.1*p.2.2)) ((1-2*(if lB then 1 else 0))*(p.2.1*s.2.2-s.2.1*p.2.2)) (p.2.2*s.2.2)=if lB=true then trn (nP (sld (trn s) p))else nP (sld (trn s) p):=by
 have e:sld (trn s) p=(p.1*s.2.2-s.1*p.2.2,p.2.1*s.2.2-s.2.1*p.2.2,p.2.2*s.2.2):=by
  refine ee ?_ ?_ ?_<;>simp only[sld,trn]<;>grind
 have cS:(sld (trn s) p).2.2≠0:=by
  rw[e];exact aah (Zh ag.1) (Zh aq.1)
 cases lB with
 | false =>
  simp only[aaS,if_false,aai,ac8,ac7];unfold nP;rw[e]
 | true =>
  simp only[if_true];obtain⟨g,ba,aC⟩:=i4 cS;refine(qG (M:=((1-2*1)*(p.1*s.2.2-s.1*p.2.2),(1-2*1)*(p.2.1*s.2.2-s.2.1*p.2.2),p.2.2*s.2.2)) (h:=trn (nP (sld (trn s) p))) (G:=1) (c:=g) (by decide) ba (zF (fh cS)) ?_).2;rw[e]at aC ⊢;obtain⟨aa,ab,aL⟩:p.1*s.2.2-s.1*p.2.2=g*(nP (p.1*s.2.2-s.1*p.2.2,p.2.1*s.2.2-s.2.1*p.2.2,p.2.2*s.2.2)).1/\p.2.1*s.2.2-s.2.1*p.2.2=g*(nP (p.1*s.2.2-s.1*p.2.2,p.2.1*s.2.2-s.2.1*p.2.2,p.2.2*s.2.2)).2.1/\p.2.2*s.2.2=g*(nP (p.1*s.2.2-s.1*p.2.2,p.2.1*s.2.2-s.2.1*p.2.2,p.2.2*s.2.2)).2.2:=⟨congrArg (·.1) aC,congrArg (·.2.1) aC,congrArg (·.2.2) aC⟩;refine ee ?_ ?_ ?_
  ·show 1*((1-2*1)*(p.1*s.2.2-s.1*p.2.2))=g * -(nP _).1;grind
  ·show 1*((1-2*1)*(p.2.1*s.2.2-s.2.1*p.2.2))=g * -(nP _).2.1;grind
  ·show 1*(p.2.2*s.2.2)=g*(nP _).2.2;grind
theorem ob(s:Piece):eR s=s.1.map fun p=>if s.2.1=true then trn (nP (sld (trn s.2.2) p))else nP (sld (trn s.2.2) p):=by
 unfold eR;by_cases h:s.2.1=true
 ·rw[if_pos h,aap];refine abg fun p _=>?_;rw[if_pos h];rfl
 ·rw[if_neg h];refine abg fun p _=>?_;rw[if_neg h]
structure hj (s:Piece):Prop where
 ln:s.1.length<=24
 cv:eQ s.1
 ps:∀p∈s.1,c' 2900 p
 st:c' 900 s.2.2
theorem Hc(a p:P3):bb a p p=0:=by unfold bb crs;grind
theorem eQ.side{ps:List P3}(h:eQ ps){p q:P3}(iv:(p,q)∈da ps):p≠q:=by
 rw[wx]at iv;obtain⟨i,aD,e⟩:=Z9.mp iv;have aD:=aaY.mp aD;have t:=h.turn aD;obtain⟨rfl,rfl⟩:=Prod.mk.inj e;intro z;rw[z,Hc]at t;omega
theorem jz.rg{m A:P3->P3}(M:jz m A){ps:List P3}(aP:∀p∈ps,aR p)(he:∀e∈da ps,(crs e.1 e.2).1≠0∨(crs e.1 e.2).2.1≠0):∀e∈da (ps.map m),(crs e.1 e.2).1≠0∨(crs e.1 e.2).2.1≠0:=fun e h=>by
 rw[BB]at h;obtain⟨d,hd,rfl⟩:=Z9.mp h;obtain⟨aa,ab⟩:=j4 hd;obtain⟨g,c,ba,ha,q⟩:=M.ln d.1 d.2 (aP _ aa) (aP _ ab);obtain⟨a4,bS,_⟩:=Ah q;rcases M.ne _ (he d hd)with w|w
 ·exact .inl fun z=>aah ha w (by rw[<-a4];show g*(crs (m d.1) (m d.2)).1=0;rw[show(crs (m d.1) (m d.2)).1=0 from z,aai])
 ·exact .inr fun z=>aah ha w (by rw[<-bS];show g*(crs (m d.1) (m d.2)).2.1=0;rw[show(crs (m d.1) (m d.2)).2.1=0 from z,aai])
theorem hj.side{s:Piece}(h:hj s):∀e∈da s.1,(crs e.1 e.2).1≠0∨(crs e.1 e.2).2.1≠0:=fun e he=>by
 obtain⟨aa,ab⟩:=j4 he;exact j6 (h.ps _ aa).pt (h.ps _ ab).pt (h.cv.side he)
theorem hj.rg{s:Piece}(h:hj s):mN s.1:=⟨Gq h.ln (by decide),h.side,fun p ag=>(h.ps p ag).bp.mono (by decide)⟩
theorem hj.first{s:Piece}(h:hj s):mN (eR s)/\∀p∈eR s,aR p:=by
 have st:=h.st;have sl:∀p∈s.1,c' 3801 (nP (sld (trn s.2.2) p)):=fun p ag=>(st.trn.sl (h.ps p ag)).mono (by decide);have aP:∀p∈s.1,aR p:=fun p ag=>(h.ps p ag).pt;have ar:=(BD (v:=trn s.2.2) st.pt.1).rg aP h.side;unfold eR;split
 ·have sS:∀p∈s.1.map (fun p=>nP (sld (trn s.2.2) p)),aR p:=fun p ag=>by
   obtain⟨q,ay,rfl⟩:=Z9.mp ag;exact(sl q ay).pt
  refine⟨⟨by rw[Zf,Zf];exact Gq h.ln (by decide),pw.rg sS ar,fun p ag=>?_⟩,fun p ag=>?_⟩
  ·obtain⟨q,ay,rfl⟩:=Z9.mp ag;obtain⟨r,ak,rfl⟩:=Z9.mp ay;exact(sl r ak).trn.bp.mono (by decide)
  ·obtain⟨q,ay,rfl⟩:=Z9.mp ag;obtain⟨r,ak,rfl⟩:=Z9.mp ay;exact(sl r ak).trn.pt
 ·refine⟨⟨by rw[Zf];exact Gq h.ln (by decide),ar,fun p ag=>?_⟩,fun p ag=>?_⟩
  ·obtain⟨r,ak,rfl⟩:=Z9.mp ag;exact(sl r ak).bp.mono (by decide)
  ·obtain⟨r,ak,rfl⟩:=Z9.mp ag;exact(sl r ak).pt
theorem Hd(s:Piece):(eR s).length=s.1.length:=by rw[ob,Zf]
theorem w3{α:Type}{f:α->Nat}{m:Nat}:∀{l:List α},(∀x∈l,f x<=m)->(l.map f).sum<=l.length*m
 | [],_=>by simp
 | x::l,h=>by
  rw[aaa,aaK,Z8];have aa:=h x ZJ;have ab:=w3 (l:=l) fun y a5=>h y (ZL _ a5);rw[Nat.add_mul,Nat.one_mul];omega
theorem RP(a b:Bool):eqD (.bl a) (.bl b)=(a==b):=by
 by_cases h:a=b
 ·subst h;rw[o1];simp
 ·have:eqD (.bl a) (.bl b)=false:=by
   unfold eqD;exact @decide_eq_false _ (abx _) fun z=>h (D.bl.inj z)
  rw[this];cases a<;>cases b<;>first|rfl|exact absurd rfl h
theorem RR{ps:List P3}(cv:eQ ps)(ag:∀p∈ps,c' 4000 p)(aj:ps.length<=75):mN ps:=⟨aj,fun e he=>by
 obtain⟨aa,ab⟩:=j4 he
 exact j6 (ag _ aa).pt (ag _ ab).pt (cv.side he),fun p h=>(ag p h).bp⟩
theorem RS{w h:Int×Int}(b:hy w h)(a9:intBits w.1<=140)(bf:intBits w.2<=140)(dO:intBits h.1<=140)(fw:intBits h.2<=140):mN (ie w h):=RR b.cvx (fun p ag=>(b.boxG a9 bf dO fw p ag).mono (by decide)) (by show 4<=75;decide)
def dU(x:Int×Int):P3:=crs (cy (x.1*1) (0*x.2) (x.2*1)) (cy (x.1*1) (1*x.2) (x.2*1))
def dV(x:Int×Int):P3:=crs (cy (0*x.2) (x.1*1) (1*x.2)) (cy (1*x.2) (x.1*1) (1*x.2))
theorem j8{x y u v:Int}{m n:Nat}(i9:intBits x<=m)(hk:intBits y<=m)(iG:intBits u<=n)(bv:intBits v<=n)(bt:aO x y)(bz:aO u v):cm (m+n) (cy (x*v) (u*y) (y*v)):=
 cm.nP (p:=(x*v,u*y,y*v)) ⟨intBits_mul_le i9 bv,by rw[Nat.add_comm];exact intBits_mul_le iG hk,intBits_mul_le hk bv⟩ (aah (Zh bt.1) (Zh bz.1))
noncomputable def cL(x:Int×Int)(b:Bool)(sh:List Piece):List Piece:=if b then cn (ln (dU x)) (aX (dU x)) sh else cn (fun c => -ln (dU x) c) (aX (dU x)) sh
noncomputable def cV(x:Int×Int)(b:Bool)(sh:List Piece):List Piece:=if b then cn (ln (dV x)) (aX (dV x)) sh else cn (fun c => -ln (dV x) c) (aX (dV x)) sh
theorem oe(φ:List (List Int)->Int)(ps:List P3)(rs:List (List P3)):e2 φ (ps::rs)=dc φ ps+e2 φ rs:=by unfold e2;rw[aaa,aaK]
theorem pz(φ:List (List Int)->Int):∀rs b6:List (List P3),e2 φ (rs++b6)=e2 φ rs+e2 φ b6
 | [],b6=>by rw[aaz];show _=(0:Rat)+_;grind
 | ps::rs,b6=>by rw[aaL,oe,oe,pz φ rs b6];grind
theorem gV(φ:List (List Int)->Int)(ps:List P3):e2 φ [ps]=dc φ ps:=by rw[oe];show _+(0:Rat)=_;grind
theorem tG(φ:List (List Int)->Int)(f:P3->Int)(mt:P3->P3->P3):∀sh:List Piece,e2 φ ((cn f mt sh).map fun s=>s.1)=e2 φ (sh.map fun s=>keepR f mt s.1)
 | []=>rfl
 | s::sh=>by
  have c3:=tG φ f mt sh
  have e:cn f mt (s::sh)=cn f mt [s]++cn f mt sh:=by
   unfold cn;rw[<-abZ,<-Z7];rfl
  rw[e,Z7,pz,c3,aaa,oe];congr 1;cases c:(keepR f mt s.1).isEmpty with
  | true =>
   rw[wt c,adN.mp c];rfl
  | false =>
   rw[wq c];exact gV φ _
section
variable{l o:P3}{sh:List Piece}{b6:List P3}
theorem w4(h:fi (sh.map fun s=>s.1) [b6])(aj:l.1≠0∨l.2.1≠0)(aE:aR o)(lo:ln l o=0)(ak:∀s∈sh,∀p∈s.1,aR p)(ay:∀p∈b6,aR p):
  fi ((cn (ln l) (aX l) sh).map fun s=>s.1) [keepR (ln l) (aX l) b6]/\fi ((cn (fun c => -ln l c) (aX l) sh).map fun s=>s.1) [keepR (fun c => -ln l c) (aX l) b6]:=by
 obtain⟨a,b⟩:=h.keep aj aE lo (fun ps ag=>by
  obtain⟨s,aq,rfl⟩:=Z9.mp ag
  exact ak s aq) (fun ps ag=>by rw[aac.mp ag];exact ay)
 rw[aap]at a b;exact⟨fun φ=>by rw[tG];exact a φ,fun φ=>by rw[tG];exact b φ⟩
theorem RT{g:P3}(aC:0<g.2.2)(h:fi (sh.map fun s=>s.1) [b6])(ak:∀s∈sh,∀p∈s.1,aR p)(ay:∀p∈b6,aR p):fi ((sh.map (ej g)).map fun s=>s.1) [b6.map fun p=>nP (sld g p)]:=by
 have:=(BD aC).bal h (fun ps ag=>by
  obtain⟨s,aq,rfl⟩:=Z9.mp ag
  exact ak s aq) (fun ps ag=>by rw[aac.mp ag];exact ay)
 rw[aap]at this;rw[aap];exact this
end
theorem RU{s:Piece}(aq:aR s.2.2):∃A,jz (fun p=>if s.2.1=true then trn (nP (sld (trn s.2.2) p))else nP (sld (trn s.2.2) p)) A:=by
 have bw:=BD (v:=trn s.2.2) aq.1;by_cases h:s.2.1=true
 ·refine⟨fun l=>q0 (slA (trn s.2.2) l),⟨fun c l=>by rw[bw.lin,pw.lin],fun l aj=>pw.ne _ (bw.ne l aj),fun p ag=>by rw[if_pos h];exact pw.pt _ (bw.pt p ag),fun p q ag ay=>?_⟩⟩;simp only[if_pos h];obtain⟨g,c,ba,ha,e⟩:=bw.ln p q ag ay;obtain⟨g',d0,RV,RW,aT⟩:=pw.ln _ _ (bw.pt p ag) (bw.pt q ay);refine⟨g*g',c*d0,aah ba RV,aah ha RW,?_⟩
  have av:sc g (q0 (crs (nP (sld (trn s.2.2) p)) (nP (sld (trn s.2.2) q))))=sc c (q0 (slA (trn s.2.2) (crs p q))):=by
   rw[<-pw.lin,e,pw.lin]
  have ss:∀(a b:Int)(x:P3),sc (a*b) x=sc a (sc b x):=fun a b x=>by refine ee ?_ ?_ ?_<;>simp only[sc]<;>grind
  have sw:∀(a b:Int)(x:P3),sc a (sc b x)=sc b (sc a x):=fun a b x=>by refine ee ?_ ?_ ?_<;>simp only[sc]<;>grind
  rw[ss,aT,sw,av,<-ss,aak d0]
 ·refine⟨slA (trn s.2.2),⟨bw.lin,bw.ne,fun p ag=>by rw[if_neg h];exact bw.pt p ag,fun p q ag ay=>?_⟩⟩;simp only[if_neg h];exact bw.ln p q ag ay
theorem RX{l o:P3}{s:Piece}(φ:List (List Int)->Int)(aq:aR s.2.2)(aj:l.1≠0∨l.2.1≠0)(aE:aR o)(lo:ln l o=0)(aP:∀p∈s.1,aR p):dc φ (eR (keepR (ln l) (aX l) s.1,s.2))+dc φ (eR (keepR (fun c => -ln l c) (aX l) s.1,s.2))=dc φ (eR s):=by
 obtain⟨A,M⟩:=RU aq
 have tE:∀p q,aR p->aR q->ln l p*ln l q<0->aR (aX l p q):=fun p q ag ay c=>by
  rw[<-jv ag ay];exact fh (jw ag ay c)
 have kp:∀f:P3->Int,(∀p q,f p*f q<0->ln l p*ln l q<0)->∀p∈keepR f (aX l) s.1,aR p:=fun f hf p ag=>by
  unfold keepR at ag;split at ag
  ·rcases pl ag with⟨h,_⟩|⟨a,ax,b,af,c,e⟩
   ·exact aP p h
   ·rw[e];exact tE a b (aP a ax) (aP b af) (hf a b c)
  ·cases ag
 have ai:=M.ring φ (kp (ln l) fun p q h=>h);have av:=M.ring φ (kp (fun c => -ln l c) fun p q h=>by rw[aa5]at h;exact h);have bG:=M.ring φ aP;rw[ob,ob,ob,ai,av,bG];exact wV _ aj aE lo aP
theorem RY{g p q:P3}(aC:aR g)(ag:aR p)(ay:aR q):nP (sld (trn (nP (sld g q))) (nP (sld g p)))=nP (sld (trn q) p):=by
 have iU:∀{a b:P3},aR a->aR b->(sld a b).2.2≠0:=fun ax af=>aah (Zh af.1) (Zh ax.1);obtain⟨ga,fG,dq⟩:=i4 (iU aC ag);obtain⟨hC,dv,ew⟩:=i4 (iU aC ay);obtain⟨l2,h0,q1⟩:=i4 (iU ay.trn ag);have eJ:aR (nP (sld (trn q) p)):=fh (iU ay.trn ag);obtain⟨a1,a2,i'⟩:(sld g p).1=ga*(nP (sld g p)).1/\(sld g p).2.1=ga*(nP (sld g p)).2.1/\(sld g p).2.2=ga*(nP (sld g p)).2.2:=⟨congrArg (·.1) dq,congrArg (·.2.1) dq,congrArg (·.2.2) dq⟩;obtain⟨a9,bf,dO⟩:(sld g q).1=hC*(nP (sld g q)).1/\(sld g q).2.1=hC*(nP (sld g q)).2.1/\(sld g q).2.2=hC*(nP (sld g q)).2.2:=⟨congrArg (·.1) ew,congrArg (·.2.1) ew,congrArg (·.2.2) ew⟩;obtain⟨aa,ab,aL⟩:(sld (trn q) p).1=l2*(nP (sld (trn q) p)).1/\(sld (trn q) p).2.1=l2*(nP (sld (trn q) p)).2.1/\(sld (trn q) p).2.2=l2*(nP (sld (trn q) p)).2.2:=⟨congrArg (·.1) q1,congrArg (·.2.1) q1,congrArg (·.2.2) q1⟩;generalize nP (sld g p)=a at *;generalize nP (sld g q)=b at *;generalize nP (sld (trn q) p)=h at *;simp only[sld,trn]at a1 a2 i' a9 bf dO aa ab aL;refine(qG (M:=sld (trn b) a) (h:=h) (G:=ga*hC) (c:=g.2.2*g.2.2*l2) (aah fG dv) (aah (aah (Zh aC.1) (Zh aC.1)) h0) eJ ?_).2;refine ee ?_ ?_ ?_<;>simp only[sc,sld,trn]
 ·have:ga*hC*(a.1*b.2.2 + -b.1*a.2.2)=(ga*a.1)*(hC*b.2.2)-(hC*b.1)*(ga*a.2.2):=by grind
  rw[this,<-a1,<-dO,<-a9,<-i'];have:g.2.2*g.2.2*l2*h.1=g.2.2*g.2.2*(l2*h.1):=by grind
  rw[this,<-aa];grind
 ·have:ga*hC*(a.2.1*b.2.2 + -b.2.1*a.2.2)=(ga*a.2.1)*(hC*b.2.2)-(hC*b.2.1)*(ga*a.2.2):=by grind
  rw[this,<-a2,<-dO,<-bf,<-i'];have:g.2.2*g.2.2*l2*h.2.1=g.2.2*g.2.2*(l2*h.2.1):=by grind
  rw[this,<-ab];grind
 ·have:ga*hC*(a.2.2*b.2.2)=(ga*a.2.2)*(hC*b.2.2):=by grind
  rw[this,<-i',<-dO];have:g.2.2*g.2.2*l2*h.2.2=g.2.2*g.2.2*(l2*h.2.2):=by grind
  rw[this,<-aL];grind
theorem RZ{g:P3}{s:Piece}(aC:aR g)(aq:aR s.2.2)(aP:∀p∈s.1,aR p):eR (ej g s)=eR s:=by
 rw[ob,ob];unfold ej;dsimp only;rw[aap];refine abg fun p ag=>?_;show(if s.2.1=true then trn (nP (sld (trn (nP (sld g s.2.2))) (nP (sld g p))))else nP (sld (trn (nP (sld g s.2.2))) (nP (sld g p))))=_
 rw[RY aC (aP p ag) aq]
def dx(φ:List (List Int)->Int)(b:Bool)(L:List Piece):Rat:=e2 φ ((L.filter fun s=>s.2.1==b).map eR)
theorem pA(φ:List (List Int)->Int)(b:Bool)(L M:List Piece):dx φ b (L++M)=dx φ b L+dx φ b M:=by unfold dx;rw[abZ,Z7,pz]
theorem He(φ:List (List Int)->Int)(b:Bool):dx φ b []=0:=rfl
theorem w5(φ:List (List Int)->Int)(b:Bool)(s:Piece):dx φ b [s]=if s.2.1==b then dc φ (eR s)else 0:=by
 unfold dx;by_cases h:(s.2.1==b)=true
 ·rw[if_pos h,adG (by exact h)];exact gV φ _
 ·rw[if_neg h,adH (by exact h)];rfl
theorem BI(φ:List (List Int)->Int)(b:Bool)(s:Piece)(L:List Piece):dx φ b (s::L)=dx φ b [s]+dx φ b L:=by rw[<-pA];rfl
theorem tH(φ:List (List Int)->Int)(b:Bool){g:P3}(aC:aR g):∀{L:List Piece},(∀s∈L,aR s.2.2/\∀p∈s.1,aR p)->dx φ b (L.map (ej g))=dx φ b L
 | [],_=>rfl
 | s::L,h=>by
  obtain⟨aa,ab⟩:=h s ZJ;rw[aaa,BI,BI φ b s,tH φ b aC fun t bB=>h t (ZL _ bB),w5,w5,RZ aC aa ab];rfl
theorem w6(φ:List (List Int)->Int)(b:Bool){l o:P3}(aj:l.1≠0∨l.2.1≠0)(aE:aR o)(lo:ln l o=0):∀{L:List Piece},(∀s∈L,aR s.2.2/\∀p∈s.1,aR p)->dx φ b (cn (ln l) (aX l) L)+dx φ b (cn (fun c => -ln l c) (aX l) L)=dx φ b L
 | [],_=>by show dx φ b []+dx φ b []=_;rw[He];grind
 | s::L,h=>by
  obtain⟨aa,ab⟩:=h s ZJ;have c3:=w6 φ b aj aE lo fun t bB=>h t (ZL _ bB);have e:∀f:P3->Int,cn f (aX l) (s::L)=cn f (aX l) [s]++cn f (aX l) L:=fun f=>tj (f:=f) [s] L
  have one:∀f:P3->Int,dx φ b (cn f (aX l) [s])=if s.2.1==b then dc φ (eR (keepR f (aX l) s.1,s.2))else 0:=fun f=>by
   cases c:(keepR f (aX l) s.1).isEmpty with
   | true =>
    rw[wt c,He,adN.mp c,ob];split
    ·rfl
    ·rfl
   | false=>rw[wq c,w5]
  have fs:=RX φ aa aj aE lo ab;rw[e,e,pA,pA,one,one,BI,w5,<-c3];by_cases c:(s.2.1==b)=true
  ·rw[if_pos c,if_pos c,if_pos c,<-fs];grind
  ·rw[if_neg c,if_neg c,if_neg c];grind
theorem tI{x:Int×Int}(l:aO x.1 x.2):((dU x).1≠0∨(dU x).2.1≠0)/\aR (cy (x.1*1) (0*x.2) (x.2*1))/\ln (dU x) (cy (x.1*1) (0*x.2) (x.2*1))=0:=by
 have cS:x.2*1≠0:=by have:=l.1;omega
 have cQ:aR (cy (x.1*1) (0*x.2) (x.2*1)):=fh (p:=(x.1*1,0*x.2,x.2*1)) cS;have c5:aR (cy (x.1*1) (1*x.2) (x.2*1)):=fh (p:=(x.1*1,1*x.2,x.2*1)) cS
 have ne:cy (x.1*1) (0*x.2) (x.2*1)≠cy (x.1*1) (1*x.2) (x.2*1):=fun z=>by
  obtain⟨_,ai,av,_⟩:=iD (a:=x.1*1) (b:=0*x.2) cS;obtain⟨q,f1,f2,_⟩:=iD (a:=x.1*1) (b:=1*x.2) cS;rw[z,f2]at av;have fm:=q.1;have w7:=l.1;have:1*x.2*(cy (x.1*1) (1*x.2) (x.2*1)).2.2=0:=by rw[av];simp
  have:=ZK (show 0<1*x.2 by omega) fm;omega
 refine⟨j6 cQ c5 ne,cQ,?_⟩;unfold dU ln crs;grind
theorem tJ{x:Int×Int}(l:aO x.1 x.2):((dV x).1≠0∨(dV x).2.1≠0)/\aR (cy (0*x.2) (x.1*1) (1*x.2))/\ln (dV x) (cy (0*x.2) (x.1*1) (1*x.2))=0:=by
 have cS:1*x.2≠0:=by have:=l.1;omega
 have cQ:aR (cy (0*x.2) (x.1*1) (1*x.2)):=fh (p:=(0*x.2,x.1*1,1*x.2)) cS;have c5:aR (cy (1*x.2) (x.1*1) (1*x.2)):=fh (p:=(1*x.2,x.1*1,1*x.2)) cS
 have ne:cy (0*x.2) (x.1*1) (1*x.2)≠cy (1*x.2) (x.1*1) (1*x.2):=fun z=>by
  obtain⟨_,ai,av,_⟩:=iD (a:=0*x.2) (b:=x.1*1) cS;obtain⟨q,f1,f2,_⟩:=iD (a:=1*x.2) (b:=x.1*1) cS;rw[z,f1]at ai;have fm:=q.1;have w7:=l.1;have:1*x.2*(cy (1*x.2) (x.1*1) (1*x.2)).2.2=0:=by rw[ai];simp
  have:=ZK (show 0<1*x.2 by omega) fm;omega
 refine⟨j6 cQ c5 ne,cQ,?_⟩;unfold dV ln crs;grind
theorem Hf(φ:List (List Int)->Int)(b c:Bool){x:Int×Int}(l:aO x.1 x.2){L:List Piece}(h:∀s∈L,aR s.2.2/\∀p∈s.1,aR p):dx φ b (cL x c L)+dx φ b (cL x (!c) L)=dx φ b L:=by
 obtain⟨dj,dY,gL⟩:=tI l;have:=w6 φ b dj dY gL h;cases c with
 | true=>exact this
 | false=>rw[<-this];show dx φ b (cn _ _ L)+dx φ b (cn _ _ L)=_;grind
theorem R0(φ:List (List Int)->Int)(b c:Bool){x:Int×Int}(l:aO x.1 x.2){L:List Piece}(h:∀s∈L,aR s.2.2/\∀p∈s.1,aR p):dx φ b (cV x c L)+dx φ b (cV x (!c) L)=dx φ b L:=by
 obtain⟨dj,dY,gL⟩:=tJ l;have:=w6 φ b dj dY gL h;cases c with
 | true=>exact this
 | false=>rw[<-this];show dx φ b (cn _ _ L)+dx φ b (cn _ _ L)=_;grind
theorem hl(a:Rat):(0:Rat)/a=0:=by grind
theorem Hg(d:Rat):d<0∨d=0∨0<d:=by grind
def b7(p:P3)(x y:Rat):Prop:=aR p/\hA p=x/\hB p=y
theorem BJ{a b c d:Int}(af:0<b)(hd:0<d)(h:(a:Rat)/b=(c:Rat)/d):a*d=c*b:=by
 have dv:=dI af;have gI:=dI hd;have:(a:Rat)*d=c*b:=by grind
 exact_mod_cast this
theorem b7.eq{p q:P3}{x y:Rat}(h:b7 p x y)(g:b7 q x y):p=q:=by
 obtain⟨ag,aa,ab⟩:=h;obtain⟨hZ,g1,g2⟩:=g;obtain⟨ai,av,bG⟩:=u9 ag hZ (BJ ag.1 hZ.1 (aa.trans g1.symm)) (BJ ag.1 hZ.1 (ab.trans g2.symm));exact ee ai av bG
theorem b7.to{p:P3}{x y gF ey:Rat}(h:b7 p x y)(ai:x=gF)(av:y=ey):b7 p gF ey:=by subst ai av;exact h
def au(r:Int×Int):Rat:=(r.1:Rat)/r.2
theorem q2{a b n:Int}(aN:0<n):b7 (cy a b n) ((a:Rat)/n) ((b:Rat)/n):=by
 obtain⟨p,ai,av,_⟩:=iD (a:=a) (b:=b) (Zh aN);have cS:=dI aN;have n4:=dI p.1;have f1:(((cy a b n).1:Int):Rat)*n=a*((cy a b n).2.2:Int):=by exact_mod_cast ai
 have f2:(((cy a b n).2.1:Int):Rat)*n=b*((cy a b n).2.2:Int):=by exact_mod_cast av
 refine⟨p,?_,?_⟩
 ·unfold hA;grind
 ·unfold hB;grind
theorem fT{w h:Int×Int}(lw:0<w.2)(lh:0<h.2):b7 (cb w h) (au w) (au h):=by
 have w0:=dI lw;have h0:=dI lh;refine(q2 (ZK lw lh)).to ?_ ?_<;>(unfold au;push_cast;grind)
theorem Hh{w:Int×Int}(l:aO w.1 w.2):b7 (w.1,0,w.2) (au w) 0:=⟨AH l,rfl,by unfold hB;show((0:Int):Rat)/_=0;exact hl _⟩
theorem Hi{w:Int×Int}(l:aO w.1 w.2):b7 (0,w.1,w.2) 0 (au w):=⟨AI l,by unfold hA;show((0:Int):Rat)/_=0;exact hl _,rfl⟩
theorem R1:b7 (0,0,1) 0 0:=⟨⟨by decide,by decide⟩,by unfold hA;exact hl _,by unfold hB;exact hl _⟩
theorem j9{g p:P3}{a b x y:Rat}(aC:b7 g a b)(ag:b7 p x y):b7 (nP (sld g p)) (x+a) (y+b):=by
 obtain⟨g1,g2,g3⟩:=aC;obtain⟨cQ,c5,o9⟩:=ag;have ZF:=dI g1.1;have R2:=dI cQ.1;refine(q2 (a:=(sld g p).1) (b:=(sld g p).2.1) (n:=(sld g p).2.2) (ZK cQ.1 g1.1)).to ?_ ?_
 ·rw[<-g2,<-c5];unfold hA sld;dsimp only;push_cast;grind
 ·rw[<-g3,<-o9];unfold hB sld;dsimp only;push_cast;grind
theorem BK{p q r:P3}{bK bI eS c9 k2 qZ:Rat}(ag:b7 p bK bI)(ay:b7 q eS c9)(ak:b7 r k2 qZ):∃k:Rat,0<k/\((bb p q r:Int):Rat)=k*((eS-bK)*(qZ-bI)-(c9-bI)*(k2-bK)):=by
 obtain⟨cQ,c5,o9⟩:=ag;obtain⟨a4,bS,fC⟩:=ay;obtain⟨ar,aF,fP⟩:=ak;have R2:=dI cQ.1;have ZG:=dI a4.1;have h9:=dI ar.1;refine⟨((p.2.2*q.2.2*r.2.2:Int):Rat),?_,?_⟩
 ·have:=ZK (ZK cQ.1 a4.1) ar.1;exact_mod_cast this
 ·rw[<-c5,<-o9,<-bS,<-fC,<-aF,<-fP];unfold bb crs hA hB;dsimp only;push_cast;grind
section
variable{X:Int×Int}{c:P3}{x y:Rat}
theorem tK(l:aO X.1 X.2)(hc:b7 c x y):∃k:Rat,0<k/\((ln (dU X) c:Int):Rat)=k*(au X-x):=by
 have x0:=dI l.1;have a:b7 (cy (X.1*1) (0*X.2) (X.2*1)) (au X) 0:=(q2 (by have:=l.1;omega)).to (by unfold au;simp) (by simp;exact hl _);have b:b7 (cy (X.1*1) (1*X.2) (X.2*1)) (au X) 1:=(q2 (by have:=l.1;omega)).to (by unfold au;simp) (by simp;grind);obtain⟨k,cf,e⟩:=BK a b hc;exact⟨k,cf,by show((bb _ _ c:Int):Rat)=_;rw[e];grind⟩
theorem tL(l:aO X.1 X.2)(hc:b7 c x y):∃k:Rat,0<k/\((ln (dV X) c:Int):Rat)=k*(y-au X):=by
 have x0:=dI l.1;have a:b7 (cy (0*X.2) (X.1*1) (1*X.2)) 0 (au X):=(q2 (by have:=l.1;omega)).to (by simp;exact hl _) (by unfold au;simp);have b:b7 (cy (1*X.2) (X.1*1) (1*X.2)) 1 (au X):=(q2 (by have:=l.1;omega)).to (by simp;grind) (by unfold au;simp);obtain⟨k,cf,e⟩:=BK a b hc;exact⟨k,cf,by show((bb _ _ c:Int):Rat)=_;rw[e];grind⟩
end
theorem k5{n:Int}{k d:Rat}(cf:0<k)(e:(n:Rat)=k*d)(h:0<d):0<n:=by
 have:(0:Rat)<n:=by rw[e];exact aax cf h
 exact_mod_cast this
theorem og{n:Int}{k d:Rat}(cf:0<k)(e:(n:Rat)=k*d)(h:d<0):n<0:=by
 have:0 < -n:=k5 cf (d :=-d) (by push_cast;rw[e];grind) (by grind);omega
theorem w8{n:Int}{k d:Rat}(e:(n:Rat)=k*d)(h:d=0):n=0:=by
 rw[h]at e;have:(n:Rat)=0:=by rw[e];grind
 exact_mod_cast this
section
variable{X:Int×Int}{c p q:P3}{x y bK bI eS c9:Rat}
theorem tM(l:aO X.1 X.2)(hc:b7 c x y)(h:x<au X):0<ln (dU X) c:=by
 obtain⟨k,cf,e⟩:=tK l hc;exact k5 cf e (by grind)
theorem BL(l:aO X.1 X.2)(hc:b7 c x y)(h:au X<x):ln (dU X) c<0:=by
 obtain⟨k,cf,e⟩:=tK l hc;exact og cf e (by grind)
theorem BM(l:aO X.1 X.2)(hc:b7 c x y)(h:au X<y):0<ln (dV X) c:=by
 obtain⟨k,cf,e⟩:=tL l hc;exact k5 cf e (by grind)
theorem tN(l:aO X.1 X.2)(hc:b7 c x y)(h:y<au X):ln (dV X) c<0:=by
 obtain⟨k,cf,e⟩:=tL l hc;exact og cf e (by grind)
theorem w9(l:aO X.1 X.2)(ag:b7 p bK bI)(ay:b7 q eS c9)(h:ln (dU X) p*ln (dU X) q<0)(a5:(y-bI)*(eS-bK)=(au X-bK)*(c9-bI)):b7 (aX (dU X) p q) (au X) y:=by
 have pm:aR (aX (dU X) p q):=by rw[<-jv ag.1 ay.1];exact fh (jw ag.1 ay.1 h)
 obtain⟨a,b,Hj,ex,fQ⟩:=A9 (pk h) ag.1.1 ay.1.1 pm.1;have im:b7 (aX (dU X) p q) (hA (aX (dU X) p q)) (hB (aX (dU X) p q)):=⟨pm,rfl,rfl⟩;obtain⟨k,cf,e⟩:=tK l im;rw[qT h]at e
 have xe:hA (aX (dU X) p q)=au X:=by
  have bY:k≠0:=by intro z;rw[z]at cf;exact absurd cf (by decide)
  have:k*(au X-hA (aX (dU X) p q))=0:=by rw[<-e];rfl
  grind
 have ne:eS-bK≠0:=fun z=>by
  obtain⟨ck,tO,av⟩:=tK l ag;obtain⟨fS,tP,bG⟩:=tK l ay;have BN:eS=bK:=by grind
  rw[BN]at bG;rcases Hg (au X-bK)with d|d|d
  ·have a1:=og tO av d;have a2:=og tP bG d;have:=abA a1 a2;omega
  ·have a1:=w8 av d;rw[a1,aa3]at h;omega
  ·have a1:=k5 tO av d;have a2:=k5 tP bG d;have:=ZK a1 a2;omega
 refine im.to xe ?_;rw[fQ,ag.2.2,ay.2.2];rw[ex,ag.2.1,ay.2.1]at xe;have dq:a=1-b:=by grind
 subst dq;grind
theorem w'(l:aO X.1 X.2)(ag:b7 p bK bI)(ay:b7 q eS c9)(h:ln (dV X) p*ln (dV X) q<0)(aB:(x-bK)*(c9-bI)=(au X-bI)*(eS-bK)):b7 (aX (dV X) p q) x (au X):=by
 have pm:aR (aX (dV X) p q):=by rw[<-jv ag.1 ay.1];exact fh (jw ag.1 ay.1 h)
 obtain⟨a,b,Hj,ex,fQ⟩:=A9 (pk h) ag.1.1 ay.1.1 pm.1;have im:b7 (aX (dV X) p q) (hA (aX (dV X) p q)) (hB (aX (dV X) p q)):=⟨pm,rfl,rfl⟩;obtain⟨k,cf,e⟩:=tL l im;rw[qT h]at e
 have Hk:hB (aX (dV X) p q)=au X:=by
  have bY:k≠0:=by intro z;rw[z]at cf;exact absurd cf (by decide)
  have:k*(hB (aX (dV X) p q)-au X)=0:=by rw[<-e];rfl
  grind
 have ne:c9-bI≠0:=fun z=>by
  obtain⟨ck,tO,av⟩:=tL l ag;obtain⟨fS,tP,bG⟩:=tL l ay;have BN:c9=bI:=by grind
  rw[BN]at bG;rcases Hg (bI-au X)with d|d|d
  ·have a1:=og tO av d;have a2:=og tP bG d;have:=abA a1 a2;omega
  ·have a1:=w8 av d;rw[a1,aa3]at h;omega
  ·have a1:=k5 tO av d;have a2:=k5 tP bG d;have:=ZK a1 a2;omega
 refine im.to ?_ Hk;rw[ex,ag.2.1,ay.2.1];rw[fQ,ag.2.2,ay.2.2]at Hk;have dq:a=1-b:=by grind
 subst dq;grind
end
end Cut
namespace Cut
open PySem L2 L3
section
variable{f:P3->Int}{mt:P3->P3->P3}{a b c d:P3}
theorem j':dg f mt [a,b,c,d]=kp f a++cH f mt a b++(kp f b++cH f mt b c++(kp f c++cH f mt c d++(kp f d++cH f mt d a++[]))):=rfl
theorem fy(h:0<=f a):kp f a=[a]:=by unfold kp;rw[if_pos h]
theorem gs(h:f a<0):kp f a=[]:=by unfold kp;rw[if_neg (by omega)]
theorem gW(h:(0<f a/\f b<0)∨(f a<0/\0<f b)):cH f mt a b=[mt a b]:=by
 unfold cH;rcases h with⟨aa,ab⟩|⟨aa,ab⟩
 ·rw[if_pos (aaj aa ab)]
 ·rw[if_pos (abf aa ab)]
theorem fj(h:(0<=f a/\0<=f b)∨(f a<=0/\f b<=0)):cH f mt a b=[]:=by
 unfold cH;rcases h with⟨aa,ab⟩|⟨aa,ab⟩
 ·rw[if_neg (by have:=aaH aa ab;omega)]
 ·rw[if_neg (by have:=acs aa ab;omega)]
theorem ka{ps:List P3}(p:P3)(ag:p∈ps)(h:0<f p):keepR f mt ps=dg f mt ps:=wy ⟨p,ag,h⟩
theorem R3(ax:f a<0)(af:f b<0)(hc:0<f c)(hd:f d=0):keepR f mt [a,b,c,d]=[mt b c,c,d]:=by
 rw[ka c (by simp) hc,j',gs ax,fj (.inr ⟨by omega,by omega⟩),gs af,gW (.inr ⟨af,hc⟩),fy (by omega),fj (.inl ⟨by omega,by omega⟩),fy (by omega),fj (.inr ⟨by omega,by omega⟩)];rfl
theorem R4(ax:0<f a)(af:0<f b)(hc:f c<0)(hd:f d=0):keepR f mt [a,b,c,d]=[a,b,mt b c,d]:=by
 rw[ka a (by simp) ax,j',fy (by omega),fj (.inl ⟨by omega,by omega⟩),fy (by omega),gW (.inl ⟨af,hc⟩),gs hc,fj (.inr ⟨by omega,by omega⟩),fy (by omega),fj (.inl ⟨by omega,by omega⟩)];rfl
end
theorem q3{t b:Int}(af:0<b):au (cA t b)=(t:Rat)/b:=by
 obtain⟨l,e,_,_⟩:=g9 (t:=t) (b:=b) (Zh af);have dv:=dI af;have w7:=dI l.1;have f:(((cA t b).1:Int):Rat)*b=t*((cA t b).2:Int):=by exact_mod_cast e
 unfold au;grind
theorem eG{r:Int×Int}(h:0<r.1)(ab:0<r.2):0<au r:=by
 have a:(0:Rat)<r.1:=by exact_mod_cast h
 have b:(0:Rat)<r.2:=by exact_mod_cast ab
 unfold au;rw[abC];exact aax a (ab0.mpr b)
theorem Hl{a b c eI b' d0:P3}(aa:a=eI)(ab:b=b')(aL:c=d0):[a,b,c]=[eI,b',d0]:=by rw[aa,ab,aL]
theorem Hm{a b c d eI b' d0 d':P3}(aa:a=eI)(ab:b=b')(aL:c=d0)(bo:d=d'):[a,b,c,d]=[eI,b',d0,d']:=by rw[aa,ab,aL,bo]
theorem Hn{a b c:P3}{P:P3->Prop}(aa:P a)(ab:P b)(aL:P c):∀p∈[a,b,c],P p:=by simp;exact⟨aa,ab,aL⟩
theorem BO{a b c d:P3}{P:P3->Prop}(aa:P a)(ab:P b)(aL:P c)(bo:P d):∀p∈[a,b,c,d],P p:=by simp;exact⟨aa,ab,aL,bo⟩
end Cut
namespace L2
open PySem PySem.Spec PyProof.Rows PySem.W
variable{X:aM}
theorem R5:mj X (.builtin "sorted") (fun xs H Q=>∃(p:Addr)(ns:List Int),xs=[.ref p]/\H p=some (.lst (ns.map V.int))/\ns.length<64/\∀ja:List Int,ja.Perm ns->ja.Pairwise (· <= ·)->∀l,H l=none->Q (.ref l) (upd H l (.lst (ja.map V.int)))):=by
 intro pins s σ H xs us Q I r h;obtain⟨p,ns,rfl,ag,aN,q⟩:=h;obtain⟨u,rfl,bc⟩:=vals1 r;cases bc;obtain⟨its,b3,c0,a'⟩:=I.list (cw.of ag);have hlen:=b3.length;rw[Zf]at hlen;refine sorted_ints c0.isList (intsAre_of b3) (by omega) fun out ja a1 a2 i'=>?_;obtain⟨e,he⟩:=sortedAll_at s.heap its out;have aj:=a2.length_eq;exact⟨.ref (s.heap.objs.size+1),_,I.laid (t':=s.toks) (fun _ _=>sortedAll_old) (abE _) (show fL X.prog X.w _ _ _ (.lst (ja.map V.int))from⟨by rw[Zf,sizeLine_eq];omega,out.toList,e,zw a1,he⟩),rfl,q ja a2 i' _ (I.hok.fresh (abE _))⟩
end L2
namespace L3
open PySem L2
variable{X:aM}{e:Expr}{u:a7}{p pos:Pos}
def R6(u:a7):cO:=fun ρ k=>u ρ fun x=>∃ns:List Int,x=.lst (ns.map D.int)/\ns.length<64/\∀ja:List Int,ja.Perm ns->ja.Pairwise (· <= ·)->k (ja.map D.int)
theorem R7(ax:br X e u)(aC:eB X "sorted")(hm:X.mg "sorted"=none)(aq:starEach [e] X.env=(false,eval e X.env)::starEach [] X.env:=by rfl):jV X (.Call (.Name "sorted" p) [e] [] pos) (R6 u):=by
 obtain⟨_,aa,ar⟩:=ax;refine⟨_,oN R5 aC hm (by decide +kernel) (eh aa fD aq) (by decide) (by decide) aq rfl,fun ρ k h R W B H σ Q e q=>?_⟩;refine ar ρ _ h R W B H σ _ e fun d v a0 H1 z1 ai g1 s1=>?_;obtain⟨ns,rfl,aN,z⟩:=z1;obtain⟨a,vs,rfl,ax,rs⟩:=s1.lstV;have ev:=Ex rs;subst ev;refine⟨a,ns,rfl,ai.bh _ _ ax,aN,fun ja cQ c5 p ag=>?_⟩;obtain⟨f1,f2,bO,f4,d2⟩:=ai.newO ag (Reps.ints ja);exact q _ p _ a0 _ (z ja cQ c5) f1 g1 f2 bO f4 (Reps.ints ja) d2
end L3
namespace L2
open PySem PySem.Spec PyProof.Rows PySem.W
variable{X:aM}
def R8:V->List V->ao->cN->Prop:=fun x vs H Q=>∃l b xs zs,x=.ref l/\vs=[.ref b]/\H l=some (.lst xs)/\H b=some (.tup zs)/\xs.length+zs.length<=sizeLine/\Q .non (upd H l (.lst (xs++zs)))
theorem R9:qh X "list.extend" R8:=by
 intro pins s σ H x vs v us Q I bc b3 h;obtain⟨l,b,xs,zs,rfl,rfl,dm,eD,a',q⟩:=h;cases bc;obtain⟨u,rfl,hL⟩:=b3.one;cases hL;obtain⟨z,its,n,r,aj,e⟩:=I.lstM dm;obtain⟨aQ,fV,aF,av⟩:=I.hok b _ eD;have u1:=aF.length;obtain⟨kW,tQ,R',dn,hd2⟩:=av;have jQ:its.toArray.size+fV.toArray.size<=sizeLine:=by rw[aaf,aaf];omega
 have zq:¬(!its.toArray.isEmpty&&Builtin.List.listTooLong (its.toArray.size+fV.toArray.size))=true:=by
  rw[DT jQ,Bool.and_false];exact aal
 refine wpAny_call_entry F.slot_list_extend ⟨_,e,rfl⟩ F.entry_list_extend ?_ (F.args_list_extend_2 _ _);show wpAny _ _ (Builtin.List.listExtendWith (.ref l) (.ref b) .none) _ _ s
 unfold Builtin.List.listExtendWith;refine wpAny_bind (wpAny_typeOf (T:="tuple") ⟨kW,tQ,R'⟩ ?_);rw[if_pos (by rw[show(Value.type "tuple"==Value.type "tuple")=true from rfl];simp)];refine wpAny_bind (listItems_at tQ hd2 ?_);refine wpAny_bind (listItems_at e rfl ?_);rw[if_neg zq];refine wpAny_bind (listUpdate_at e rfl ?_ (by rw[aaf];omega) (by rw[Array.size_append];omega));refine wpAny_pure ⟨_,rfl,?_⟩;refine⟨.non,_,I.lset (t':=s.toks) (its':=its++fV) dm e (by simp) (r.append aF) ?_,rfl,q⟩;rw[ZM];omega
end L2
namespace L3
open PySem L2
section
variable{K:PySem.W.Frag}{B:ao}
theorem Reps.eraseIdx:∀{vs:List V}{ds:List D}(i:Nat),Reps K B vs ds->Reps K B (vs.eraseIdx i) (ds.eraseIdx i)
 | _,_,_,.nil=>.nil
 | _,_,0,.cons _ t=>t
 | _,_,i+1,.cons r t=>.cons r (Reps.eraseIdx i t)
end
variable{X:aM}{e:Expr}{u:a7}{F:FS}{pos:Pos}
def Sa(i j:Nat)(F:FS)(u:a7):cI:=fun U ρ=>∃ds:List D,ρ[i]?=some (.own ds)/\ρ[j]?=some .bag/\u ρ fun d=>∃(n:Nat)(z:D),d=.int n/\n<1000/\ds[n]?=some z/\F [.bag,.val z] fun r=>∃es,r=.val (.tup es)/\ds.length+es.length<=sizeLine/\U.nx (ρ.set i (.own (ds.eraseIdx n++es)))
theorem Sb(i j:Nat){f x y:Str}{ps:List Str}{qE lv:Nat}{px jA py pB apos cW kb iL q4:Pos}(c:aI X.prog X.w X.K X.mg X.base f ps qE (aK X.K 2 F))(ak:eC lv X.A)(aC:eB X f)(he:br X e u)(gQ:qE<=lv:=by decide)(bD:X.N[i]?=some x:=by rfl)(aP:gb X.env.scope x:=by first|exact Sz rfl|exact ZN (Sz rfl)|exact ZN (ZN rfl))(hd:(x==("__debug__":Str))=false:=by decide)(dB:(x==("__classdict__":Str))=false:=by decide)(Sd:X.N[j]?=some y:=by rfl)(sS:gb X.env.scope y:=by first|exact Sz rfl|exact ZN (Sz rfl)|exact ZN (ZN rfl))(hd2:(y==("__debug__":Str))=false:=by decide)(Se:(y==("__classdict__":Str))=false:=by decide)(g0:(f==("__debug__":Str))=false:=by decide)(ip:attributeBase (.Name x px) "extend" X.env (eval (.Name x px) X.env)=eval (.Name x px) X.env:=by rfl)(Sf:attributeBase (.Name x jA) "pop" X.env (eval (.Name x jA) X.env)=eval (.Name x jA) X.env:=by rfl)(kx:((backTo cW (starEach [.Call (.Name f pB) [.Name y py,.Call (.Attribute (.Name x jA) "pop" kb) [e] [] iL] [] q4] X.env)).all (fun x => !x.1)&&(backToKw cW (keywordEach [] X.env)).all (fun x=>x.1.isSome)
   && decide (1+([]:List Keyword).length+(if([]:List Keyword).isEmpty then 0 else 1)<30))=true:=by rfl)(Sg:((backTo iL (starEach [e] X.env)).all (fun x => !x.1)&&(backToKw iL (keywordEach [] X.env)).all (fun x=>x.1.isSome)
   && decide (1+([]:List Keyword).length+(if([]:List Keyword).isEmpty then 0 else 1)<30))=true:=by rfl)(iq:(apos.endLine==cW.line)=true:=by rfl)(Sh:(kb.endLine==iL.line)=true:=by rfl)(aq:starEach [.Call (.Name f pB) [.Name y py,.Call (.Attribute (.Name x jA) "pop" kb) [e] [] iL] [] q4] X.env=(false,eval (.Call (.Name f pB) [.Name y py,.Call (.Attribute (.Name x jA) "pop" kb) [e] [] iL] [] q4) X.env)::starEach [] X.env:=by rfl)(s9:starEach [.Name y py,.Call (.Attribute (.Name x jA) "pop" kb) [e] [] iL] X.env=(false,eval (.Name y py) X.env)::starEach [.Call (.Attribute (.Name x jA) "pop" kb) [e] [] iL] X.env:=by rfl)(jL:starEach [.Call (.Attribute (.Name x jA) "pop" kb) [e] [] iL] X.env=(false,eval (.Call (.Attribute (.Name x jA) "pop" kb) [e] [] iL) X.env)::starEach [] X.env:=by rfl)(qz:starEach [e] X.env=(false,eval e X.env)::starEach [] X.env:=by rfl)(oO:(backTo cW (starEach ([]:List Expr) X.env)).any (·.1)=false:=by rfl)(Si:(backTo iL (starEach ([]:List Expr) X.env)).any (·.1)=false:=by rfl)(eK:(backTo q4 (starEach [.Call (.Attribute (.Name x jA) "pop" kb) [e] [] iL] X.env)).any (·.1)=false:=by rfl)(kE:swapsWith (.Call (.Attribute (.Name x px) "extend" apos) [.Call (.Name f pB) [.Name y py,.Call (.Attribute (.Name x jA) "pop" kb) [e] [] iL] [] q4] [] cW) none pos.line X.env=pure false:=by rfl):
  e7 X (.Expr (.Call (.Attribute (.Name x px) "extend" apos) [.Call (.Name f pB) [.Name y py,.Call (.Attribute (.Name x jA) "pop" kb) [e] [] iL] [] q4] [] cW) pos) (Sa i j F u):=by
 obtain⟨_,aa,ar⟩:=he;refine⟨_,rH (u0 abM ady adz R9 (hG bD aP hd dB) (eh (qk c ak aC (eh (hG Sd sS hd2 Se) (eh (u0 abM adO adP LZ (hG bD aP hd dB) (eh aa fD qz) Sf Sg Sh qz Si) fD jL) s9) gQ g0 s9 eK) fD aq) ip kx iq aq oO) kE,fun U ρ h R W B H σ D e s=>?_⟩;obtain⟨ds,aE,af,h⟩:=h;obtain⟨a,vs,ai,av,bG,c4,eL⟩:=e.ownAt aE;obtain⟨b,a9,bf⟩:=e.bagAt af;refine⟨_,ai,.inl ⟨rfl,vs,cw.of c4⟩,?_⟩;refine⟨_,a9,?_⟩;refine⟨_,ai,.inl ⟨rfl,vs,cw.of c4⟩,?_⟩;refine ar ρ _ h R W B H σ _ e fun d v a0 H1 z1 f1 g1 s1=>?_;obtain⟨n,z,rfl,aN,a',jl⟩:=z1;obtain⟨eI,kF,bY,ck,fS,iy,nB⟩:=f1.ownAt aE;rw[ai]at bY;cases bY;obtain⟨w,hw,mh⟩:=nB.get a'
 have cE:n<kF.length:=by
  rcases acw n kF.length with q|q
  ·exact q
  ·rw[aaF q]at hw;cases hw
 cases s1;refine⟨a,kF,n,n,w,rfl,rfl,iy,by omega,by omega,?_,hw,?_⟩
 ·rw[seqIndex_of (by omega) (by omega)];rfl
 have f2:=f1.write ai aE (nB.eraseIdx n);have tR:i≠j:=fun q=>by rw[q,af]at aE;cases aE
 have aD:i<ρ.length:=by
  rcases acw i ρ.length with q|q
  ·exact q
  ·rw[aaF q]at aE;cases aE
 have BP:(ρ.set i (.own (ds.eraseIdx n)))[j]?=some .bag:=by rw[aaV tR];exact af
 refine qs (E:=oQ) (as:=[.bag j,.val z]) f2 (.bag a9 BP (.val mh .nil)) rfl jl fun r v bH a3 ah bO g3 res=>?_;obtain⟨es,rfl,aj,tS⟩:=ah;obtain⟨p,ws,rfl,ag,l1⟩:=Rep.tupV res;have tQ:(ρ.set i (.own (ds.eraseIdx n)))[i]?=some (.own (ds.eraseIdx n)):=aa8 aD;obtain⟨eI,f7,Ho,ZH,ZI,Sj,Hp⟩:=bO.ownAt tQ;rw[ai]at Ho;cases Ho;have f4:=bO.write ai tQ (Hp.append l1);rw[abw]at f4;refine⟨a,p,f7,ws,rfl,rfl,Sj,bO.bh _ _ ag,?_,s.nx _ _ bH _ tS f4 (g1.trans g3)⟩;rw[Hp.length,l1.length];have:=zp ds n;omega
end L3
namespace Cut
open PySem L2 L3
open PySem.Builtin.Int (intBits)
theorem Hq{p q:P3}{t:Int}(ag:0<p.2.2)(ay:0<q.2.2)(t1:1<=t)(cY:t<=2):gq p q (iK p q t):=by
 have cS:0<p.2.2*q.2.2*3:=ZK (ZK ag ay) (by decide);obtain⟨g,ba,aC⟩:=i4 (p:=(p.1*q.2.2*(3-t)+q.1*p.2.2*t,p.2.1*q.2.2*(3-t)+q.2.1*p.2.2*t,p.2.2*q.2.2*3)) (Zh cS);have pt:=(fh (p:=(p.1*q.2.2*(3-t)+q.1*p.2.2*t,p.2.1*q.2.2*(3-t)+q.2.1*p.2.2*t,p.2.2*q.2.2*3)) (Zh cS)).1;have bG:p.2.2*q.2.2*3=g*(iK p q t).2.2:=congrArg (·.2.2) aC
 have gp:0<g:=by
  rcases Int.lt_or_le 0 g with h|h
  ·exact h
  ·have:g*(iK p q t).2.2<=0:=Int.mul_nonpos_of_nonpos_of_nonneg h (aas pt);omega
 refine⟨g,q.2.2*(3-t),p.2.2*t,gp,ZK ay (by omega),ZK ag (by omega),?_⟩;show sc g (iK p q t)=_
 rw[show sc g (iK p q t)=_ from aC.symm];refine ee ?_ ?_ ?_<;>simp only[lc]<;>grind
theorem Hr{m:Nat}{p q:P3}{t:Int}(ag:c' m p)(ay:c' m q)(t1:1<=t)(cY:t<=2):c' (2*m+3) (iK p q t):=by
 have cS:0<p.2.2*q.2.2*3:=ZK (ZK ag.pt.1 ay.pt.1) (by decide);have a9:intBits (3-t)<=2:=intBits_le_iff.mpr (by have e:(2:Nat)^2=4:=rfl;rw[e];omega);have bf:intBits t<=2:=intBits_le_iff.mpr (by have e:(2:Nat)^2=4:=rfl;rw[e];omega);refine⟨fh (p:=(p.1*q.2.2*(3-t)+q.1*p.2.2*t,p.2.1*q.2.2*(3-t)+q.2.1*p.2.2*t,p.2.2*q.2.2*3)) (Zh cS),cm.nP (p:=(p.1*q.2.2*(3-t)+q.1*p.2.2*t,p.2.1*q.2.2*(3-t)+q.2.1*p.2.2*t,p.2.2*q.2.2*3)) ⟨?_,?_,?_⟩ (Zh cS)⟩
 ·exact Gq (intBits_add_le (intBits_mul_le (intBits_mul_le ag.bp.a ay.bp.c) a9) (intBits_mul_le (intBits_mul_le ay.bp.a ag.bp.c) bf)) (by omega)
 ·exact Gq (intBits_add_le (intBits_mul_le (intBits_mul_le ag.bp.b ay.bp.c) a9) (intBits_mul_le (intBits_mul_le ay.bp.b ag.bp.c) bf)) (by omega)
 ·exact Gq (intBits_mul_le (intBits_mul_le ag.bp.c ay.bp.c) (show intBits 3<=2 by decide)) (by omega)
theorem T0.half{B D:List P3}{a b c d m n:P3}(h:T0 (b::B++(d::D)))(aj:3<=(b::B).length+(d::D).length)(dq:bX b B=a)(hb:bX d D=c)(hm:gq c b m)(aN:gq a d n):T0 (m::(b::B)++[n]):=by
 obtain⟨X,jB⟩:∃X,b::B=X++[a]:=by
  obtain⟨X,e⟩:=wj (z:=b) (r:=b::B) (by simp);exact⟨X,by rw[e];show _=X++[a];rw[<-dq];rfl⟩
 cases D with
 | nil =>
  have hb:d=c:=hb;subst hb;cases B with
  | nil=>simp at aj
  | cons bf B =>
   have dq:bX bf B=a:=dq
   obtain⟨Y,BQ⟩:∃Y,bf::B=Y++[a]:=by
    obtain⟨Y,e⟩:=wj (z:=bf) (r:=bf::B) (by simp);exact⟨Y,by rw[e];show _=Y++[a];rw[<-dq];rfl⟩
   rw[BQ]at h ⊢;have aa:T0 ((b::(Y++[a]))++[d]):=h
   have ab:T0 (Y++a::d::b::[]):=by
    have:=T0.turn (xs:=[b]) (ys:=(Y++[a])++[d]) aa;simpa using this
   have aL:=T0.off ab aN hm;have bo:T0 ((Y++[a,n])++[m,b]):=by simpa using aL
   have de:=T0.turn bo;simpa using de
 | cons b1 D =>
  have hb:bX b1 D=c:=hb
  obtain⟨Y,BQ⟩:∃Y,b1::D=Y++[c]:=by
   obtain⟨Y,e⟩:=wj (z:=b1) (r:=b1::D) (by simp);exact⟨Y,by rw[e];show _=Y++[c];rw[<-hb];rfl⟩
  have aa:T0 ((b::B)++[d,c]):=by
   refine T0.sub ?_ h;refine abB (acq _) (adD _ ?_);rw[BQ];exact adE _ _
  rw[jB]at aa;have ab:T0 (X++a::d::[c]):=by simpa using aa
  have aL:=T0.back ab aN;have bo:T0 ((b::B)++([n]++[c])):=by rw[jB];simpa using aL
  have de:T0 ([c]++((b::B)++[n])):=T0.turn (ys:=[c]) (xs:=(b::B)++[n]) (by simpa using bo);have fl:T0 ([]++c::b::(B++[n])):=by simpa using de
  have lN:=T0.on fl hm;simpa using lN
theorem Sk(φ:List (List Int)->Int){p q:P3}(ag:aR p)(ay:aR q):fI φ p q+fI φ q p=0:=by
 unfold fI dZ;rw[GX ag ay];grind
theorem Hs(φ:List (List Int)->Int){p q m:P3}(ag:aR p)(ay:aR q)(h:p≠q)(b:gq p q m):fI φ p m+fI φ m q=fI φ p q:=by
 obtain⟨ai,av⟩:=wQ ag ay h b;unfold fI dZ;rw[ai,av];grind
theorem Sl(φ:List (List Int)->Int){B D:List P3}{a b c d m n:P3}(dq:bX b B=a)(hb:bX d D=c)(hm:gq c b m)(aN:gq a d n)(pa:aR a)(pb:aR b)(pc:aR c)(tw:aR d)(pm:aR m)(pn:aR n)(aa:c≠b)(ab:a≠d):
  dc φ (m::(b::B)++[n])+dc φ (n::(d::D)++[m])=dc φ (b::B++(d::D)):=by
 have ai:da (m::(b::B)++[n])=(n,m)::(m,b)::(cT b B++[(a,n)]):=by
  unfold da;rw[show bX (0,0,1) (m::(b::B)++[n])=n from by rw[n1];rfl];show(n,m)::(m,b)::cT b (B++[n])=_
  rw[n0,dq];rfl
 have av:da (n::(d::D)++[m])=(m,n)::(n,d)::(cT d D++[(c,m)]):=by
  unfold da;rw[show bX (0,0,1) (n::(d::D)++[m])=m from by rw[n1];rfl];show(m,n)::(n,d)::cT d (D++[m])=_
  rw[n0,hb];rfl
 have bG:da (b::B++(d::D))=(c,b)::(cT b B++((a,d)::cT d D)):=by
  unfold da;rw[show bX (0,0,1) (b::B++(d::D))=c from by rw[n1];exact hb];show(c,b)::cT b (B++(d::D))=_
  rw[n0,dq];rfl
 unfold dc;rw[ai,av,bG];simp only[gK,wk,hz];have bY:=Sk φ pn pm;have ck:=Hs φ pc pb aa hm;have fS:=Hs φ pa tw ab aN;grind
theorem Ht(φ:List (List Int)->Int):∀A B:List P3,dc φ (A++B)=dc φ (B++A)
 | [],B=>by rw[Z'];rfl
 | a::A,B=>by
  have h:=Ht φ A (B++[a]);rw[show a::A++B=a::(A++B)from rfl,<-BE,aao,h,aao];rfl
def q5(ps:List P3)(i j:Nat)(p q:P3):List P3:=[p]++(ps.drop (i+1)).take (j-i)++[q]
def q6(ps:List P3)(i j:Nat)(p q:P3):List P3:=[q]++ps.drop (j+1)++ps.take (i+1)++[p]
theorem BR{ps:List P3}{i:Nat}(h:i<ps.length):ps.drop i=bu ps i::ps.drop (i+1):=by
 rw[abd h,kS h]
structure BS (m n:Nat) (ps b6 rs:List P3):Prop where
 a:eQ b6
 b:eQ rs
 la:b6.length<=n
 lb:rs.length<=n
 pa:∀x∈b6,c' m x
 pb:∀x∈rs,c' m x
 bal:∀φ,dc φ b6+dc φ rs=dc φ ps
theorem Sm{m:Nat}{ps:List P3}{i j:Nat}{t u:Int}(cv:eQ ps)(ag:∀x∈ps,c' m x)(mf:i<j)(bP:j<ps.length)(t1:1<=t)(cY:t<=2)(dj:1<=u)(dY:u<=2):
  BS (2*m+3) (ps.length+1) ps (q5 ps i j (iK (bu ps i) (bu ps (i+1)) t) (iK (bu ps j) (bu ps ((j+1)%ps.length)) u)) (q6 ps i j (iK (bu ps i) (bu ps (i+1)) t) (iK (bu ps j) (bu ps ((j+1)%ps.length)) u)):=by
 have e':=cv.1;have ck:(j+1)%ps.length<ps.length:=aby _ (by omega);have BU:=ag _ (mF (show i<ps.length by omega));have BV:=ag _ (mF (show i+1<ps.length by omega));have BW:=ag _ (mF bP);have BX:=ag _ (mF ck);have bm:=Hq BU.pt.1 BV.pt.1 t1 cY;have bn:=Hq BW.pt.1 BX.pt.1 dj dY;have gm:=Hr BU BV t1 cY;have jR:=Hr BW BX dj dY;generalize iK (bu ps i) (bu ps (i+1)) t=M at bm gm ⊢;generalize iK (bu ps j) (bu ps ((j+1)%ps.length)) u=N at bn jR ⊢
 obtain⟨B,oh⟩:∃B,(ps.drop (i+1)).take (j-i)=bu ps (i+1)::B:=by
  rw[BR (show i+1<ps.length by omega),show j-i=(j-i-1)+1 by omega,acV];exact⟨_,rfl⟩
 have BY:(bu ps (i+1)::B).length=j-i:=by rw[<-oh,aa0,abv];omega
 have lastB:bX (bu ps (i+1)) B=bu ps j:=by
  have:=wu (bu ps (i+1)) (bu ps (i+1)::B) (by simp);rw[show bX (bu ps (i+1)) (bu ps (i+1)::B)=bX (bu ps (i+1)) B from rfl]at this;rw[this,BY,<-oh];have aB:j-i-1<((ps.drop (i+1)).take (j-i)).length:=by rw[aa0,abv];omega
  rw[kS aB,kS bP,adQ,List.getElem_drop];congr 1;omega
 obtain⟨D,q7⟩:∃D,ps.drop (j+1)++ps.take (i+1)=bu ps ((j+1)%ps.length)::D:=by
  by_cases z:j+1<ps.length
  ·rw[aar z,BR z];exact⟨_,rfl⟩
  ·have e:j+1=ps.length:=by omega
   rw[e,ac1,abm,aaz];have:=BR (show 0<ps.length by omega);rw[acW]at this;rw[this,acV];exact⟨_,rfl⟩
 have sb:(bu ps ((j+1)%ps.length)::D).length=ps.length-(j-i):=by rw[<-q7,ZM,aa0,abv];omega
 have BZ:bX (bu ps ((j+1)%ps.length)) D=bu ps i:=by
  have ea:bX (bu ps ((j+1)%ps.length)) D=bX (0,0,1) (bu ps ((j+1)%ps.length)::D):=rfl;have bB:ps.take (i+1)≠[]:=fun z=>by have:=congrArg aam z;rw[aa0,abn]at this;omega
  rw[ea,<-q7,n1,wu _ _ bB];have aB:(ps.take (i+1)).length-1<(ps.take (i+1)).length:=by rw[aa0];omega
  rw[kS aB,kS (show i<ps.length by omega),adQ];congr 1;rw[aa0];omega
 have whole:ps=ps.take (i+1)++((ps.drop (i+1)).take (j-i)++ps.drop (j+1)):=by
  conv=>lhs;rw[<-adR (i+1) ps]
  congr 1
  conv=>lhs;rw[<-adR (j-i) (ps.drop (i+1))]
  rw[List.drop_drop];congr 2;omega
 have t0:T0 ps:=(pd ps).mpr cv.tri
 have rF:T0 (bu ps (i+1)::B++(bu ps ((j+1)%ps.length)::D)):=by
  rw[<-oh,<-q7,<-aao];refine T0.turn (xs:=ps.take (i+1)) ?_;rw[whole]at t0;exact t0
 have aj:3<=(bu ps (i+1)::B).length+(bu ps ((j+1)%ps.length)::D).length:=by rw[BY,sb];omega
 have a1:=T0.half rF aj lastB BZ bm bn;have a2:=T0.half (T0.turn rF) (by omega) BZ lastB bn bm;have q8:q5 ps i j M N=M::(bu ps (i+1)::B)++[N]:=by unfold q5;rw[oh];rfl
 have xa:q6 ps i j M N=N::(bu ps ((j+1)%ps.length)::D)++[M]:=by unfold q6;rw[aao [N],q7];rfl
 have big:∀x∈ps,c' (2*m+3) x:=fun x h=>(ag x h).mono (by omega);have Sn:∀x∈bu ps (i+1)::B,x∈ps:=fun x h=>by rw[<-oh]at h;exact acT (acn h)
 have So:∀x∈bu ps ((j+1)%ps.length)::D,x∈ps:=fun x h=>by
  rw[<-q7]at h;rcases aae.mp h with h|h
  ·exact acT h
  ·exact acn h
 have cu:bu ps i≠bu ps (i+1):=cv.side (by
  rw[wx];refine Z9.mpr ⟨i+1,aaY.mpr (by omega),?_⟩
  rw[show i+1+ps.length-1=i+ps.length by omega,abO,aar (by omega)])
 have dn:bu ps j≠bu ps ((j+1)%ps.length):=cv.side (by
  rw[wx];refine Z9.mpr ⟨(j+1)%ps.length,aaY.mpr ck,?_⟩;congr 1;by_cases z:j+1<ps.length
  ·rw[aar z,show j+1+ps.length-1=j+ps.length by omega,abO,aar bP]
  ·rw[show j+1=ps.length by omega,ac1,aa2,aar (by omega)];congr 1
   omega)
 refine⟨?_,?_,?_,?_,?_,?_,fun φ=>?_⟩
 ·rw[q8];refine o'.cvx ?_ ((pd _).mp a1)
  first|(simp;done)|(simp;omega)
 ·rw[xa];refine o'.cvx ?_ ((pd _).mp a2)
  first|(simp;done)|(simp;omega)
 ·rw[q8,aaL,Z8,ZM,BY]
  first|(simp;done)|(simp;omega)
 ·rw[xa,aaL,Z8,ZM,sb]
  first|(simp;done)|(simp;omega)
 ·rw[q8];intro x aB;rcases aae.mp aB with aB|aB
  ·rcases Z6.mp aB with rfl|aB
   ·exact gm
   ·exact big x (Sn x aB)
  ·rw[aac.mp aB];exact jR
 ·rw[xa];intro x aB;rcases aae.mp aB with aB|aB
  ·rcases Z6.mp aB with rfl|aB
   ·exact jR
   ·exact big x (So x aB)
  ·rw[aac.mp aB];exact gm
 ·rw[q8,xa,Sl φ lastB BZ bm bn BW.pt BV.pt BU.pt BX.pt gm.pt jR.pt cu dn,<-oh,<-q7,<-aao,<-Ht φ (ps.take (i+1))];rw[<-whole]
end Cut
namespace Cut
theorem Sp{ns:List Int}{x y:Int}(h:ns.Perm [x,y])(s:ns.Pairwise (· <= ·)):(ns=[x,y]/\x<=y)∨(ns=[y,x]/\y<=x):=by
 match ns,h.length_eq with
 | [a,b],_ =>
  have hx:a<=b:=by simpa using s
  have ax:a∈[x,y]:=h.mem_iff.mp (by simp);have af:b∈[x,y]:=h.mem_iff.mp (by simp);have aB:x∈[a,b]:=h.mem_iff.mpr (by simp);have a5:y∈[a,b]:=h.mem_iff.mpr (by simp);simp at ax af aB a5;rcases ax with rfl|rfl
  ·have:b=y:=by omega
   subst this;exact .inl ⟨rfl,hx⟩
  ·have:b=x:=by omega
   subst this;exact .inr ⟨rfl,hx⟩
theorem Sq{ns:List Int}{a b:Int}{n:Nat}(fG:0<=a)(a1:a<n)(dv:0<=b)(a9:b<(n:Int)-1)(pm:ns.Perm [a,b+if decide (a<=b)=true then 1 else 0])(xb:ns.Pairwise (· <= ·)):∃I J:Nat,ns=[(I:Int),(J:Int)]/\I<J/\J<n:=by
 obtain⟨c,hc,aG,aJ,bZ⟩:∃c:Int,(b+if decide (a<=b)=true then 1 else 0)=c/\a≠c/\0<=c/\c<n:=by
  by_cases h:a<=b
  ·rw[decide_eq_true h,if_pos rfl];exact⟨b+1,rfl,by omega,by omega,by omega⟩
  ·rw[decide_eq_false h,if_neg aal];exact⟨b+0,rfl,by omega,by omega,by omega⟩
 rw[hc]at pm;rcases Sp pm xb with⟨rfl,l⟩|⟨rfl,l⟩
 ·exact⟨a.toNat,c.toNat,by rw[acx fG,acx aJ],by omega,by omega⟩
 ·exact⟨c.toNat,a.toNat,by rw[acx fG,acx aJ],by omega,by omega⟩
end Cut
namespace Cut
open PySem L2 L3
theorem Sr{α:Type}{xs:List α}{i j:Nat}(h:i<=j)(ab:j<=xs.length):fx xs (some ((i:Nat):Int)) (some ((j:Nat):Int))=(xs.drop i).take (j-i):=by
 have ai:HT.sIx xs.length 0 (some ((i:Nat):Int))=i:=by
  unfold HT.sIx
  first|omega|(simp only[];split<;>omega)|(split<;>omega)|(dsimp only;split<;>(try split)<;>omega)
 have av:HT.sIx xs.length xs.length (some ((j:Nat):Int))=j:=by
  unfold HT.sIx
  first|omega|(simp only[];split<;>omega)|(split<;>omega)|(dsimp only;split<;>(try split)<;>omega)
 unfold fx;rw[ai,av]
theorem Su{ps:List P3}{i j:Nat}{p q:P3}(h:i<j)(ab:j<ps.length):ek (q5 ps i j p q)=.lst ([dP p]++fx (ps.map dP) (some ((i:Int)+1)) (some ((j:Int)+1))++[dP q]):=by
 have e:=Sr (xs:=ps) (i:=i+1) (j:=j+1) (by omega) (by omega);rw[show((i:Int)+1)=((i+1:Nat):Int) by omega,show((j:Int)+1)=((j+1:Nat):Int) by omega,zQ,e,show j+1-(i+1)=j-i by omega];show D.lst ((q5 ps i j p q).map dP)=_
 unfold q5;rw[Z7,Z7];rfl
theorem Sv{ps:List P3}{i j:Nat}{p q:P3}(h:i<j)(ab:j<ps.length):ek (q6 ps i j p q)=.lst ([dP q]++fx (ps.map dP) (some ((j:Int)+1)) none++fx (ps.map dP) none (some ((i:Int)+1))++[dP p]):=by
 have ai:=Oj (xs:=ps) (i:=(j:Int)+1) (by omega) (by omega);have av:=Ol (xs:=ps) (i:=(i:Int)+1) (by omega) (by omega);rw[zQ,zQ,ai,av,show((j:Int)+1).toNat=j+1 by omega,show((i:Int)+1).toNat=i+1 by omega];show D.lst ((q6 ps i j p q).map dP)=_
 unfold q6;rw[Z7,Z7,Z7];rfl
theorem Hu(φ:List (List Int)->Int):∀{rs:List (List P3)}{n:Nat}{r:List P3},rs[n]?=some r->e2 φ (rs.eraseIdx n)+dc φ r=e2 φ rs
 | [],_,_,h=>by simp at h
 | q::rs,0,r,h=>by
  have e:q=r:=by simpa using h
  subst e;rw[List.eraseIdx_cons_zero,oe];grind
 | q::rs,n+1,r,h=>by
  have:=Hu φ (rs:=rs) (n:=n) (r:=r) (by simpa using h);rw[ado,oe,oe];grind
end Cut
namespace Cut
open PySem L2 L3
open PySem.Builtin.Int (intBits)
theorem Hv{α β:Type}(f:α->β):∀(l:List α)(n:Nat),(l.map f).eraseIdx n=(l.eraseIdx n).map f
 | [],_=>rfl
 | _::_,0=>rfl
 | x::l,n+1=>by
  show f x::(l.map f).eraseIdx n=f x::(l.eraseIdx n).map f
  rw[Hv f l n]
end Cut
namespace L3
open PySem L2
section
variable{K:PySem.W.Frag}{X:aM}{i:Nat}{rest:List Stmt}
theorem Sw{α:Type}{x y z:α}{r:List α}:dE (x::y::z::r) 2=some z:=by
 simp[dE,ixN];rw[if_pos (by omega)];rfl
end
section
variable{K:PySem.W.Frag}{u:a7}{w:cO}
def Sx(K:PySem.W.Frag)(B:ao)(J:h5)(ds:List D):Prop:=∀(H:ao),cp B H->∀i,(i<ds.length->J.go i H)/\(ds.length<=i->J.stop i H)/\∀x H',i<ds.length->J.yld i H x H'->∃q vs es,H q=none/\x=.ref q/\H'=upd H q (.tup vs)/\ds[i]?=some (.tup es)/\Reps K B vs es
def Hw(K:PySem.W.Frag)(t:TI)(u:cO):Prop:=∀(ρ:List aH)(k:List D->Prop),u ρ k->∀(R:ao)(W:Addr->Prop)(B H:ao)(σ:St)(Q:h5->ao->Prop),Ev K R W B H σ ρ ->
 (∀ds J az H',k ds->Ev K R W az H' σ ρ->bM R B az->Sx K az J ds->Q J H')->t σ H Q
theorem Sy{fu:TI}{g:gC}{tt:TT}{cC:TE}{e0:ec}{ut:dA}{dF:Nat}{js:List Nat}(h0:Hw K fu w)(aC:qn K g e0)(bB:hP K tt ut)(aa:eM K cC u)(o4:js.Nodup):qm K (qy fu g tt cC dF js) (nI w e0 ut u dF js):=by
 intro ρ k h R W B H σ Q e q;refine h0 ρ _ h R W B H σ _ e fun ds J a0 H1 z1 ai g1 it=>?_;obtain⟨aj,z1⟩:=z1;intro D gO;obtain⟨f1,f2,bO⟩:=ai.toWd.fresh gO;have nK:∀i,¬cP σ ρ i D:=fun i m=>ai.notNew gO m rfl;have eZ:=ai.within dF o4
 have kL:∀j a,cP (aad dF none++hs σ js) (aad dF .no++js.map (jn ρ)) j a->∃j,j∈js/\σ[j]?=some (some (V.ref a))/\ρ[j]?=some aH.bag:=fun j a m=>by
  have bS:=(eZ.mutOk m).2;rcases m with⟨bw,z|⟨es,z⟩⟩|⟨c,z,oP⟩
  ·obtain⟨c,aG,aJ,_⟩:=eZ.bagAt z;rw[bw]at aG;cases aG;rcases aJ with aJ|aJ
   ·exact aJ
   ·exact absurd aJ bS
  ·obtain⟨c,aG,aJ,_⟩:=eZ.ownC z;rw[bw]at aG;cases aG;exact absurd aJ bS
  ·exact absurd ((eZ.deepAt z).2.fr a oP).1 bS
 generalize nL:(fun a=>∃j,j∈js/\σ[j]?=some (some (V.ref a))/\ρ[j]?=some aH.bag)=fa at eZ;have kL:∀j a,cP (aad dF none++hs σ js) (aad dF .no++js.map (jn ρ)) j a->fa a:=fun j a m=>by rw[<-nL];exact kL j a m
 have g6:∀a,fa a->∃i:Nat,σ[i]?=some (some (.ref a))/\ρ[i]?=some .bag:=fun a z=>by
  rw[<-nL]at z;obtain⟨j,_,z⟩:=z;exact⟨j,z⟩
 have kM:¬fa D:=fun z=>by
  obtain⟨o5,bI,c9⟩:=g6 D z;exact nK o5 (.inl ⟨bI,.inl c9⟩)
 refine⟨fun i m i1 H'=>∃az ys es hT,m=ds.length-i/\i<=ds.length/\Ev K H1 fa az H' i1 hT/\bM H1 a0 az/\H' D=some (.lst ys)/\az D=none/\(∀j a,cP i1 hT j a->fa a)/\ys.length<=i/\Reps K az ys es/\gS e0 ut u (ds.drop i) hT fun r=>k (es++r),
  ⟨ds.length,a0,[],[],_,by simp,aaE _,eZ.allocH gO _,bM.refl _ _,en,bO,kL,Zg _,.nil,by simpa using z1⟩,?_⟩
 rintro i m i1 a3 ⟨bH,ys,es,hT,rfl,aD,av,g2,a5,af,sx,EU,cx,aQ⟩;obtain⟨t1,cY,t3⟩:=it a3 (g2.s.trans av.bh) i;by_cases cE:i<ds.length
 ·refine .inr ⟨t1 cE,fun x H' y=>?_⟩;obtain⟨fm,pC,Hx,j2,rfl,rfl,hd,bc⟩:=t3 x H' cE y
  have gn:ds.drop i=.tup Hx::ds.drop (i+1):=by
   rw[abd cE];rw[aan cE]at hd;rw[aab hd]
  rw[gn]at aQ;have Hy:D≠fm:=fun z=>by rw[z,j2]at a5;cases a5
  have Hz:=av.grow j2 (.tup pC);have B0:=av.alloc j2 (.tup pC);have xc:upd a3 fm (.tup pC) D=some (.lst ys):=by rw[dz Hy];exact a5
  have HA:upd bH fm (.tup pC) D=none:=by rw[dz Hy];exact af
  have B1:=cx.mono Hz.s;have xf:=g2.trans Hz;have HB:Rep K (upd bH fm (.tup pC)) (.ref fm) (.tup Hx):=.tup en (bc.mono xf.s);generalize upd a3 fm (.tup pC)=H' at B0 xc;generalize upd bH fm (.tup pC)=B2 at B0 HA B1 xf HB;refine aC _ hT _ aQ H1 fa B2 H' i1 _ _ B0 HB fun hU fU fF bG bF=>?_;have gT:∀j a,cP fU hU j a->fa a:=fun j a m=>sx j a (bF j a m)
  have kN:∀{f5:ao},bM H' B2 f5->f5 D=none:=fun{f5} dG=>by
   cases sy:f5 D with
   | none=>rfl
   | some o =>
    rcases dG.n D o sy with z|z
    ·rw[HA]at z;cases z
    ·rw[xc]at z;cases z
  refine bB hU _ fF H' fa B2 H' fU _ (bG.rebase gT) fun b f5 kJ eY c4 dG=>?_;have sA:kJ D=some (.lst ys):=c4.fr D _ xc kM;cases b with
  | false =>
   rw[if_neg aal]at eY ⊢;obtain⟨eL,i2⟩:=bG.unbase gT c4 dG;exact⟨ds.length-(i+1),by omega,f5,ys,es,hU,rfl,cE,eL,xf.trans i2,sA,kN dG,gT,by omega,B1.mono dG.s,eY⟩
  | true =>
   rw[if_pos rfl]at eY ⊢;refine aa hU _ eY H' fa f5 kJ fU _ c4 fun ey v sC fN kK eL i2 s5=>?_;have i3:=dG.trans i2;have sD:fN D=some (.lst ys):=eL.fr D _ xc kM;obtain⟨jU,sE⟩:=bG.unbase gT eL i3;refine⟨ys,sD,by omega,ds.length-(i+1),by omega,sC,ys++[v],es++[ey],hU,rfl,cE,jU.scribble gO (kN i3) (fun j m=>kM (gT j D m)) _,xf.trans sE,en,kN i3,gT,by rw[ZM,aaQ];omega,(B1.mono i3.s).append (.cons s5 .nil),?_⟩;simpa[aao]using kK
 ·have eq:i=ds.length:=by omega
  subst eq;rw[abm]at aQ;obtain⟨c4,dG⟩:=ai.after g6 av.toWd g2;refine .inl ⟨cY (Zg _),q _ D ys bH a3 (by simpa[gS]using aQ) c4 (g1.trans dG) f1 af a5 cx nK⟩
def HC(X:aM)(bE e:Expr)(u:cO):Prop:=∃t,jJ X bE e t/\Hw X.K t u
variable{X:aM}{elt iter bE:Expr}{ifs:List Expr}{scope:Scope}{cl:List (Str×Addr)}{ts fr:List Str}{js:List Nat}{e0:ec}{ut:dA}{pos:Pos}
theorem HD(aD:HC X bE iter w)(aC:∀C s H ex,iX (dr X (ts++fr) scope cl C s H ex) bE e0)(iB:∀C s H ex,nM (dr X (ts++fr) scope cl C s H ex) ifs ut)(iC:∀C s H ex,br (dr X (ts++fr) scope cl C s H ex) elt u)(F:nF X scope cl fr js)(mA:js.Nodup:=by decide)(hc:X.calm=true:=by rfl)(aq:∀v,foldedSetIterable iter X.env v=pure v:=by intro _;rfl):jV X (.ListComp elt [⟨bE,iter,ifs,0⟩] scope pos) (nI w e0 ut u ts.length js):=by
 obtain⟨_,h0,fY⟩:=aD;obtain⟨vF,mB,rg⟩:=sG (K:=X.K) (Xs:=fun a:Addr×Shared×ao×List Addr=>dr X (ts++fr) scope cl a.1 a.2.1 a.2.2.1 a.2.2.2) (fun _=>rfl) fun a=>aC a.1 a.2.1 a.2.2.1 a.2.2.2;obtain⟨tt,mC,rt⟩:=sF (K:=X.K) (Xs:=fun a:Addr×Shared×ao×List Addr=>dr X (ts++fr) scope cl a.1 a.2.1 a.2.2.1 a.2.2.2) (fun _=>rfl) fun a=>iB a.1 a.2.1 a.2.2.1 a.2.2.2;obtain⟨cC,mD,re⟩:=vE (K:=X.K) (Xs:=fun a:Addr×Shared×ao×List Addr=>dr X (ts++fr) scope cl a.1 a.2.1 a.2.2.1 a.2.2.2) (fun _=>rfl) fun a=>iC a.1 a.2.1 a.2.2.1 a.2.2.2;exact⟨_,Aa h0 (fun C s H ex=>mB (C,s,H,ex)) (fun C s H ex=>mC (C,s,H,ex)) (fun C s H ex=>mD (C,s,H,ex)) F hc aq,Sy fY rg rt re mA⟩
end
end L3
namespace Cut
open PySem L2 L3
open PySem.Builtin.Int (intBits)
theorem fi.refl(rs:List (List P3)):fi rs rs:=fun _=>rfl
end Cut
namespace L3
open PySem PySem.Spec PyProof.Rows PySem.W L2
section
variable{X:aM}
theorem ld_var{E:Value->Shared->Prop}{pins:List (Addr×Obj)}{s:Shared}{σ:L2.St}{H:ao}{i:Nat}{x:Str}{v:V}{pos:Pos}{Q:Value->Shared->Prop}(I:Inv X pins σ H s)(bD:X.N[i]?=some x)(aP:gb X.env.scope x)(e:σ[i]?=some (some v))(h:∀u,RelV v u->Q u s)(hd:(x==("__debug__":Str))=false:=by decide)(dB:(x==("__classdict__":Str))=false:=by decide):wpAny (model X.prog X.w) X.A (eval (.Name x pos) X.env) Q E s:=by
 obtain⟨m,aN,aj⟩:=I.loc;obtain⟨u,r,l⟩:=aj i x v bD e aP;have fin:=h u r;rcases l with⟨ah,hm⟩|⟨ah,c,hc,oF⟩
 ·exact wpAny_Name (wpAny_loadName_local I.ok.kind ah aN hm fin) hd
 ·rcases ah with ah|ah
  ·exact wpAny_Name (wpAny_loadName_cell I.ok.kind ah hc oF fin) hd
  ·exact wpAny_Name (wpAny_loadName_free I.ok.kind ah hc oF fin dB) hd
end
end L3
namespace L3
open PySem PySem.Spec PyProof.Rows L2
section
open PySem.W
variable{X:aM}
end
end L3
namespace L2
open PySem PySem.Spec PyProof.Rows PySem.W
variable{X:aM}
def B3(i:Nat)(f:Addr)(sp:gN)(E:fB)(t:eX):TE:=fun σ H Q=>σ[i]?=some (some (.ref f))/\uW sp [] E t σ H Q
theorem HE{i:Nat}{x y:Str}{f:Addr}{ps:List Str}{j k:Nat}{sp:gN}{p pos:Pos}{e:Expr}{es:List Expr}{t:eX}(c:aI X.prog X.w X.K X.mg X.base y ps j sp)(hm:X.mg y=some (.ref f))(ak:eC k X.A)(ax:hq X (e::es) t)(gQ:j<=k)(bD:X.N[i]?=some x)(aP:gb X.env.scope x)(hd:(x==("__debug__":Str))=false)(dB:(x==("__classdict__":Str))=false)(he:starEach (e::es) X.env=(false,eval e X.env)::starEach es X.env:=by rfl)(eK:(backTo pos (starEach es X.env)).any (·.1)=false:=by rfl):
  b2 X (.Call (.Name x p) (e::es) [] pos) (B3 i f sp oQ t):=by
 obtain⟨ZO,fd,m,kp,b,F⟩:=c.ex;rw[hm]at m;cases m;intro pins s σ H Q I h;obtain⟨h0,h⟩:=h;refine wpAny_Call_Name_kw (L3.ld_var I bD aP h0 (fun u r=>?_) hd dB);cases r;refine PySem.W.callWith_K (h₀:=X.base) I.ok.mod.kin kp (cq (ax pos pins s σ H _ I h) fun us s1 ⟨vs,H1,bg,r,q⟩=>⟨bg.kIn,?_⟩) he eK;exact DE F (ak.mono gQ) b .nil DY bg r q
end L2
namespace L3
open PySem L2
section
variable{X:aM}{e:Expr}{es:List Expr}{w:cO}{u dj dY:a7}{p pos:Pos}{n:Nat}{tT bx:FS}
theorem HF{x:Str}{f:Addr}(hm:X.mg x=some (.ref f))(aC:eB X x)(hd:(x==("__debug__":Str))=false:=by decide):br X (.Name x pos) (qp (.kfn f)):=
 ⟨_,Dk (v:=.ref f) aC hm rfl hd,fun _ _ h _ _ B H _ _ e q=>q _ _ B H h e (bM.refl _ _) (.kfn f)⟩
theorem call_plain{x:Str}{ps:List Str}{R:ao}{W:Addr->Prop}{B H:ao}{σ:St}{ρ:List aH}{F:FS}{t:eX}{w:hO}(ar:Ea X.K t w){k:D->Prop}(h:kD n F w ρ k){Q:cN}(e:Ev X.K R W B H σ ρ)(q:∀d v az H',k d->Ev X.K R W az H' σ ρ->bM R B az->Rep X.K az v d->Q v H'):uW (aK X.K n F) [] oQ t σ H Q:=by
 refine ar ρ _ h R W B H σ _ e fun as vs a0 H1 z1 ai g1 s1=>?_;rw[Z'];refine qs ai s1 z1.1 z1.2 fun r v bH a3 ah av g2 res=>?_;cases r with
 | no=>exact ah.elim
 | bag=>exact ah.elim
 | pin v d=>exact ah.elim
 | deep c=>exact ah.elim
 | val d=>exact q d v bH a3 ah av (g1.trans g2) res
 | new d=>exact q d v bH a3 ah av (g1.trans g2) (Rep.mono hQ res)
 | own c =>
  cases c with
  | d _ _ _ _=>exact ah.elim
  | l ds =>
  obtain⟨a,rfl,f1,f2,us,bO,f4⟩:=res
  obtain⟨bG,g3⟩:=av.freeze bO (ai.toWd.fresh f1).1 f2 fun i m=>absurd f1 (by
   have bw:cP σ ρ i a:=m
   exact(ai.mutOk bw).2)
  exact q _ _ _ _ ah bG ((g1.trans g2).trans g3) (.lst en (f4.mono g3.s))
def SA(i:Nat)(f1 f2:Addr)(n:Nat)(tT bx:FS)(w:hO):a7:=fun ρ k=>(ρ[i]?=some (.val (.kfn f1))/\kD n tT w ρ k)∨(ρ[i]?=some (.val (.kfn f2))/\kD n bx w ρ k)
theorem B4(i:Nat){x bI c9:Str}{a1 a2:Addr}{xg xh:List Str}{eN eP lv:Nat}{w:hO}(aG:aI X.prog X.w X.K X.mg X.base bI xg eN (aK X.K n tT))(bw:X.mg bI=some (.ref a1))(aJ:aI X.prog X.w X.K X.mg X.base c9 xh eP (aK X.K n bx))(b8:X.mg c9=some (.ref a2))(ak:eC lv X.A)(ax:lG X (e::es) w)(aa:eN<=lv:=by decide)(ab:eP<=lv:=by decide)(bD:X.N[i]?=some x:=by rfl)(aP:gb X.env.scope x:=by first|exact Sz rfl|exact ZN (Sz rfl)|exact ZN (ZN rfl))(hd:(x==("__debug__":Str))=false:=by decide)(dB:(x==("__classdict__":Str))=false:=by decide)(he:starEach (e::es) X.env=(false,eval e X.env)::starEach es X.env:=by rfl)(eK:(backTo pos (starEach es X.env)).any (·.1)=false:=by rfl):
  br X (.Call (.Name x p) (e::es) [] pos) (SA i a1 a2 n tT bx w):=by
 obtain⟨t,g1,ar⟩:=ax;refine⟨fun σ H Q=>B3 i a1 (aK X.K n tT) oQ t σ H Q∨B3 i a2 (aK X.K n bx) oQ t σ H Q,fun pins s σ H Q I h=>?_,fun ρ k h R W B H σ Q e q=>?_⟩
 ·rcases h with h|h
  ·exact HE aG bw ak g1 aa bD aP hd dB he eK pins s σ H Q I h
  ·exact HE aJ b8 ak g1 ab bD aP hd dB he eK pins s σ H Q I h
 ·rcases h with⟨h0,h⟩|⟨h0,h⟩
  ·obtain⟨v,lX,b3⟩:=e.val h0;cases b3;exact .inl ⟨lX,call_plain (x:=bI) (ps:=xg) ar h e q⟩
  ·obtain⟨v,lX,b3⟩:=e.val h0;cases b3;exact .inr ⟨lX,call_plain (x:=bI) (ps:=xg) ar h e q⟩
def SD(u:a7):cO:=fun ρ k=>u ρ fun x=>∃ds,x=.lst ds/\k (ig 0 ds)
theorem xi:∀(n:Nat)(ds:List D),(ig n ds).length=ds.length
 | _,[]=>rfl
 | n,d::ds=>by simp[ig,xi (n+1) ds]
theorem HG:∀(n:Nat){ds:List D}{i:Nat}{d:D},ds[i]?=some d->(ig n ds)[i]?=some (.tup [.int ((n+i:Nat):Int),d])
 | _,[],i,d,h=>by simp at h
 | n,x::ds,0,d,h=>by simp at h;subst h;rfl
 | n,x::ds,i+1,d,h=>by
  have:=HG (n+1) (ds:=ds) (i:=i) (d:=d) (by simpa using h);rw[show n+1+i=n+(i+1) by omega]at this;simpa[ig]using this
theorem HH{tp:Pos}{elts:List Expr}{aZ:Nat}{a:Expr}(ax:br X a u)(aC:eB X "enumerate")(hm:X.mg "enumerate"=none)(aq:starEach [a] X.env=[(false,eval a X.env)]:=by rfl):HC X (.Tuple elts aZ tp) (.Call (.Name "enumerate" p) [a] [] pos) (SD u):=by
 obtain⟨_,aa,ar⟩:=ax;refine⟨_,AS aC hm (eh aa fD (by rw[aq];rfl)) aq,fun ρ k h R W B H σ Q e q=>?_⟩;refine ar ρ _ h R W B H σ _ e fun d v a0 H1 z1 ai g1 s1=>?_;obtain⟨ds,rfl,z⟩:=z1;obtain⟨eI,vs,rfl,eD,hI⟩:=s1.lstV;refine⟨eI,rfl,⟨vs,cw.of (ai.bh _ _ eD)⟩,q _ _ a0 H1 z ai g1 fun H' wL i=>?_⟩;have dm:=wL _ _ eD;have ll:=hI.length;rw[xi];refine⟨fun aD=>?_,fun aD=>⟨vs,cw.of dm,by omega⟩,fun x a3 aD y=>?_⟩
 ·exact⟨vs,vs[i],cw.of dm,aan (by omega)⟩
 ·obtain⟨n4,y,ag,rfl,rfl,a5⟩:=y;obtain⟨d,hd,iz⟩:=hI.getV (a5 vs (cw.of dm));have:=HG 0 hd;rw[aa2]at this;exact⟨n4,_,_,ag,rfl,rfl,this,.cons (.int _) (.cons iz .nil)⟩
theorem Reps.dropLast{K:PySem.W.Frag}{B:ao}:∀{vs:List V}{ds:List D},Reps K B vs ds->Reps K B vs.dropLast ds.dropLast
 | _,_,.nil=>.nil
 | _,_,.cons r .nil=>.nil
 | _,_,.cons r (.cons aF t)=>.cons r (Reps.dropLast (.cons aF t))
def SE(i j:Nat)(dj dY:a7):cI:=fun U ρ=>∃(ds:List D)(z:D),ρ[j]?=some (.own (ds++[z]))/\dj ρ fun bL=>dY ρ fun b1=>U.nx ((ρ.set j (.own ds)).set i (.val (.tup [bL,b1,z])))
theorem SF(i j:Nat){x y:Str}{ai av:Expr}{px pos' apos cW:Pos}{HI}(aa:br X ai dj)(ab:br X av dY)(bD:X.N.Nodup)(aD:X.N[i]?=some y)(a5:Loc X.env.scope y)(bP:X.N[j]?=some x:=by rfl)(aP:gb X.env.scope x:=by first|exact Sz rfl|exact ZN (Sz rfl)|exact ZN (ZN rfl))(hd:(x==("__debug__":Str))=false:=by decide)(dB:(x==("__classdict__":Str))=false:=by decide)(ip:attributeBase (.Name x px) "pop" X.env (eval (.Name x px) X.env)=eval (.Name x px) X.env:=by rfl)(iq:(apos.endLine==cW.line)=true:=by rfl)(s9:starEach [ai,av,.Call (.Attribute (.Name x px) "pop" apos) [] [] cW] X.env=(false,eval ai X.env)::starEach [av,.Call (.Attribute (.Name x px) "pop" apos) [] [] cW] X.env:=by rfl)(jL:starEach [av,.Call (.Attribute (.Name x px) "pop" apos) [] [] cW] X.env=(false,eval av X.env)::starEach [.Call (.Attribute (.Name x px) "pop" apos) [] [] cW] X.env:=by rfl)(qz:starEach [.Call (.Attribute (.Name x px) "pop" apos) [] [] cW] X.env=(false,eval (.Call (.Attribute (.Name x px) "pop" apos) [] [] cW) X.env)::starEach [] X.env:=by rfl)(aq:swapsWith (.Tuple [ai,av,.Call (.Attribute (.Name x px) "pop" apos) [] [] cW] HI p) (some (.Name y pos')) pos.line X.env=pure false:=by rfl)(hf:X.fn y=true∨X.env.scope.names.lookup y=some .local:=by first|exact .inl rfl|exact .inr rfl|assumption):
  e7 X (.Assign [.Name y pos'] (.Tuple [ai,av,.Call (.Attribute (.Name x px) "pop" apos) [] [] cW] HI p) pos) (SE i j dj dY):=by
 obtain⟨_,g1,ar⟩:=aa;obtain⟨_,g2,aF⟩:=ab;refine⟨_,oH bD aD a5 (zf (eh g1 (eh g2 (eh (DS abM adO adP LX (hG bP aP hd dB) ip iq) fD qz) jL) s9)) aq hf,fun U ρ h R W B H σ D e s=>?_⟩;obtain⟨ds,z,aE,h⟩:=h;refine ar ρ _ h R W B H σ _ e fun bL v1 a0 H1 z1 f1 bY s1=>?_;refine aF ρ _ z1 R W a0 H1 σ _ f1 fun b1 v2 bH a3 aQ f2 ck s2=>?_;obtain⟨a,vs,a4,bS,fC,p8,tU⟩:=f2.ownAt aE;have ll:=tU.length;rw[ZM,aaQ]at ll;obtain⟨ey,nj,cx⟩:=tU.get (i:=ds.length) (d:=z) (by simp);refine⟨_,a4,.inl ⟨rfl,vs,cw.of p8⟩,a,vs,ey,rfl,rfl,p8,by rw[ll];exact nj,?_⟩
 have bO:=f2.write a4 aE (ds':=ds) (vs:=vs.dropLast) (by
  have:=tU.dropLast
  rwa [ac9]at this)
 refine⟨show 3<=sizeLine by decide,fun n4 HJ=>?_⟩;have g3:=bO.grow HJ (.tup [v1,v2,ey]);exact s.nx _ _ _ _ aQ ((bO.alloc HJ _).setV i (.tup en (.cons ((s1.mono ck.s).mono g3.s) (.cons (s2.mono g3.s) (.cons (cx.mono g3.s) .nil))))) ((bY.trans ck).trans g3)
end
end L3
namespace Cut
open PySem L2 L3
open PySem.Builtin.Int (intBits)
theorem SG{l a b c:P3}(aj:l.1≠0∨l.2.1≠0)(ax:ln l a=0)(af:ln l b=0)(hc:ln l c=0)(pc:0<c.2.2):bb a b c=0:=by
 have ai:l.1*bb a b c=0:=by
  unfold ln at ax af hc;unfold bb crs;grind
 have av:l.2.1*bb a b c=0:=by
  unfold ln at ax af hc;unfold bb crs;grind
 rcases aj with h|h
 ·exact(aaG.mp ai).resolve_left h
 ·exact(aaG.mp av).resolve_left h
theorem SH{l:P3}{b6:List P3}(aj:l.1≠0∨l.2.1≠0)(t:T0 b6)(ag:∀p∈b6,0<p.2.2):(b6.filter fun x=>decide (ln l x=0)).length<=2:=by
 have cY:=t.sub (List.filter_sublist (p:=fun x=>decide (ln l x=0)))
 have z:∀x∈b6.filter fun x=>decide (ln l x=0),ln l x=0/\0<x.2.2:=fun x aB=>by
  have:=abt.mp aB;exact⟨by simpa using this.2,ag x this.1⟩
 match h:b6.filter fun x=>decide (ln l x=0),cY,z with
 | [],_,_=>simp
 | [_],_,_=>simp
 | [_,_],_,_=>simp
 | a::b::c::r,cY,z =>
  exfalso
  have:=cY.1.1 c (by simp);have e:=SG aj (z a (by simp)).1 (z b (by simp)).1 (z c (by simp)).1 (z c (by simp)).2;omega
def pos(f:P3->Int)(ps:List P3):Nat:=(ps.filter fun x=>decide (0<f x)).length
theorem HK{f:P3->Int}{mt:P3->P3->P3}(hm:∀p q,f p*f q<0->f (mt p q)=0):∀(ps:List P3)(w:P3),pos f (c6 f mt ps w)<=pos f ps
 | [],_=>Zg _
 | p::r,w=>by
  have c3:=HK hm r w;show pos f (kp f p++cH f mt p (r.headD w)++c6 f mt r w)<=_
  unfold pos at c3 ⊢;rw[abZ,abZ,ZM,ZM]
  have aa:((kp f p).filter fun x=>decide (0<f x)).length=if 0<f p then 1 else 0:=by
   unfold kp;by_cases z:0<f p
   ·rw[if_pos (by omega),if_pos z];simp[z]
   ·rw[if_neg z];by_cases y:0<=f p
    ·rw[if_pos y];simp[z]
    ·rw[if_neg y];rfl
  have ab:((cH f mt p (r.headD w)).filter fun x=>decide (0<f x)).length=0:=by
   unfold cH;by_cases z:f p*f (r.headD w)<0
   ·rw[if_pos z,acy,if_neg (by rw[hm _ _ z];decide)];rfl
   ·rw[if_neg z];rfl
  rw[aa,ab,acy];by_cases z:0<f p
  ·rw[if_pos z,if_pos (by simpa using z),Z8];omega
  ·rw[if_neg z,if_neg (by simpa using z)];omega
theorem SI{l:P3}{mt:P3->P3->P3}{ps:List P3}(gP:mK l mt)(aj:l.1≠0∨l.2.1≠0)(t:T0 (dg (ln l) mt ps))(ag:∀p∈dg (ln l) mt ps,0<p.2.2):(dg (ln l) mt ps).length<=ps.length+1:=by
 have aQ:=SH aj t ag;have xg:pos (ln l) (dg (ln l) mt ps)<=pos (ln l) ps:=HK (fun p q h=>(gP p q h).2) ps _
 have B5:∀b6:List P3,(∀x∈b6,0<=ln l x)->b6.length=pos (ln l) b6+(b6.filter fun x=>decide (ln l x=0)).length:=by
  intro b6;induction b6 with
  | nil=>intro _;rfl
  | cons q b6 c3 =>
   intro h;have i:=c3 fun x aB=>h x (ZL _ aB);have fm:=h q ZJ;unfold pos at i ⊢;rw[acy,acy];by_cases z:ln l q=0
   ·rw[if_neg (by simp[z]),if_pos (by simp[z]),Z8,Z8];omega
   ·rw[if_pos (by simp;omega),if_neg (by simp[z]),Z8,Z8];omega
 have nn:∀x∈dg (ln l) mt ps,0<=ln l x:=fun x aB=>by
  rcases pl aB with⟨_,h⟩|⟨p,_,q,_,h,rfl⟩
  ·exact h
  ·have:=(gP p q h).2;omega
 have e:=B5 _ nn;have le:pos (ln l) ps<=ps.length:=acu _ _;by_cases all:pos (ln l) ps=ps.length
 ·-- all at ZP left: nothing is cut
  have ap:∀x∈ps,0<ln l x:=fun x aB=>by
   have:=List.length_filter_eq_length_iff.mp all x aB;simpa using this
  have SJ:(dg (ln l) mt ps).filter (fun x=>decide (ln l x=0))=[]:=by
   rw[List.filter_eq_nil_iff];intro x aB;rcases pl aB with⟨h,_⟩|⟨p,aa,q,ab,h,rfl⟩
   ·have:=ap x h;simp;omega
   ·have a:=ap p aa;have b:=ap q ab;have:=ZK a b;omega
  rw[SJ]at e;simp at e;omega
 ·omega
structure jb (b m n t:Nat) (s:Piece):Prop where
 cv:eQ s.1
 rb:wA b m s.1
 ln:s.1.length<=n
 st:c' t s.2.2
theorem jb.mono{b m n t b' m' n' t':Nat}{s:Piece}(h:jb b m n t s)(aa:b<=b')(ab:m<=m')(aL:n<=n')(bo:t<=t'):jb b' m' n' t' s :=
 ⟨h.cv,⟨fun x aB=>(h.rb.pts x aB).mono aa,fun e he=>by obtain⟨g,a,c⟩:=h.rb.lin e he;exact⟨g,a.mono ab,c⟩⟩,Gq h.ln aL,h.st.mono bo⟩
theorem wA.cut2{b c m:Nat}{l:P3}{ps:List P3}(h:wA b m ps)(bl:cm c l)(hn:c<=m)(aj:l.1≠0∨l.2.1≠0∨l.2.2≠0)(o:P3)(aE:Cut.ln l o=0)(hm:c+m+1<=b)(g8:P3)(e:g8=l∨g8=kZ l):wA b m (dg (Cut.ln g8) (aX l) ps):=by
 have gP:mK g8 (aX l):=by
  rcases e with rfl|rfl
  ·exact wi _
  ·exact(wi _).ng
 have tS:∀u,Cut.ln g8 u=0↔Cut.ln l u=0:=fun u=>by
  rcases e with rfl|rfl
  ·exact Iff.rfl
  ·rw[lY];omega
 have bF:∀p q,Cut.ln g8 p*Cut.ln g8 q<0->Cut.ln l p*Cut.ln l q<0:=fun p q z=>by
  rcases e with rfl|rfl
  ·exact z
  ·rw[lY,lY,aa5]at z;exact z
 refine⟨fun x aB=>?_,Qu (f:=Cut.ln g8) (mt:=aX l) (ps:=ps) (C:=fun u v=>∃g:P3,cm m g/\(g.1≠0∨g.2.1≠0∨g.2.2≠0)/\Cut.ln g u=0/\Cut.ln g v=0) (fun u v bA aP=>⟨l,bl.mono hn,aj,(tS u).mp bA,(tS v).mp aP⟩) o ((tS o).mpr aE) (fun e he _ _=>h.lin e he) fun e he c=>?_⟩
 ·rcases QC aB with⟨aa,_⟩|⟨e,he,c,rfl⟩
  ·exact h.pts x aa
  ·have c:=bF _ _ c;obtain⟨bw,b8⟩:=j4 he;have gp:=(h.pts _ bw).pt;have hZ:=(h.pts _ b8).pt;have cS:=jw gp hZ c;obtain⟨g,hu,ba,tV,tW⟩:=h.lin e he
   have wn:(crs e.1 e.2).1≠0∨(crs e.1 e.2).2.1≠0∨(crs e.1 e.2).2.2≠0:=by
    apply aaU;intro z;refine cS ?_;have z1:(crs e.1 e.2).1=0:=aaU fun y=>z (.inl y);have aQ:(crs e.1 e.2).2.1=0:=aaU fun y=>z (.inr (.inl y));show l.1*(crs e.1 e.2).2.1-l.2.1*(crs e.1 e.2).1=0
    rw[z1,aQ];grind
   obtain⟨a,b',ax,af,kI⟩:=par ba tV tW wn;obtain⟨dn,av⟩:=QD (l:=l) ax af kI cS;rw[<-jv gp hZ,av];exact⟨fh dn,(cm.nP (bl.crs hu) dn).mono hm⟩
 ·obtain⟨g,hu,ba,tV,tW⟩:=h.lin e he;obtain⟨hW,z⟩:=gP _ _ c;exact⟨z,fun _=>⟨g,hu,ba,tV,hW.ln0 tV tW⟩,fun _=>⟨g,hu,ba,hW.ln0 tV tW,tW⟩⟩
theorem oi{b c m n t:Nat}{l o:P3}{sh:List Piece}(h:∀s∈sh,jb b m n t s)(bl:cm c l)(hn:c<=m)(aj:l.1≠0∨l.2.1≠0)(aE:Cut.ln l o=0)(hm:c+m+1<=b)(g8:P3)(e:g8=l∨g8=kZ l):∀s∈cn (Cut.ln g8) (aX l) sh,jb b m (n+1) t s:=fun s aq=>by
 obtain⟨q,ay,rfl,c⟩:=tk aq;have g:=h q ay
 have gP:mK g8 (aX l):=by
  rcases e with rfl|rfl
  ·exact wi _
  ·exact(wi _).ng
 have SK:g8.1≠0∨g8.2.1≠0:=by
  rcases e with rfl|rfl
  ·exact aj
  ·rcases aj with z|z
   ·exact .inl (by unfold kZ sc;dsimp only;omega)
   ·exact .inr (by unfold kZ sc;dsimp only;omega)
 obtain⟨t0,e'⟩:=PY gP.meets ((pd q.1).mpr g.cv.tri) g.cv.1 c;have rb:=g.rb.cut2 bl hn (aj.imp id .inl) o aE hm g8 e;refine⟨o'.cvx e' ((pd _).mp t0),rb,?_,g.st⟩;have:=SI gP SK t0 fun p ag=>(rb.pts p ag).pt.1;have:=g.ln;show(dg (Cut.ln g8) (aX l) q.1).length<=n+1
 omega
theorem cm.slA{m g:Nat}{l v:P3}(aj:cm m l)(aP:cm g v):cm (m+g+2) (slA v l):=by
 refine⟨Gq (intBits_mul_le aj.a aP.c) (by omega),Gq (intBits_mul_le aj.b aP.c) (by omega),?_⟩;have a:=intBits_mul_le aj.c aP.c;have b:=intBits_mul_le aj.a aP.a;have c:=intBits_mul_le aj.b aP.b;have d:=intBits_sub_le a b;rw[ac']at d;have e:=intBits_sub_le d (Gq c (abE _));rw[ac']at e;exact e
theorem SM{v l p:P3}:∃c:Int,Cut.ln (slA v l) (Cut.sld v p)=c*Cut.ln l p:=⟨v.2.2*v.2.2,by
 unfold slA Cut.sld Cut.ln;dsimp only
 grind⟩
theorem jb.slid{b m n t g:Nat}{v:P3}{s:Piece}(h:jb b m n t s)(aP:c' g v):jb (b+g+1) (m+g+2) n (t+g+1) (ej v s):=by
 have v0:=aP.pt.1;refine⟨?_,⟨fun x aB=>?_,fun e he=>?_⟩,?_,⟨fh (sT aP.pt h.st.pt),aP.bp.sldN h.st.bp aP.pt h.st.pt⟩⟩
 ·exact h.cv.sl aP.pt fun p ag=>(h.rb.pts p ag).pt
 ·obtain⟨p,ag,rfl⟩:=Z9.mp aB;have:=h.rb.pts p ag;exact⟨fh (sT aP.pt this.pt),aP.bp.sldN this.bp aP.pt this.pt⟩
 ·have he:e∈da (s.1.map fun p=>nP (Cut.sld v p)):=he;rw[BB]at he;obtain⟨d,hd,rfl⟩:=Z9.mp he;obtain⟨l,bl,w7,z1,aQ⟩:=h.rb.lin d hd
  have on:∀p,aR p->Cut.ln l p=0->Cut.ln (slA v l) (nP (Cut.sld v p))=0:=fun p ag z=>by
   obtain⟨c,hc⟩:=SM (v:=v) (l:=l) (p:=p);rw[z,aai]at hc;obtain⟨k,cf,ah⟩:=i4 (sT aP.pt ag);rw[ah,AR]at hc;exact(aaG.mp hc).resolve_left cf
  obtain⟨bw,b8⟩:=j4 hd;refine⟨slA v l,bl.slA aP.bp,?_,on _ (h.rb.pts _ bw).pt z1,on _ (h.rb.pts _ b8).pt aQ⟩;unfold slA;dsimp only;by_cases z:l.1=0
  ·by_cases y:l.2.1=0
   ·have:l.2.2≠0:=by
     rcases w7 with q|q|q
     ·exact absurd z q
     ·exact absurd y q
     ·exact q
    refine .inr (.inr ?_);rw[z,y,aa3,aa3,ac8,ac8];exact aah this (by omega)
   ·exact .inr (.inl (aah y (by omega)))
  ·exact .inl (aah z (by omega))
 ·show(s.1.map _).length<=n
  rw[Zf];exact h.ln
section
variable{f:P3->Int}{mt:P3->P3->P3}{a b c d:P3}
theorem SN(ax:0<f a)(af:f b<0)(hc:f c<0)(hd:0<f d):keepR f mt [a,b,c,d]=[a,mt a b,mt c d,d]:=by
 rw[ka a (by simp) ax,j',fy (by omega),gW (.inl ⟨ax,af⟩),gs af,fj (.inr ⟨by omega,by omega⟩),gs hc,gW (.inr ⟨hc,hd⟩),fy (by omega),fj (.inl ⟨by omega,by omega⟩)];rfl
theorem SO(ax:f a<0)(af:0<f b)(hc:0<f c)(hd:f d<0):keepR f mt [a,b,c,d]=[mt a b,b,c,mt c d]:=by
 rw[ka b (by simp) af,j',gs ax,gW (.inr ⟨ax,af⟩),fy (by omega),fj (.inl ⟨by omega,by omega⟩),fy (by omega),gW (.inl ⟨hc,hd⟩),gs hd,fj (.inr ⟨by omega,by omega⟩)];rfl
theorem SP(ax:f a<0)(af:f b<0)(hc:0<f c)(hd:0<f d):keepR f mt [a,b,c,d]=[mt b c,c,d,mt d a]:=by
 rw[ka c (by simp) hc,j',gs ax,fj (.inr ⟨by omega,by omega⟩),gs af,gW (.inr ⟨af,hc⟩),fy (by omega),fj (.inl ⟨by omega,by omega⟩),fy (by omega),gW (.inl ⟨hd,ax⟩)];rfl
theorem SQ(ax:0<f a)(af:0<f b)(hc:f c<0)(hd:f d<0):keepR f mt [a,b,c,d]=[a,b,mt b c,mt d a]:=by
 rw[ka a (by simp) ax,j',fy (by omega),fj (.inl ⟨by omega,by omega⟩),fy (by omega),gW (.inl ⟨af,hc⟩),gs hc,fj (.inr ⟨by omega,by omega⟩),gs hd,gW (.inr ⟨hd,ax⟩)];rfl
end
def fA(R:List P3)(x0 bK bW bI:Rat):Prop:=∃a b c d:P3,R=[a,b,c,d]/\b7 a x0 bW/\b7 b bK bW/\b7 c bK bI/\b7 d x0 bI
def Lies(sh:List Piece)(R:List P3):Prop:=fi (sh.map fun s=>s.1) [R]
def eH(sh:List Piece):Prop:=∀s∈sh,∀p∈s.1,aR p
theorem fA.pts{R:List P3}{x0 bK bW bI:Rat}(h:fA R x0 bK bW bI):∀p∈R,aR p:=by
 obtain⟨a,b,c,d,rfl,aa,ab,aL,bo⟩:=h;exact BO aa.1 ab.1 aL.1 bo.1
theorem fA.eq{R Q:List P3}{x0 bK bW bI:Rat}(h:fA R x0 bK bW bI)(g:fA Q x0 bK bW bI):R=Q:=by
 obtain⟨a,b,c,d,rfl,aa,ab,aL,bo⟩:=h;obtain⟨eI,b',d0,d',rfl,g1,g2,g3,dG⟩:=g;exact Hm (aa.eq g1) (ab.eq g2) (aL.eq g3) (bo.eq dG)
theorem Lies.rot{sh:List Piece}{a:P3}{r:List P3}(h:Lies sh (r++[a])):Lies sh (a::r):=fun φ=>by
 rw[h φ,gV,gV,BE]
theorem HL{sh:List Piece}{R:List P3}{x0 bK bW bI:Rat}{X:Int×Int}(ag:eH sh)(h:Lies sh R)(r:fA R x0 bK bW bI)(l:aO X.1 X.2)(kc:x0<au X)(tX:au X<bK):
  (∃Q,fA Q x0 (au X) bW bI/\Lies (cL X true sh) Q)/\∃Q,fA Q (au X) bK bW bI/\Lies (cL X false sh) Q:=by
 have ay:=r.pts;obtain⟨a,b,c,d,rfl,mO,mP,k6,mQ⟩:=r;obtain⟨dj,dY,gL⟩:=tI l;have bJ:=tM l mO kc;have bT:=BL l mP tX;have fR:=BL l k6 tX;have tY:=tM l mQ kc;have bw:=w9 l mO mP (aaj bJ bT) (y:=bW) (by grind);have b8:=w9 l k6 mQ (abf fR tY) (y:=bI) (by grind);obtain⟨z1,aQ⟩:=w4 h dj dY gL ag ay;rw[SN (f:=ln (dU X)) bJ bT fR tY]at z1;rw[SO (f:=fun c => -ln (dU X) c) (by show -ln (dU X) a<0;omega) (by show 0 < -ln (dU X) b;omega) (by show 0 < -ln (dU X) c;omega) (by show -ln (dU X) d<0;omega)]at aQ;exact⟨⟨_,⟨_,_,_,_,rfl,mO,bw,b8,mQ⟩,z1⟩,⟨_,⟨_,_,_,_,rfl,bw,mP,k6,b8⟩,aQ⟩⟩
theorem HM{sh:List Piece}{R:List P3}{x0 bK bW bI:Rat}{X:Int×Int}(ag:eH sh)(h:Lies sh R)(r:fA R x0 bK bW bI)(l:aO X.1 X.2)(kc:bW<au X)(tX:au X<bI):
  (∃Q,fA Q x0 bK bW (au X)/\Lies (cV X false sh) Q)/\∃Q,fA Q x0 bK (au X) bI/\Lies (cV X true sh) Q:=by
 have ay:=r.pts;obtain⟨a,b,c,d,rfl,mO,mP,k6,mQ⟩:=r;obtain⟨dj,dY,gL⟩:=tJ l;have bJ:=tN l mO kc;have bT:=tN l mP kc;have fR:=BM l k6 tX;have tY:=BM l mQ tX;have bw:=w' l mP k6 (abf bT fR) (x:=bK) (by grind);have b8:=w' l mQ mO (aaj tY bJ) (x:=x0) (by grind);obtain⟨z1,aQ⟩:=w4 h dj dY gL ag ay;rw[SP (f:=ln (dV X)) bJ bT fR tY]at z1;rw[SQ (f:=fun c => -ln (dV X) c) (by show 0 < -ln (dV X) a;omega) (by show 0 < -ln (dV X) b;omega) (by show -ln (dV X) c<0;omega) (by show -ln (dV X) d<0;omega)]at aQ;refine⟨⟨_,⟨_,_,_,_,rfl,mO,mP,bw,b8⟩,aQ⟩,⟨_,⟨_,_,_,_,rfl,b8,bw,k6,mQ⟩,?_⟩⟩;exact Lies.rot (sh:=cV X true sh) (r:=[_,_,_]) z1
theorem Lies.slid{sh:List Piece}{R:List P3}{g:P3}(aC:aR g)(ag:eH sh)(ay:∀p∈R,aR p)(h:Lies sh R):Lies (sh.map (ej g)) (R.map fun p=>nP (sld g p)):=RT aC.1 h ag ay
theorem fA.slid{R:List P3}{x0 bK bW bI u v:Rat}{g:P3}(aC:b7 g u v)(r:fA R x0 bK bW bI):fA (R.map fun p=>nP (sld g p)) (x0+u) (bK+u) (bW+v) (bI+v):=by
 obtain⟨a,b,c,d,rfl,mO,mP,k6,mQ⟩:=r;exact⟨_,_,_,_,rfl,j9 aC mO,j9 aC mP,j9 aC k6,j9 aC mQ⟩
theorem HN{w h:Int×Int}(lw:aO w.1 w.2)(lh:aO h.1 h.2):fA (ie w h) 0 (au w) 0 (au h):=⟨_,_,_,_,rfl,R1,Hh lw,fT lw.1 lh.1,Hi lh⟩
theorem eH.cL{sh:List Piece}{X:Int×Int}{b:Bool}(l:aO X.1 X.2)(h:eH sh):eH (cL X b sh):=by
 intro s aq p ag;unfold Cut.cL at aq
 have key:∀f:P3->Int,(∀p q,f p*f q<0->ln (dU X) p*ln (dU X) q<0)->s∈cn f (aX (dU X)) sh->aR p:=fun f hf aq=>by
  obtain⟨t,bB,rfl,c⟩:=tk aq;rcases pl ag with⟨aa,_⟩|⟨u,aa,v,ab,aL,rfl⟩
  ·exact h t bB p aa
  ·have gp:=h t bB u aa;have hZ:=h t bB v ab;rw[<-jv gp hZ];exact fh (jw gp hZ (hf _ _ aL))
 cases b with
 | true=>exact key _ (fun _ _ z=>z) aq
 | false=>exact key _ (fun p q z=>by rwa [aa5]at z) aq
theorem eH.cV{sh:List Piece}{X:Int×Int}{b:Bool}(l:aO X.1 X.2)(h:eH sh):eH (cV X b sh):=by
 intro s aq p ag;unfold Cut.cV at aq
 have key:∀f:P3->Int,(∀p q,f p*f q<0->ln (dV X) p*ln (dV X) q<0)->s∈cn f (aX (dV X)) sh->aR p:=fun f hf aq=>by
  obtain⟨t,bB,rfl,c⟩:=tk aq;rcases pl ag with⟨aa,_⟩|⟨u,aa,v,ab,aL,rfl⟩
  ·exact h t bB p aa
  ·have gp:=h t bB u aa;have hZ:=h t bB v ab;rw[<-jv gp hZ];exact fh (jw gp hZ (hf _ _ aL))
 cases b with
 | true=>exact key _ (fun _ _ z=>z) aq
 | false=>exact key _ (fun p q z=>by rwa [aa5]at z) aq
def cJ(w:Int×Int)(k:Int):Int×Int:=cA (w.1*k) (w.2*1)
theorem gu{w:Int×Int}(l:0<w.2)(k:Int):aO (cJ w k).1 (cJ w k).2/\au (cJ w k)=au w*k:=by
 have ab:0<w.2*1:=by omega
 refine⟨(g9 (t:=w.1*k) (b:=w.2*1) (by omega)).1,?_⟩;unfold cJ;rw[q3 ab];have a:=dI l;unfold au;push_cast;grind
noncomputable def lowC(c:Bool)(x:Int×Int)(sh:List Piece):List Piece:=if c=true then cV x false sh else cL x true sh
noncomputable def highC(c:Bool)(x:Int×Int)(sh:List Piece):List Piece:=if c=true then cV x true sh else cL x false sh
noncomputable def fJ(c:Bool)(w:Int×Int):Nat->List Piece->Nat->Nat->List (List Piece)
 | 0,sh,_,_=>[sh]
 | n+1,sh,a,b=>if b-a=1 then[sh]else fJ c w n (lowC c (cJ w ((a+b)/2:Nat)) sh) a ((a+b)/2)++fJ c w n (highC c (cJ w ((a+b)/2:Nat)) sh) ((a+b)/2) b
theorem jC(c:Bool)(w:Int×Int):∀(n:Nat)(sh:List Piece)(a b:Nat),a<b->b-a<=2^n->(fJ c w n sh a b).length=b-a
 | 0,sh,a,b,h,g=>by
  have:b-a=1:=by simp at g;omega
  rw[this];rfl
 | n+1,sh,a,b,h,g=>by
  rw[fJ];by_cases z:b-a=1
  ·rw[if_pos z,z];rfl
  ·rw[if_neg z,ZM,jC c w n _ _ _ (by omega) (by rw[ada]at g;omega),jC c w n _ _ _ (by omega) (by rw[ada]at g;omega)];omega
def mR(c:Bool)(R:List P3)(ke dj v0 v1:Rat):Prop:=if c=true then fA R v0 v1 ke dj else fA R ke dj v0 v1
theorem eH.lowC{sh:List Piece}{X:Int×Int}{c:Bool}(l:aO X.1 X.2)(h:eH sh):eH (lowC c X sh)/\eH (highC c X sh):=by
 unfold Cut.lowC Cut.highC;cases c with
 | true =>
  rw[if_pos rfl,if_pos rfl];exact⟨h.cV (b:=false) l,h.cV (b:=true) l⟩
 | false =>
  rw[if_neg (by simp),if_neg (by simp)];exact⟨h.cL (b:=true) l,h.cL (b:=false) l⟩
theorem SR{c:Bool}{sh:List Piece}{R:List P3}{ke dj v0 v1:Rat}{X:Int×Int}(ag:eH sh)(h:Lies sh R)(r:mR c R ke dj v0 v1)(l:aO X.1 X.2)(h0:ke<au X)(aa:au X<dj):
  (∃Q,mR c Q ke (au X) v0 v1/\Lies (lowC c X sh) Q)/\∃Q,mR c Q (au X) dj v0 v1/\Lies (highC c X sh) Q:=by
 unfold mR at r ⊢;unfold lowC highC;cases c with
 | true =>
  simp only[if_true]at r ⊢;exact HM ag h r l h0 aa
 | false =>
  simp only[aaS,if_false]at r ⊢;exact HL ag h r l h0 aa
theorem B6{c:Bool}{w:Int×Int}(w0:0<w.1)(cZ:0<w.2){v0 v1 U:Rat}:∀(n:Nat){sh:List Piece}{a b:Nat}{R:List P3},a<b->b-a<=2^n->eH sh->Lies sh R->mR c R (au w*a) U v0 v1->au w*((b-1:Nat):Rat)<U ->
  ∀(k:Nat) S,(fJ c w n sh a b)[k]?=some S->eH S/\∃Q,Lies S Q/\mR c Q (au w*((a+k:Nat):Rat)) (if a+k+1=b then U else au w*((a+k+1:Nat):Rat)) v0 v1
 | 0,sh,a,b,R,h,g,ag,aj,r,nV,k,S,e=>by
  have:b=a+1:=by simp at g;omega
  subst this;cases k with
  | zero =>
   have e:some sh=some S:=e;cases e;refine⟨ag,R,aj,?_⟩;rw[Nat.add_zero,if_pos rfl];exact r
  | succ k=>simp[fJ]at e
 | n+1,sh,a,b,R,h,g,ag,aj,r,nV,k,S,e=>by
  rw[fJ]at e;by_cases z:b-a=1
  ·rw[if_pos z]at e;have:b=a+1:=by omega
   subst this;cases k with
   | zero =>
    have e:some sh=some S:=e;cases e;refine⟨ag,R,aj,?_⟩;rw[Nat.add_zero,if_pos rfl];exact r
   | succ k=>simp at e
  ·rw[if_neg z]at e;generalize hm:(a+b)/2=m at e;have am:a<m:=by omega
   have gB:m<b:=by omega
   rw[ada]at g;obtain⟨d8,jB⟩:=gu (w:=w) cZ (m:Int);have fm:=eG w0 cZ
   have lt:∀i j:Nat,i<j->au w*(i:Rat)<au w*(j:Rat):=fun i j mf=>by
    have:((i:Nat):Rat)<(j:Rat):=by exact_mod_cast mf
    exact Rat.mul_lt_mul_of_pos_left this fm
   have jB:au (cJ w (m:Int))=au w*(m:Rat):=jB
   have SS:au w*(m:Rat)<U:=by
    rcases acw m (b-1)with y|y
    ·have z1:=lt _ _ y;grind
    ·have:m=b-1:=by omega
     rw[this];exact nV
   obtain⟨⟨HO,ar,bt⟩,⟨HP,aF,bz⟩⟩:=SR ag aj r d8 (by rw[jB];exact lt _ _ am) (by rw[jB];exact SS);obtain⟨cQ,c5⟩:=ag.lowC (c:=c) d8;rw[jB]at ar aF;have ln:=jC c w n (lowC c (cJ w (m:Int)) sh) a m am (by omega);by_cases y:k<m-a
   ·rw[aaM (by rw[ln];exact y)]at e;obtain⟨gU,Q,ju,mI⟩:=B6 w0 cZ (U:=au w*(m:Rat)) n am (by omega) cQ bt ar (lt _ _ (by omega)) k S e;refine⟨gU,Q,ju,?_⟩;rw[if_neg (show ¬a+k+1=b by omega)];by_cases x:a+k+1=m
    ·rw[if_pos x]at mI;rw[x];exact mI
    ·rw[if_neg x]at mI;exact mI
   ·rw[aaJ (by rw[ln];omega),ln]at e;obtain⟨gU,Q,ju,mI⟩:=B6 w0 cZ (U:=U) n gB (by omega) c5 bz aF nV (k-(m-a)) S e;rw[show m+(k-(m-a))=a+k by omega]at mI;exact⟨gU,Q,ju,mI⟩
structure GM (s:Piece):Prop where
 ps:∀p∈s.1,c' 2770 p
 ln:s.1.length<=75
 st:c' 2770 s.2.2
theorem jb.gm{b m n t:Nat}{s:Piece}(h:jb b m n t s)(aa:b<=2770)(ab:n<=75)(aL:t<=2770):GM s:=⟨fun p ag=>(h.rb.pts p ag).mono aa,Gq h.ln ab,h.st.mono aL⟩
def dSh(sh:List Piece):D:=.lst (sh.map dS)
def fc{α β:Type}(h:Nat->α->β):Nat->List α->List β
 | _,[]=>[]
 | i,r::rs=>h i r::fc h (i+1) rs
theorem B7{α β γ:Type}(h:Nat->α->β)(f:β->γ):∀(i:Nat)(rs:List α),(fc h i rs).map f=fc (fun i r=>f (h i r)) i rs
 | _,[]=>rfl
 | i,r::rs=>by rw[fc,aaa,B7 h f (i+1) rs,fc]
theorem HQ{α β:Type}(h:Nat->α->β):∀(i:Nat)(rs:List α),(fc h i rs).length=rs.length
 | _,[]=>rfl
 | i,r::rs=>by simp[fc,HQ h (i+1) rs]
theorem B8{α β:Type}(h:Nat->α->β):∀(i:Nat)(rs:List α)(k:Nat),(fc h i rs)[k]?=(rs[k]?).map (h (i+k))
 | _,[],k=>by simp[fc]
 | i,r::rs,0=>by simp[fc]
 | i,r::rs,k+1=>by
  have:=B8 h (i+1) rs k;rw[show i+1+k=i+(k+1) by omega]at this;simpa[fc]using this
theorem B9{α:Type}{f:α->D}{h:Nat->α->D}{u:a7}{fs:List aH}:∀{i:Nat}{rs:List α}{v0 v1:aH}{k:List D->Prop},(∀j r,(j,r)∈(fc Prod.mk i rs)->∀k:D->Prop,k (h j r)->u (.val (.int (j:Nat))::.val (f r)::fs) k)->k (fc h i rs)->gS (mz 2 (g7 (gi 0) (g7 (gi 1) my))) lO u (ig i (rs.map f)) (v0::v1::fs) k
 | i,[],_,_,_,_,ah=>ah
 | i,r::rs,v0,v1,k,aa,ah=>by
  refine⟨_,rfl,rfl,_,_,rfl,_,_,rfl,rfl,?_⟩;show(if true=true then u (.val (.int (i:Nat))::.val (f r)::fs) fun y=>gS (mz 2 (g7 (gi 0) (g7 (gi 1) my))) lO u (ig (i+1) (rs.map f)) (.val (.int (i:Nat))::.val (f r)::fs) fun ys=>k (y::ys)else gS (mz 2 (g7 (gi 0) (g7 (gi 1) my))) lO u (ig (i+1) (rs.map f)) (.val (.int (i:Nat))::.val (f r)::fs) k)
  rw[if_pos rfl];refine aa i r (by simp[fc]) _ ?_;exact B9 (fun j du hm=>aa j du (by rw[fc];exact ZL _ hm)) ah
def jD(c:Bool)(w:Int×Int)(k:Nat):P3:=if c=true then cb (0,1) (cJ w (-(k:Int)))else cb (cJ w (-(k:Int))) (0,1)
noncomputable def ef(c:Bool)(w:Int×Int)(sh:List Piece)(m:Nat):List (List Piece):=fc (fun k S=>S.map (ej (jD c w k))) 0 (fJ c w 3 sh 0 m)
def c2(b m n t N:Nat)(sh:List Piece):Prop:=(∀s∈sh,jb b m n t s)/\sh.length<=N
theorem HR{X:Int×Int}{q:Nat}(l:aO X.1 X.2)(a9:intBits X.1<=q)(bf:intBits X.2<=q):cm (2*q+5) (dU X):=by
 have g1:=j8 (x:=X.1) (y:=X.2) (u:=0) (v:=1) (n:=2) a9 bf (by decide) (by decide) l ⟨by decide,by decide⟩;have g2:=j8 (x:=X.1) (y:=X.2) (u:=1) (v:=1) (n:=2) a9 bf (by decide) (by decide) l ⟨by decide,by decide⟩;exact(g1.crs g2).mono (by omega)
theorem HS{X:Int×Int}{q:Nat}(l:aO X.1 X.2)(a9:intBits X.1<=q)(bf:intBits X.2<=q):cm (2*q+5) (dV X):=by
 have g1:=j8 (x:=0) (y:=1) (u:=X.1) (v:=X.2) (m:=2) (by decide) (by decide) a9 bf ⟨by decide,by decide⟩ l;have g2:=j8 (x:=1) (y:=1) (u:=X.1) (v:=X.2) (m:=2) (by decide) (by decide) a9 bf ⟨by decide,by decide⟩ l;exact(g1.crs g2).mono (by omega)
theorem c2.cL{b m n t N q:Nat}{X:Int×Int}{sh:List Piece}(h:c2 b m n t N sh)(c:Bool)(l:aO X.1 X.2)(a9:intBits X.1<=q)(bf:intBits X.2<=q)(hn:2*q+5<=m)(hm:2*q+5+m+1<=b):c2 b m (n+1) t N (cL X c sh):=by
 obtain⟨dj,dY,gL⟩:=tI l;unfold Cut.cL;cases c with
 | true =>
  rw[if_pos rfl];exact⟨oi h.1 (HR l a9 bf) hn dj gL hm _ (.inl rfl),Gq (l0 sh) h.2⟩
 | false =>
  rw[if_neg (by simp)];have e:(fun c => -ln (dU X) c)=ln (kZ (dU X)):=funext fun c=>(lY _ _).symm;rw[e];exact⟨oi h.1 (HR l a9 bf) hn dj gL hm _ (.inr rfl),Gq (l0 sh) h.2⟩
theorem c2.cV{b m n t N q:Nat}{X:Int×Int}{sh:List Piece}(h:c2 b m n t N sh)(c:Bool)(l:aO X.1 X.2)(a9:intBits X.1<=q)(bf:intBits X.2<=q)(hn:2*q+5<=m)(hm:2*q+5+m+1<=b):c2 b m (n+1) t N (cV X c sh):=by
 obtain⟨dj,dY,gL⟩:=tJ l;unfold Cut.cV;cases c with
 | true =>
  rw[if_pos rfl];exact⟨oi h.1 (HS l a9 bf) hn dj gL hm _ (.inl rfl),Gq (l0 sh) h.2⟩
 | false =>
  rw[if_neg (by simp)];have e:(fun c => -ln (dV X) c)=ln (kZ (dV X)):=funext fun c=>(lY _ _).symm;rw[e];exact⟨oi h.1 (HS l a9 bf) hn dj gL hm _ (.inr rfl),Gq (l0 sh) h.2⟩
theorem c2.mono{b m n t N b' m' n' t' N':Nat}{sh:List Piece}(h:c2 b m n t N sh)(aa:b<=b')(ab:m<=m')(aL:n<=n')(bo:t<=t')(de:N<=N'):c2 b' m' n' t' N' sh:=⟨fun s aq=>(h.1 s aq).mono aa ab aL bo,Gq h.2 de⟩
theorem c2.cut{b m n t N q:Nat}{X:Int×Int}{sh:List Piece}{c:Bool}(h:c2 b m n t N sh)(l:aO X.1 X.2)(a9:intBits X.1<=q)(bf:intBits X.2<=q)(hn:2*q+5<=m)(hm:2*q+5+m+1<=b):c2 b m (n+1) t N (lowC c X sh)/\c2 b m (n+1) t N (highC c X sh):=by
 unfold lowC highC;cases c with
 | true =>
  rw[if_pos rfl,if_pos rfl];exact⟨h.cV _ l a9 bf hn hm,h.cV _ l a9 bf hn hm⟩
 | false =>
  rw[if_neg (by simp),if_neg (by simp)];exact⟨h.cL _ l a9 bf hn hm,h.cL _ l a9 bf hn hm⟩
theorem c2.slid{b m n t N g:Nat}{v:P3}{sh:List Piece}(h:c2 b m n t N sh)(aP:c' g v):c2 (b+g+1) (m+g+2) n (t+g+1) N (sh.map (ej v)):=⟨fun s aq=>by
 obtain⟨r,ak,rfl⟩:=Z9.mp aq
 exact(h.1 r ak).slid aP,by rw[Zf];exact h.2⟩
theorem c2.app{b m n t N M:Nat}{sh HU:List Piece}(h:c2 b m n t N sh)(g:c2 b m n t M HU):c2 b m n t (N+M) (sh++HU):=⟨fun s aq=>(aae.mp aq).elim (h.1 s) (g.1 s),by rw[ZM];have:=h.2;have:=g.2;omega⟩
theorem jc{w:Int×Int}{q:Nat}(cZ:0<w.2)(a9:intBits w.1<=q)(bf:intBits w.2<=q){k:Int}(ah : -8<=k/\k<=8):intBits (cJ w k).1<=q+4/\intBits (cJ w k).2<=q+4:=by
 obtain⟨_,_,aa,ab⟩:=g9 (t:=w.1*k) (b:=w.2*1) (by omega);have bk:intBits k<=4:=d3 (t:=8) (by omega) (by decide);exact⟨d3 aa (intBits_mul_le a9 bk),d3 ab (Gq (intBits_mul_le bf (show intBits 1<=1 by decide)) (by omega))⟩
theorem tZ{c:Bool}{w:Int×Int}{b m t N q:Nat}(cZ:0<w.2)(a9:intBits w.1<=q)(bf:intBits w.2<=q)(hn:2*q+13<=m)(hm:2*q+13+m+1<=b):∀(k:Nat){n:Nat}{sh:List Piece}{x y:Nat},x<y->y<=8->c2 b m n t N sh->∀S∈fJ c w k sh x y,c2 b m (n+k) t N S
 | 0,n,sh,x,y,_,_,h,S,c7=>by rw[aac.mp c7];exact h
 | k+1,n,sh,x,y,xj,a5,h,S,c7=>by
  rw[fJ]at c7;by_cases z:y-x=1
  ·rw[if_pos z]at c7;rw[aac.mp c7];exact h.mono (Zg _) (Zg _) (by omega) (Zg _) (Zg _)
  ·rw[if_neg z]at c7;obtain⟨l,_⟩:=gu (w:=w) cZ (((x+y)/2:Nat):Int);obtain⟨aG,aJ⟩:=jc (w:=w) (q:=q) cZ a9 bf (k:=(((x+y)/2:Nat):Int)) (by omega);obtain⟨aa,ab⟩:=h.cut (c:=c) l aG aJ (by omega) (by omega);rcases aae.mp c7 with e|e
   ·have:=tZ cZ a9 bf hn hm k (by omega) (by omega) aa S e
    rwa [show n+1+k=n+(k+1) by omega]at this
   ·have:=tZ cZ a9 bf hn hm k (by omega) a5 ab S e
    rwa [show n+1+k=n+(k+1) by omega]at this
theorem B'{α:Type}{j:Nat}{r:α}:∀{i:Nat}{rs:List α},(j,r)∈fc Prod.mk i rs->i<=j/\j<i+rs.length/\r∈rs
 | i,[],h=>by simp[fc]at h
 | i,x::rs,h=>by
  rw[fc]at h;rcases Z6.mp h with h|h
  ·cases h;exact⟨Zg _,by simp,ZJ⟩
  ·obtain⟨a,b,c⟩:=B' h;exact⟨by omega,by simp;omega,ZL _ c⟩
theorem Ca{c:Bool}{w:Int×Int}{q:Nat}(cZ:0<w.2)(a9:intBits w.1<=q)(bf:intBits w.2<=q){j:Nat}(bP:j<=8):c' (q+6) (jD c w j):=by
 obtain⟨l,_⟩:=gu (w:=w) cZ (-(j:Int));obtain⟨aG,aJ⟩:=jc (w:=w) (q:=q) cZ a9 bf (k :=-(j:Int)) (by omega);unfold jD cb;cases c with
 | true =>
  rw[if_pos rfl];exact⟨(iD (n:=1*(cJ w (-(j:Int))).2) (Zh (ZK (by decide) l.1))).1,(j8 (x:=0) (y:=1) (m:=2) (by decide) (by decide) aG aJ ⟨by decide,by decide⟩ l).mono (by omega)⟩
 | false =>
  rw[if_neg (by simp)];exact⟨(iD (n:=(cJ w (-(j:Int))).2*1) (Zh (ZK l.1 (by decide)))).1,(j8 (u:=0) (v:=1) (n:=2) aG aJ (by decide) (by decide) l ⟨by decide,by decide⟩).mono (by omega)⟩
abbrev BoxD:=bx×bx×List Piece
def dBx(b:BoxD):D:=.tup [dR b.1,dR b.2.1,dSh b.2.2]
def ij(H h:bx):bx:=cA (H.1*h.2+h.1*H.2) (H.2*h.2)
noncomputable def el:List BoxD->bx->List Piece
 | [],_=>[]
 | b::r,H=>b.2.2.map (ej (cb (0,1) H))++el r (ij H b.2.1)
def dh:List BoxD->bx->bx
 | [],H=>H
 | b::r,H=>dh r (ij H b.2.1)
theorem Cb:∀(a b:List BoxD)(H:bx),dh (a++b) H=dh b (dh a H)
 | [],_,_=>rfl
 | x::a,b,H=>Cb a b _
theorem HV:∀(a b:List BoxD)(H:bx),el (a++b) H=el a H++el b (dh a H)
 | [],_,_=>rfl
 | x::a,b,H=>by
  rw[aaL,el,el,HV a b,aao];rfl
theorem Cc:∀(bs:List BoxD)(H:bx),(el bs H).length=(bs.map fun b=>b.2.2.length).sum
 | [],_=>rfl
 | b::r,H=>by rw[el,ZM,Zf,Cc r,aaa,aaK]
theorem SU(x:D)(r:List D):dE (x::r) 0=some x:=by
 unfold dE ixN;rw[if_pos (by omega),if_pos (by simp)];rfl
theorem q9{H h:bx}(bt:0<H.2)(bz:0<h.2):aO (ij H h).1 (ij H h).2:=(g9 (Zh (ZK bt bz))).1
theorem Cd:∀{bs:List BoxD}{H:bx},aO H.1 H.2->(∀b∈bs,0<b.2.1.2)->aO (dh bs H).1 (dh bs H).2
 | [],_,l,_=>l
 | b::r,H,l,h=>by
  rw[dh];exact Cd (bs:=r) (q9 l.1 (h b ZJ)) fun x aB=>h x (ZL _ aB)
theorem xk{H h:bx}(bt:0<H.2)(bz:0<h.2):au (ij H h)=au H+au h:=by
 unfold ij;rw[q3 (ZK bt bz)];have a:=dI bt;have b:=dI bz;unfold au;push_cast;grind
def dW(a b:bx):bx:=cA (a.1*b.2) (a.2*b.1)
def fe(a b:bx):bx:=cA (a.1*b.2-b.1*a.2) (a.2*b.2)
def h1(w g:bx)(N:Nat):bx:=fe w (cJ g ((N:Int)-1))
def fo(h:bx)(N:Nat):bx:=dW h ((N:Int),1)
noncomputable def fK(w:bx)(i:Nat)(Ss:List (List Piece)):List Piece:=(fc (fun k S=>S.map (ej (cb (cJ w (k:Int)) (0,1)))) i Ss).flatten
def e3(w h g:bx):bx:=dW (cA (w.1*h.1) (w.2*h.2)) g
def bR(w H:bx):P3:=crs (cb w (0,1)) (cb (0,1) H)
noncomputable def mS(w h g:bx)(sh:List Piece):List Piece :=
 cL g true (cn (ln (bR w (e3 w h g))) (aX (bR w (e3 w h g))) sh)++(cL g false (cn (ln (bR w (e3 w h g))) (aX (bR w (e3 w h g))) sh)).map (ej (cb (-g.1,g.2) h))++(cn (fun c => -ln (bR w (e3 w h g)) c) (aX (bR w (e3 w h g))) sh).map (ej (cb (fe g w) (fe (e3 w h g) h)))
theorem mT{a b:bx}(aa:0<a.2)(ab:0<b.1)(aL:0<b.2):aO (dW a b).1 (dW a b).2/\au (dW a b)=au a/au b:=by
 have p:=ZK aa ab;refine⟨(g9 (t:=a.1*b.2) (b:=a.2*b.1) (Zh p)).1,?_⟩;unfold dW;rw[q3 p];have x:=dI aa;have y:=dI ab;have z:=dI aL;unfold au;push_cast;grind
theorem q'{a b:bx}{p q:Nat}(aa:0<a.2)(ab:0<b.1)(a9:intBits a.1<=p)(bf:intBits a.2<=p)(dO:intBits b.1<=q)(fw:intBits b.2<=q):intBits (dW a b).1<=p+q/\intBits (dW a b).2<=p+q:=by
 obtain⟨_,_,ai,av⟩:=g9 (t:=a.1*b.2) (b:=a.2*b.1) (Zh (ZK aa ab));exact⟨d3 ai (intBits_mul_le a9 fw),d3 av (intBits_mul_le bf dO)⟩
theorem mU{a b:bx}(aa:0<a.2)(ab:0<b.2):aO (fe a b).1 (fe a b).2/\au (fe a b)=au a-au b:=by
 have p:=ZK aa ab;refine⟨(g9 (t:=a.1*b.2-b.1*a.2) (b:=a.2*b.2) (Zh p)).1,?_⟩;unfold fe;rw[q3 p];have x:=dI aa;have y:=dI ab;unfold au;push_cast;grind
theorem t2{a b:bx}{p q:Nat}(aa:0<a.2)(ab:0<b.2)(a9:intBits a.1<=p)(bf:intBits a.2<=p)(dO:intBits b.1<=q)(fw:intBits b.2<=q):intBits (fe a b).1<=p+q+1/\intBits (fe a b).2<=p+q+1:=by
 obtain⟨_,_,ai,av⟩:=g9 (t:=a.1*b.2-b.1*a.2) (b:=a.2*b.2) (Zh (ZK aa ab));have x:=intBits_mul_le a9 fw;have y:=intBits_mul_le dO bf;rw[Nat.add_comm q p]at y;have z:=intBits_sub_le x y;rw[ac']at z;exact⟨d3 ai z,d3 av (Gq (intBits_mul_le bf fw) (by omega))⟩
theorem kf{a b:bx}{p q:Nat}(bt:aO a.1 a.2)(bz:aO b.1 b.2)(a9:intBits a.1<=p)(bf:intBits a.2<=p)(dO:intBits b.1<=q)(fw:intBits b.2<=q):c' (p+q) (cb a b):=⟨(iD (n:=a.2*b.2) (Zh (ZK bt.1 bz.1))).1,j8 a9 bf dO fw bt bz⟩
theorem Ce{w:bx}:∀(Ss:List (List Piece))(S:List Piece)(i:Nat),fK w i (Ss++[S])=fK w i Ss++S.map (ej (cb (cJ w ((i+Ss.length:Nat):Int)) (0,1)))
 | [],S,i=>by simp[fK,fc]
 | T::Ss,S,i=>by
  have:=Ce Ss S (i+1) (w:=w);unfold fK at this ⊢;rw[aaL,fc,ab1,this,fc,ab1,aao,Z8,show i+1+Ss.length=i+(Ss.length+1) by omega]
theorem oj{c:Bool}{w:bx}{sh:List Piece}{m:Nat}(h:1<=m)(k0:m<=8):(ef c w sh m).length=m:=by
 unfold ef;rw[HQ,jC c w 3 sh 0 m (by omega) (by omega)];omega
theorem SV{c:Bool}{w:bx}{sh:List Piece}{m:Nat}{S:List Piece}(c7:S∈ef c w sh m):∃(k:Nat)(T:List Piece),T∈fJ c w 3 sh 0 m/\k<(fJ c w 3 sh 0 m).length/\S=T.map (ej (jD c w k)):=by
 obtain⟨k,ah⟩:=abl c7;unfold ef at ah;rw[B8,aa2]at ah;cases q:(fJ c w 3 sh 0 m)[k]? with
 | none=>rw[q]at ah;cases ah
 | some T =>
  rw[q]at ah;cases ah;exact⟨k,T,aaD q,(abD.mp q).1,rfl⟩
theorem xl{c:Bool}{w:bx}{b m t N q:Nat}(cZ:0<w.2)(a9:intBits w.1<=q)(bf:intBits w.2<=q)(hn:2*q+13<=m)(hm:2*q+13+m+1<=b){n:Nat}{sh:List Piece}{y:Nat}(bI:1<=y)(om:y<=8)(h:c2 b m n t N sh):∀S∈ef c w sh y,c2 (b+q+7) (m+q+8) (n+3) (t+q+7) N S:=fun S c7=>by
 obtain⟨k,T,eb,ah,rfl⟩:=SV c7;rw[jC c w 3 sh 0 y (by omega) (by omega)]at ah;have:=tZ (c:=c) cZ a9 bf hn hm 3 (by omega) om h T eb;exact(this.slid (Ca (c:=c) cZ a9 bf (j:=k) (by omega))).mono (by omega) (by omega) (by omega) (by omega) (by omega)
theorem xm{w h g H:bx}(lw:aO w.1 w.2)(w0:0<w.1)(lh:aO h.1 h.2)(h0:0<h.1)(aY:aO g.1 g.2)(ba:0<g.1)(e:H=e3 w h g):0<H.1:=by
 have lt:=g9 (t:=w.1*h.1) (b:=w.2*h.2) (Zh (ZK lw.1 lh.1));obtain⟨cj,gv⟩:=mT (a:=cA (w.1*h.1) (w.2*h.2)) (b:=g) lt.1.1 ba aY.1;have av:=q3 (t:=w.1*h.1) (b:=w.2*h.2) (ZK lw.1 lh.1);have a:=eG w0 lw.1;have b:=eG h0 lh.1;have c:=eG ba aY.1
 have bG:((w.1*h.1:Int):Rat)/((w.2*h.2:Int):Rat)=au w*au h:=by
  have x:=dI lw.1;have y:=dI lh.1;unfold au;push_cast;grind
 have pos:0<au H:=by
  rw[e];show 0<au (dW (cA (w.1*h.1) (w.2*h.2)) g)
  rw[gv,av,bG,abC];exact aax (aax a b) (ab0.mpr c)
 have bz:0<H.2:=by rw[e];exact cj.1
 apply aaU;intro z;have z1:((H.1:Int):Rat)<=0:=by exact_mod_cast (show H.1<=0 by omega)
 have aQ:(0:Rat)<((H.2:Int):Rat):=by exact_mod_cast bz
 unfold au at pos;rw[abC]at pos;have fF:=ab0.mpr aQ
 have:((H.1:Int):Rat)*(((H.2:Int):Rat))⁻¹<=0:=by
  have:=abp z1 (aaX fF)
  rwa [Rat.zero_mul]at this
 grind
theorem t4{w H:bx}(lw:aO w.1 w.2)(w0:0<w.1)(cj:aO H.1 H.2)(gw:0<H.1):(bR w H).1≠0∨(bR w H).2.1≠0:=by
 have gU:b7 (cb w (0,1)) (au w) 0:=(fT lw.1 (by decide)).to rfl (hl _);have ju:b7 (cb (0,1) H) 0 (au H):=(fT (by decide) cj.1).to (hl _) rfl;refine j6 gU.1 ju.1 fun e=>?_;rw[e]at gU;have:=gU.2.1.symm.trans ju.2.1;have:=eG w0 lw.1;grind
end Cut
namespace L3
open PySem L2
theorem HW{a b c:Nat}{s:cI}{U:fW}(I:List Cut.BoxD->List aH->Prop):∀{bs done:List Cut.BoxD}{ρ:List aH},I done ρ ->
  (∀pre x rest ρ,done++bs=pre++x::rest->I pre ρ->∀N:List aH->Prop,(∀r,I (pre++[x]) r->N r)->s { U with nx:=N,ct:=N,bk:=U.nx } (((ρ.set a (.val (Cut.dR x.1))).set b (.val (Cut.dR x.2.1))).set c (.new (Cut.dSh x.2.2)))) ->
  (∀ρ,I (done++bs) ρ->U.nx ρ)->forR (mz 3 (g7 (tg a) (g7 (tg b) (g7 (AZ c) my)))) s U (bs.map Cut.dBx) ρ
 | [],done,ρ,h0,_,ab=>ab ρ (by rw[Z'];exact h0)
 | x::bs,done,ρ,h0,aa,ab=>by
  refine⟨_,rfl,rfl,_,_,rfl,rfl,_,_,rfl,rfl,_,_,rfl,rfl,?_⟩;refine aa done x bs ρ rfl h0 _ fun r ak=>?_;refine HW I ak (fun pre y rest ρ e=>aa pre y rest ρ (by rw[<-e];simp)) fun ρ h=>ab ρ ?_;have e:done++[x]++bs=done++x::bs:=by simp
  rw[<-e];exact h
end L3
namespace Cut
open PySem L2 L3
open PySem.Builtin.Int (intBits)
theorem xn{a b:bx}(bt:aO a.1 a.2)(bz:aO b.1 b.2)(e:au a=au b):a=b:=by
 have c:=BJ bt.1 bz.1 e;have aa:=vL (t:=a.1) (b:=a.2) bt (Zh bt.1) rfl;have ab:=vL (t:=a.1) (b:=a.2) bz (Zh bt.1) c.symm;exact aa.symm.trans ab
def di(w g:bx):Nat:=(-((-(dW g w).1).fdiv (dW g w).2)).toNat
def dy(w g:bx):Nat:=((dW w g).1.fdiv (dW w g).2).toNat
theorem SW{x y:Int}(h:0<y):x.fdiv y*y<=x/\x<(x.fdiv y+1)*y:=by
 rw[ab2 _ (by omega)];have a:=Int.mul_ediv_add_emod x y;have b:=aa6 x (show y≠0 by omega);have c:=abh x h;rw[Int.add_mul,aak];omega
theorem HX{x y:Int}(h:0<y):((x.fdiv y:Int):Rat)<=(x:Rat)/y/\(x:Rat)/y<((x.fdiv y+1:Int):Rat):=by
 obtain⟨a,b⟩:=SW (x:=x) h;have a5:(0:Rat)<(y:Rat):=by exact_mod_cast h
 have eI:((x.fdiv y:Int):Rat)*y<=(x:Rat):=by exact_mod_cast a
 have b':(x:Rat)<((x.fdiv y+1:Int):Rat)*y:=by exact_mod_cast b
 refine⟨?_,(adb a5).mpr b'⟩;apply aaU;intro z;have z:=Rat.not_le.mp z;have:=(adb a5).mp z;grind
section
variable{w g:bx}(lw:aO w.1 w.2)(w0:0<w.1)(aY:aO g.1 g.2)(ba:0<g.1)
include lw w0 aY ba
theorem t5(h:g.1*w.2<=w.1*g.2)(k0:w.1*g.2<=8*(g.1*w.2)):(dW w g).1.fdiv (dW w g).2=(dy w g:Int)/\1<=dy w g/\dy w g<=8/\(dy w g:Rat)*au g<=au w/\au w<((dy w g+1:Nat):Rat)*au g:=by
 obtain⟨l,e⟩:=mT (a:=w) (b:=g) lw.1 ba aY.1;obtain⟨f1,f2⟩:=HX (x:=(dW w g).1) l.1;have aT:(((dW w g).1:Int):Rat)/((dW w g).2:Int)=au w/au g:=e;rw[aT]at f1 f2;have pD:=eG ba aY.1;have ny:=eG w0 lw.1
 have bK:au g<=au w:=by
  have cQ:=dI lw.1;have c5:=dI aY.1;have a1:(0:Rat)<w.2:=by exact_mod_cast lw.1
  have a2:(0:Rat)<g.2:=by exact_mod_cast aY.1
  have c:(g.1:Rat)*w.2<=(w.1:Rat)*g.2:=by exact_mod_cast h
  refine ade (c:=(w.2:Rat)*g.2) ?_ (aax a1 a2);unfold au;have u:(g.1:Rat)/g.2*(w.2*g.2)=g.1*w.2:=by grind
  have v:(w.1:Rat)/w.2*(w.2*g.2)=w.1*g.2:=by grind
  rw[u,v];exact c
 have SX:au w<=8*au g:=by
  have cQ:=dI lw.1;have c5:=dI aY.1;have a1:(0:Rat)<w.2:=by exact_mod_cast lw.1
  have a2:(0:Rat)<g.2:=by exact_mod_cast aY.1
  have c:(w.1:Rat)*g.2<=8*((g.1:Rat)*w.2):=by exact_mod_cast k0
  refine ade (c:=(w.2:Rat)*g.2) ?_ (aax a1 a2);unfold au;have u:8*((g.1:Rat)/g.2)*(w.2*g.2)=8*(g.1*w.2):=by grind
  have v:(w.1:Rat)/w.2*(w.2*g.2)=w.1*g.2:=by grind
  rw[u,v];exact c
 generalize ay:(dW w g).1.fdiv (dW w g).2=q at f1 f2;have jR:au g≠0:=by grind
 have bw:(q:Rat)*au g<=au w:=by
  have:=abp f1 (aaX pD)
  rwa [acz jR]at this
 have b8:au w<((q+1:Int):Rat)*au g:=by
  have:=acA f2 pD
  rwa [acz jR]at this
 have a4:1<=q:=by
  apply aaU;intro z;have:((q+1:Int):Rat)<=1:=by exact_mod_cast (show q+1<=1 by omega)
  have:=abp this (aaX pD);grind
 have su:q<=8:=by
  apply aaU;intro z;have:(9:Rat)<=(q:Rat):=by exact_mod_cast (show 9<=q by omega)
  have:=abp this (aaX pD);grind
 have eq:(dy w g:Int)=q:=by unfold dy;rw[ay];omega
 refine⟨eq.symm,by omega,by omega,?_,?_⟩
 ·have:((dy w g:Nat):Rat)=(q:Rat):=by rw[<-eq];rfl
  rw[this];exact bw
 ·have:((dy w g+1:Nat):Rat)=((q+1:Int):Rat):=by rw[<-eq];rfl
  rw[this];exact b8
theorem xo(h:w.1*g.2<g.1*w.2)(k0:g.1*w.2<=8*(w.1*g.2)): -((-(dW g w).1).fdiv (dW g w).2)=(di w g:Int)/\1<=di w g/\di w g<=8/\((di w g:Rat)-1)*au w<au g/\au g<=(di w g:Rat)*au w:=by
 obtain⟨l,e⟩:=mT (a:=g) (b:=w) aY.1 w0 lw.1;obtain⟨f1,f2⟩:=HX (x :=-(dW g w).1) l.1
 have aT:((-(dW g w).1:Int):Rat)/((dW g w).2:Int) = -(au g/au w):=by
  have:(((dW g w).1:Int):Rat)/((dW g w).2:Int)=au g/au w:=e;rw[<-this,acB,abC,abC,adf]
 rw[aT]at f1 f2;have pD:=eG ba aY.1;have ny:=eG w0 lw.1
 have bK:au w<au g:=by
  have cQ:=dI lw.1;have c5:=dI aY.1;have a1:(0:Rat)<w.2:=by exact_mod_cast lw.1
  have a2:(0:Rat)<g.2:=by exact_mod_cast aY.1
  have c:(w.1:Rat)*g.2<(g.1:Rat)*w.2:=by exact_mod_cast h
  refine Rat.lt_of_mul_lt_mul_right (c:=(w.2:Rat)*g.2) ?_ (aaX (aax a1 a2));unfold au;have u:(g.1:Rat)/g.2*(w.2*g.2)=g.1*w.2:=by grind
  have v:(w.1:Rat)/w.2*(w.2*g.2)=w.1*g.2:=by grind
  rw[u,v];exact c
 have SX:au g<=8*au w:=by
  have cQ:=dI lw.1;have c5:=dI aY.1;have a1:(0:Rat)<w.2:=by exact_mod_cast lw.1
  have a2:(0:Rat)<g.2:=by exact_mod_cast aY.1
  have c:(g.1:Rat)*w.2<=8*((w.1:Rat)*g.2):=by exact_mod_cast k0
  refine ade (c:=(w.2:Rat)*g.2) ?_ (aax a1 a2);unfold au;have u:(g.1:Rat)/g.2*(w.2*g.2)=g.1*w.2:=by grind
  have v:8*((w.1:Rat)/w.2)*(w.2*g.2)=8*(w.1*g.2):=by grind
  rw[u,v];exact c
 generalize ay:(-(dW g w).1).fdiv (dW g w).2=q at f1 f2;have wn:au w≠0:=by grind
 have bw:(q:Rat)*au w <= -au g:=by
  have:=abp f1 (aaX ny)
  rwa [adf,acz wn]at this
 have b8 : -au g<((q+1:Int):Rat)*au w:=by
  have:=acA f2 ny
  rwa [adf,acz wn]at this
 have hb:((q+1:Int):Rat)=(q:Rat)+1:=by push_cast;rfl
 have a4:q <= -1:=by
  apply aaU;intro z;have:(0:Rat)<=(q:Rat):=by exact_mod_cast (show 0<=q by omega)
  have:=abp this (aaX ny);grind
 have su : -8<=q:=by
  apply aaU;intro z;have:((q+1:Int):Rat)<=((-8:Int):Rat):=Rat.intCast_le_intCast.mpr (show q+1 <= -8 by omega);have SY:((-8:Int):Rat) = -8:=by rfl
  rw[SY]at this;have:=abp this (aaX ny);grind
 have eq:(di w g:Int) = -q:=by unfold di;rw[ay];omega
 have ra:((di w g:Nat):Rat) = -(q:Rat):=by
  have:((di w g:Nat):Rat)=((-q:Int):Rat):=by rw[<-eq];rfl
  rw[this,acB]
 refine⟨eq.symm,by omega,by omega,?_,?_⟩
 ·rw[ra];rw[hb]at b8;grind
 ·rw[ra];grind
end
noncomputable def lastB(g:bx)(b:BoxD):BoxD:=if b.1=g then b else(g,e3 b.1 b.2.1 g,mS b.1 b.2.1 g b.2.2)
theorem HY(g:bx)(b:BoxD):(lastB g b).1=g:=by
 unfold lastB;by_cases h:b.1=g
 ·rw[if_pos h];exact h
 ·rw[if_neg h]
noncomputable def layB(w h g:bx)(sh:List Piece):BoxD:=(cJ w (di w g:Int),fo h (di w g),fK w 0 (ef true (fo h (di w g)) sh (di w g)))
noncomputable def eg(w h g:bx)(sh:List Piece):List BoxD :=
 if w.1*g.2<g.1*w.2 then[lastB g (layB w h g sh)]
 else(ef false g sh (dy w g)).dropLast.map (fun S=>((g,h,S):BoxD))++[lastB g (h1 w g (dy w g),h,(ef false g sh (dy w g)).getLastD [])]
theorem xp{w h g:bx}{sh:List Piece}(c:w.1*g.2<g.1*w.2):eg w h g sh=[lastB g (layB w h g sh)]:=by
 unfold eg;rw[if_pos c]
theorem t6{w h g:bx}{sh:List Piece}(c:¬w.1*g.2<g.1*w.2){Ss:List (List Piece)}{Z:List Piece}(e:ef false g sh (dy w g)=Ss++[Z]):eg w h g sh=Ss.map (fun S=>((g,h,S):BoxD))++[lastB g (h1 w g (dy w g),h,Z)]:=by
 unfold eg;rw[if_neg c,e,ac9,List.getLastD_concat]
theorem S0{w h g:bx}{sh:List Piece}:∀b∈eg w h g sh,b.1=g:=by
 intro b af;unfold eg at af;by_cases c:w.1*g.2<g.1*w.2
 ·rw[if_pos c]at af;rw[aac.mp af,HY]
 ·rw[if_neg c]at af;rcases aae.mp af with af|af
  ·obtain⟨S,_,rfl⟩:=Z9.mp af;rfl
  ·rw[aac.mp af,HY]
theorem HZ{h:bx}(l:0<h.2):∀{bs:List BoxD}{H:bx},aO H.1 H.2->(∀b∈bs,b.2.1=h)->au (dh bs H)=au H+(bs.length:Rat)*au h
 | [],H,_,_=>by
  show au H=au H+((0:Nat):Rat)*au h
  have:((0:Nat):Rat)=0:=rfl;rw[this];grind
 | b::r,H,cj,af=>by
  have e:=af b ZJ;rw[dh,e,HZ l (bs:=r) (q9 cj.1 l) (fun x aB=>af x (ZL _ aB)),xk cj.1 l,Z8];have:((r.length+1:Nat):Rat)=(r.length:Rat)+1:=by push_cast;rfl
  rw[this];grind
theorem H0{h:bx}(l:aO h.1 h.2){bs:List BoxD}(af:∀b∈bs,b.2.1=h):dh bs (0,1)=cJ h (bs.length:Int):=by
 obtain⟨lm,em⟩:=gu (w:=h) l.1 (bs.length:Int);refine xn (Cd ⟨by decide,by decide⟩ fun b BP=>by rw[af b BP];exact l.1) lm ?_;rw[em,HZ l.1 ⟨by decide,by decide⟩ af];have:au (0,1)=0:=hl _;rw[this];have:(((bs.length:Nat):Int):Rat)=(bs.length:Rat):=rfl;rw[this];grind
theorem H2{b m n t N q:Nat}:∀{bs:List BoxD}{H:bx},(∀pre x rest,bs=pre++x::rest->c' q (cb (0,1) (dh pre H)))->(∀x∈bs,c2 b m n t N x.2.2)->c2 (b+q+1) (m+q+2) n (t+q+1) (N*bs.length) (el bs H)
 | [],H,_,_=>⟨fun s aq=>absurd aq abz,aaE _⟩
 | x::r,H,ag,aq=>by
  have a:=(aq x ZJ).slid (ag [] x r rfl);have c:=H2 (bs:=r) (H:=ij H x.2.1) (fun pre y rest e=>ag (x::pre) y rest (by rw[e];rfl)) fun y a5=>aq y (ZL _ a5);rw[el];refine(a.app c).mono (Zg _) (Zg _) (Zg _) (Zg _) ?_;rw[Z8,adg];omega
theorem H3{w:bx}(lw:aO w.1 w.2)(aG:intBits w.1<=30)(aJ:intBits w.2<=30){b m n t N:Nat}:∀{Ss:List (List Piece)}{i:Nat},i+Ss.length<=8->(∀S∈Ss,c2 b m n t N S)->c2 (b+37) (m+38) n (t+37) (N*Ss.length) (fK w i Ss)
 | [],i,_,_=>⟨fun s aq=>absurd aq abz,aaE _⟩
 | S::r,i,aD,aq=>by
  rw[Z8]at aD;obtain⟨d8,_⟩:=gu (w:=w) lw.1 (i:Int);obtain⟨bK,eS⟩:=jc (w:=w) (q:=30) lw.1 aG aJ (k:=(i:Int)) (by omega);have gp:=kf (a:=cJ w (i:Int)) (b:=(0,1)) (p:=34) (q:=2) d8 ⟨by decide,by decide⟩ bK eS (by decide) (by decide);have a:=(aq S ZJ).slid gp;have c:=H3 lw aG aJ (Ss:=r) (i:=i+1) (by omega) fun y a5=>aq y (ZL _ a5)
  have e:fK w i (S::r)=S.map (ej (cb (cJ w (i:Int)) (0,1)))++fK w (i+1) r:=by
   unfold fK;rw[fc,ab1]
  rw[e];refine(a.app c).mono (Zg _) (Zg _) (Zg _) (Zg _) ?_;rw[Z8,adg];omega
section
variable{w h g:bx}(lw:aO w.1 w.2)(w0:0<w.1)(lh:aO h.1 h.2)(h0:0<h.1)(aY:aO g.1 g.2)(ba:0<g.1)
include lw w0 lh h0 aY ba
theorem t7{p q r:Nat}(aG:intBits w.1<=p)(aJ:intBits w.2<=p)(bZ:intBits h.1<=q)(bQ:intBits h.2<=q)(b4:intBits g.1<=r)(b5:intBits g.2<=r):aO (e3 w h g).1 (e3 w h g).2/\intBits (e3 w h g).1<=p+q+r/\intBits (e3 w h g).2<=p+q+r/\au (e3 w h g)=au w*au h/au g:=by
 have lt:=g9 (t:=w.1*h.1) (b:=w.2*h.2) (Zh (ZK lw.1 lh.1));have hW:intBits (cA (w.1*h.1) (w.2*h.2)).1<=p+q/\intBits (cA (w.1*h.1) (w.2*h.2)).2<=p+q:=⟨d3 lt.2.2.1 (intBits_mul_le aG bZ),d3 lt.2.2.2 (intBits_mul_le aJ bQ)⟩;obtain⟨cj,gv⟩:=mT (a:=cA (w.1*h.1) (w.2*h.2)) (b:=g) lt.1.1 ba aY.1;obtain⟨bL,b1⟩:=q' (a:=cA (w.1*h.1) (w.2*h.2)) (b:=g) (p:=p+q) (q:=r) lt.1.1 ba hW.1 hW.2 b4 b5;refine⟨cj,bL,b1,?_⟩;refine gv.trans ?_;rw[q3 (ZK lw.1 lh.1)]
 have bG:((w.1*h.1:Int):Rat)/((w.2*h.2:Int):Rat)=au w*au h:=by
  have x:=dI lw.1;have y:=dI lh.1;unfold au;push_cast;grind
 rw[bG]
theorem S1(aG:intBits w.1<=70)(aJ:intBits w.2<=70)(bZ:intBits h.1<=70)(bQ:intBits h.2<=70)(b4:intBits g.1<=30)(b5:intBits g.2<=30){b m n t N:Nat}{sh:List Piece}(aq:c2 b m n t N sh)(hm:260<=m)(af:261+m<=b):c2 (b+343) (m+344) (n+2) (t+343) (3*N) (mS w h g sh):=by
 obtain⟨cj,bL,b1,gv⟩:=t7 lw w0 lh h0 aY ba aG aJ bZ bQ b4 b5;have eF:aO 0 1:=⟨by decide,by decide⟩;have gw:=xm lw w0 lh h0 aY ba rfl;unfold mS;generalize e3 w h g=H at cj bL b1 gv gw ⊢;have cQ:=kf (a:=w) (b:=(0,1)) (p:=70) (q:=2) lw eF aG aJ (by decide) (by decide);have c5:=kf (a:=(0,1)) (b:=H) (p:=2) (q:=170) eF cj (by decide) (by decide) bL b1;have bl:cm 260 (bR w H):=(cQ.bp.crs c5.bp).mono (by decide);have mV:(bR w H).1≠0∨(bR w H).2.1≠0:=t4 lw w0 cj gw;have e:(fun c => -ln (bR w H) c)=ln (kZ (bR w H)):=funext fun c=>(lY _ _).symm;have z1:c2 b m (n+1) t N (cn (ln (bR w H)) (aX (bR w H)) sh):=⟨oi aq.1 bl (by omega) mV (n5 _ _) (by omega) _ (.inl rfl),Gq (l0 sh) aq.2⟩
 have aQ:c2 b m (n+1) t N (cn (fun c => -ln (bR w H) c) (aX (bR w H)) sh):=by
  rw[e];exact⟨oi aq.1 bl (by omega) mV (n5 _ _) (by omega) _ (.inr rfl),Gq (l0 sh) aq.2⟩
 have bY:=z1.cL (X:=g) (q:=30) true aY b4 b5 (by omega) (by omega);have ck:=z1.cL (X:=g) (q:=30) false aY b4 b5 (by omega) (by omega);have a4:=kf (a:=(-g.1,g.2)) (b:=h) (p:=30) (q:=70) ⟨aY.1,by rw[ab3];exact aY.2⟩ lh (intBits_neg_le b4) b5 bZ bQ;obtain⟨rd,_⟩:=mU (a:=g) (b:=w) aY.1 lw.1;obtain⟨rf,_⟩:=mU (a:=H) (b:=h) cj.1 lh.1;obtain⟨bK,eS⟩:=t2 (a:=g) (b:=w) (p:=30) (q:=70) aY.1 lw.1 b4 b5 aG aJ;obtain⟨k2,i7⟩:=t2 (a:=H) (b:=h) (p:=170) (q:=70) cj.1 lh.1 bL b1 bZ bQ;have bS:=kf (a:=fe g w) (b:=fe H h) (p:=101) (q:=241) rd rf bK eS k2 i7;have s2:=(ck.slid a4).mono (b':=b+343) (m':=m+344) (n':=n+2) (t':=t+343) (N':=N) (by omega) (by omega) (by omega) (by omega) (by omega);have s3:=(aQ.slid bS).mono (b':=b+343) (m':=m+344) (n':=n+2) (t':=t+343) (N':=N) (by omega) (by omega) (by omega) (by omega) (by omega);have s1:=bY.mono (b':=b+343) (m':=m+344) (n':=n+2) (t':=t+343) (N':=N) (by omega) (by omega) (by omega) (by omega) (by omega);exact((s1.app s2).app s3).mono (Zg _) (Zg _) (Zg _) (Zg _) (by omega)
theorem H4(aG:intBits w.1<=70)(aJ:intBits w.2<=70)(bZ:intBits h.1<=70)(bQ:intBits h.2<=70)(b4:intBits g.1<=30)(b5:intBits g.2<=30){b m n t N:Nat}{sh:List Piece}(aq:c2 b m n t N sh)(hm:260<=m)(af:261+m<=b):c2 (b+343) (m+344) (n+2) (t+343) (3*N) (lastB g (w,h,sh)).2.2/\aO (lastB g (w,h,sh)).2.1.1 (lastB g (w,h,sh)).2.1.2/\intBits (lastB g (w,h,sh)).2.1.1<=170/\intBits (lastB g (w,h,sh)).2.1.2<=170/\au (lastB g (w,h,sh)).2.1=au w*au h/au g:=by
 obtain⟨cj,bL,b1,gv⟩:=t7 lw w0 lh h0 aY ba aG aJ bZ bQ b4 b5;unfold lastB;by_cases e:w=g
 ·rw[if_pos e];refine⟨aq.mono (by omega) (by omega) (by omega) (by omega) (by omega),lh,Gq bZ (by decide),Gq bQ (by decide),?_⟩;show au h=_
  have:=eG w0 lw.1;rw[<-e];grind
 ·rw[if_neg e];exact⟨S1 lw w0 lh h0 aY ba aG aJ bZ bQ b4 b5 aq hm af,cj,bL,b1,gv⟩
end
theorem Cf{a:bx}(h:0<au a)(ab:0<a.2):0<a.1:=by
 apply aaU;intro z;have z1:((a.1:Int):Rat)<=0:=by exact_mod_cast (show a.1<=0 by omega)
 have aQ:(0:Rat)<((a.2:Int):Rat):=by exact_mod_cast ab
 unfold au at h;rw[abC]at h;have fF:=ab0.mpr aQ
 have:((a.1:Int):Rat)*(((a.2:Int):Rat))⁻¹<=0:=by
  have:=abp z1 (aaX fF)
  rwa [Rat.zero_mul]at this
 grind
section
variable{w h g:bx}(lw:aO w.1 w.2)(w0:0<w.1)(lh:aO h.1 h.2)(h0:0<h.1)(aY:aO g.1 g.2)(ba:0<g.1)(aG:intBits w.1<=30)(aJ:intBits w.2<=30)(bZ:intBits h.1<=60)(bQ:intBits h.2<=60)(b4:intBits g.1<=30)(b5:intBits g.2<=30)
include lw w0 aY ba aG aJ b4 b5
theorem xq(aa:g.1*w.2<=w.1*g.2)(k0:w.1*g.2<=8*(g.1*w.2)):aO (h1 w g (dy w g)).1 (h1 w g (dy w g)).2/\0<(h1 w g (dy w g)).1/\intBits (h1 w g (dy w g)).1<=65/\intBits (h1 w g (dy w g)).2<=65/\au (h1 w g (dy w g))=au w-au g*((dy w g:Rat)-1):=by
 obtain⟨_,cu,eT,ai,_⟩:=t5 lw w0 aY ba aa k0;generalize dy w g=N at cu eT ai ⊢;obtain⟨iM,kg⟩:=gu (w:=g) aY.1 ((N:Int)-1);obtain⟨bw,b8⟩:=jc (w:=g) (q:=30) aY.1 b4 b5 (k:=(N:Int)-1) (by omega);obtain⟨eU,gX⟩:=mU (a:=w) (b:=cJ g ((N:Int)-1)) lw.1 iM.1;obtain⟨bK,eS⟩:=t2 (a:=w) (b:=cJ g ((N:Int)-1)) (p:=30) (q:=34) lw.1 iM.1 aG aJ bw b8;have pD:=eG ba aY.1;have hb:(((N:Int)-1:Int):Rat)=(N:Rat)-1:=by push_cast;rfl
 have e:au (h1 w g N)=au w-au g*((N:Rat)-1):=by
  unfold h1;rw[gX,kg,hb]
 refine⟨eU,Cf ?_ eU.1,bK,eS,e⟩;rw[e];grind
omit aY ba b4 b5
include lh h0 bZ bQ
theorem t8{N:Nat}(gJ:1<=N)(pE:N<=8):aO (fo h N).1 (fo h N).2/\0<(fo h N).1/\intBits (fo h N).1<=64/\intBits (fo h N).2<=64/\au (fo h N)=au h/(N:Rat)/\aO (cJ w (N:Int)).1 (cJ w (N:Int)).2/\0<(cJ w (N:Int)).1/\intBits (cJ w (N:Int)).1<=34/\intBits (cJ w (N:Int)).2<=34/\au (cJ w (N:Int))=au w*(N:Rat):=by
 have pF:intBits (N:Int)<=4:=d3 (t:=8) (by omega) (by decide);obtain⟨eU,gX⟩:=mT (a:=h) (b:=((N:Int),1)) lh.1 (by show(0:Int)<N;omega) (show(0:Int)<1 by decide);obtain⟨bt,bz⟩:=q' (a:=h) (b:=((N:Int),1)) (p:=60) (q:=4) lh.1 (by show(0:Int)<N;omega) bZ bQ pF (show intBits 1<=4 by decide);obtain⟨iM,kg⟩:=gu (w:=w) lw.1 (N:Int);obtain⟨bw,b8⟩:=jc (w:=w) (q:=30) lw.1 aG aJ (k:=(N:Int)) (by omega);have xr:(0:Rat)<(N:Rat):=by exact_mod_cast (show 0<N by omega)
 have W:=eG w0 lw.1;have H:=eG h0 lh.1
 have sr:au ((N:Int),1)=(N:Rat):=by
  unfold au;show((N:Int):Rat)/((1:Int):Rat)=_
  have:((1:Int):Rat)=1:=rfl;rw[this];have:(((N:Nat):Int):Rat)=(N:Rat):=rfl;rw[this];grind
 rw[sr]at gX
 have cQ:0<au (dW h ((N:Int),1)):=by
  rw[gX,abC];exact aax H (ab0.mpr xr)
 have c5:0<au (cJ w (N:Int)):=by
  rw[kg];exact aax W xr
 exact⟨eU,Cf cQ eU.1,bt,bz,gX,iM,Cf c5 iM.1,bw,b8,kg⟩
include aY ba b4 b5
theorem H5{B bF n t N:Nat}{sh:List Piece}(aq:c2 B bF n t N sh)(eD:270+bF<=B)(hm:240<=bF)(cu:1<=di w g)(eT:di w g<=8):
  c2 (B+108) (bF+110) (n+3) (t+108) (N*8) (layB w h g sh).2.2:=by
 obtain⟨eU,hD,bt,bz,_⟩:=t8 lw w0 lh h0 aG aJ bZ bQ cu eT;have k7:=xl (c:=true) (w:=fo h (di w g)) (b:=B) (m:=bF) (t:=t) (N:=N) (q:=64) eU.1 bt bz (by omega) (by omega) cu eT aq;have cl:=oj (c:=true) (w:=fo h (di w g)) (sh:=sh) cu eT;have:=H3 lw aG aJ (i:=0) (Ss:=ef true (fo h (di w g)) sh (di w g)) (by omega) k7;refine this.mono (by omega) (by omega) (by omega) (by omega) ?_;rw[cl];exact adS _ eT
theorem Cg{B bF n t N:Nat}{sh:List Piece}(aq:c2 B bF n t N sh)(eD:270+bF<=B)(hm:240<=bF)(ar:w.1*g.2<=8*(g.1*w.2))(aF:g.1*w.2<=8*(w.1*g.2)):
  (∀x∈eg w h g sh,aO x.2.1.1 x.2.1.2/\intBits x.2.1.1<=170/\intBits x.2.1.2<=170/\c2 (B+451) (bF+454) (n+5) (t+451) (24*N) x.2.2) /\
  (∀pre x rest,eg w h g sh=pre++x::rest->aO (dh pre (0,1)).1 (dh pre (0,1)).2/\intBits (dh pre (0,1)).1<=64/\intBits (dh pre (0,1)).2<=64) /\
  ((eg w h g sh).map fun b=>b.2.2.length).sum<=24*N/\dh (eg w h g sh) (0,1)=e3 w h g:=by
 have eF:aO 0 1:=⟨by decide,by decide⟩;obtain⟨cj,bL,b1,gv⟩:=t7 lw w0 lh h0 aY ba aG aJ bZ bQ b4 b5;have ny:=eG w0 lw.1;have pD:=eG ba aY.1;have gw:=eG h0 lh.1;have z0:au (0,1)=0:=hl _;by_cases c:w.1*g.2<g.1*w.2
 ·obtain⟨_,cu,eT,_,_⟩:=xo lw w0 aY ba c aF;obtain⟨eU,hD,bt,bz,gX,iM,mE,bw,b8,kg⟩:=t8 lw w0 lh h0 aG aJ bZ bQ cu eT;have qY:=H5 lw w0 lh h0 aY ba aG aJ bZ bQ b4 b5 aq eD hm cu eT;obtain⟨a1,a2,i',xt,xu⟩:=H4 iM mE eU hD aY ba (Gq bw (by decide)) (Gq b8 (by decide)) (Gq bt (by decide)) (Gq bz (by decide)) b4 b5 qY (by omega) (by omega);have xr:(0:Rat)<(di w g:Rat):=by exact_mod_cast (show 0<di w g by omega)
  have H6:au (lastB g (layB w h g sh)).2.1=au w*au h/au g:=by
   refine xu.trans ?_;rw[gX,kg];grind
  have Ci:c2 (B+108+343) (bF+110+344) (n+3+2) (t+108+343) (3*(N*8)) (lastB g (layB w h g sh)).2.2:=a1;have xv:aO (lastB g (layB w h g sh)).2.1.1 (lastB g (layB w h g sh)).2.1.2:=a2;have H7:intBits (lastB g (layB w h g sh)).2.1.1<=170:=i';have H8:intBits (lastB g (layB w h g sh)).2.1.2<=170:=xt;rw[xp c];generalize lastB g (layB w h g sh)=X at Ci xv H7 H8 H6 ⊢;refine⟨fun x aB=>?_,fun pre x rest e=>?_,?_,?_⟩
  ·rw[aac.mp aB];exact⟨xv,H7,H8,Ci.mono (by omega) (by omega) (by omega) (by omega) (by omega)⟩
  ·cases pre with
   | nil=>exact⟨eF,by decide,by decide⟩
   | cons y r=>exact absurd (congrArg aam e) (by simp)
  ·have:=Ci.2;simp only[aaa,aa',aaK,ab4];omega
  ·refine xn (q9 eF.1 xv.1) cj ?_;show au (ij (0,1) X.2.1)=_
   rw[xk eF.1 xv.1,gv,H6,z0];grind
 ·have aa:g.1*w.2<=w.1*g.2:=by omega
  obtain⟨_,cu,eT,_,_⟩:=t5 lw w0 aY ba aa ar;obtain⟨eU,hD,bt,bz,gX⟩:=xq lw w0 aY ba aG aJ b4 b5 aa ar;have k7:=xl (c:=false) (w:=g) (b:=B) (m:=bF) (t:=t) (N:=N) (q:=30) aY.1 b4 b5 (by omega) (by omega) cu eT aq;have cl:=oj (c:=false) (w:=g) (sh:=sh) cu eT
  obtain⟨Ss,Z,ho⟩:∃Ss Z,ef false g sh (dy w g)=Ss++[Z]:=by
   rcases ab5 (ef false g sh (dy w g))with z|⟨Ss,Z,z⟩
   ·rw[z]at cl;simp at cl;omega
   ·exact⟨Ss,Z,by rw[z,ab6]⟩
  rw[t6 c ho];rw[ho]at k7 cl;rw[ZM,aaQ]at cl;obtain⟨a1,a2,i',xt,xu⟩:=H4 eU hD lh h0 aY ba (Gq bt (by decide)) (Gq bz (by decide)) (Gq bZ (by decide)) (Gq bQ (by decide)) b4 b5 (k7 Z (by simp)) (by omega) (by omega);generalize lastB g (h1 w g (dy w g),h,Z)=X at a1 a2 i' xt xu ⊢
  have eJ:∀b∈Ss.map (fun S=>((g,h,S):BoxD)),b.2.1=h:=fun b af=>by
   obtain⟨S,_,rfl⟩:=Z9.mp af;rfl
  refine⟨fun x aB=>?_,fun pre x rest e=>?_,?_,?_⟩
  ·rcases aae.mp aB with aB|aB
   ·obtain⟨S,c7,rfl⟩:=Z9.mp aB;exact⟨lh,Gq bZ (by decide),Gq bQ (by decide),(k7 S (abj _ c7)).mono (by omega) (by omega) (by omega) (by omega) (by omega)⟩
   ·rw[aac.mp aB];exact⟨a2,i',xt,a1.mono (by omega) (by omega) (by omega) (by omega) (by omega)⟩
  ·have sub:∀b∈pre,b∈Ss.map (fun S=>((g,h,S):BoxD)):=by
    have:=congrArg List.dropLast e;rw[ac9,List.dropLast_append_of_ne_nil (by simp)]at this;intro b af;rw[this];exact abj _ af
   have c0:pre.length<=Ss.length:=by
    have:=congrArg aam e;simp only[ZM,Zf,Z8,abn]at this;omega
   rw[H0 lh fun b af=>eJ b (sub b af)];obtain⟨bw,b8⟩:=jc (w:=h) (q:=60) lh.1 bZ bQ (k:=(pre.length:Int)) (by omega);exact⟨(gu lh.1 _).1,bw,b8⟩
  ·rw[Z7,ab7,aap]
   have s1:(acC ((fun b:BoxD=>b.2.2.length)∘fun S=>((g,h,S):BoxD)) Ss).sum<=N*Ss.length:=by
    have:∀t9:List (List Piece),(∀S∈t9,S.length<=N)->(acC ((fun b:BoxD=>b.2.2.length)∘fun S=>((g,h,S):BoxD)) t9).sum<=N*t9.length:=fun t9=>by
     induction t9 with
     | nil=>intro _;exact aaE _
     | cons S r c3 =>
      intro eb;have x:=eb S ZJ;have y:=c3 fun S c7=>eb S (ZL _ c7);rw[aaa,aaK,Z8,adg];show S.length+_<=_
      omega
    exact this Ss fun S c7=>(k7 S (abj _ c7)).2
   have s2:=a1.2;have s3:N*Ss.length<=N*7:=adS _ (by omega);simp only[aaa,aa',aaK,ab4];omega
  ·rw[Cb,H0 lh eJ,Zf];obtain⟨lm,em⟩:=gu (w:=h) lh.1 (Ss.length:Int);refine xn (q9 lm.1 a2.1) cj ?_;show au (ij (cJ h (Ss.length:Int)) X.2.1)=_
   rw[xk lm.1 a2.1,em,xu,gX,gv];have sr:(dy w g:Rat)=(Ss.length:Rat)+1:=by rw[<-cl];push_cast;rfl
   have S2:(((Ss.length:Nat):Int):Rat)=(Ss.length:Rat):=rfl;rw[sr,S2];grind
theorem S3{B bF n t N:Nat}{sh:List Piece}(aq:c2 B bF n t N sh)(eD:270+bF<=B)(hm:240<=bF)(ar:w.1*g.2<=8*(g.1*w.2))(aF:g.1*w.2<=8*(w.1*g.2)):
  c2 (B+518) (bF+522) (n+5) (t+518) (24*N) (el (eg w h g sh) (0,1)):=by
 obtain⟨bY,ck,fS,_⟩:=Cg lw w0 lh h0 aY ba aG aJ bZ bQ b4 b5 aq eD hm ar aF
 have:=H2 (q:=66) (bs:=eg w h g sh) (H:=(0,1)) (fun pre x rest e=>by
  obtain⟨l,a9,bf⟩:=ck pre x rest e
  exact kf (a:=(0,1)) (p:=2) (q:=64) ⟨by decide,by decide⟩ l (by decide) (by decide) a9 bf) fun x aB=>(bY x aB).2.2.2
 exact⟨(this.mono (by omega) (by omega) (by omega) (by omega) (Zg _)).1,by rw[Cc];exact fS⟩
end
end Cut
namespace L3
open PySem L2
theorem S4{α:Type}(xs:List α)(x:α):fx (xs++[x]) none (some (-1))=xs:=by
 unfold fx;have ai:HT.sIx (xs++[x]).length 0 none=0:=rfl
 have av:HT.sIx (xs++[x]).length (xs++[x]).length (some (-1))=xs.length:=by
  unfold HT.sIx;simp
  try omega
 rw[ai,av,acW,Nat.sub_zero,List.take_left]
end L3
namespace Cut
open PySem L2 L3
open PySem.Builtin.Int (intBits)
theorem eH.slid{sh:List Piece}{g:P3}{u v:Rat}(aC:b7 g u v)(h:eH sh):eH (sh.map (ej g)):=by
 intro s aq p ag;obtain⟨r,ak,rfl⟩:=Z9.mp aq;obtain⟨q,ay,rfl⟩:=Z9.mp (show p∈r.1.map fun p=>nP (sld g p)from ag);exact(j9 aC ⟨h r ak q ay,rfl,rfl⟩).1
theorem eH.app{a b:List Piece}(h:eH a)(g:eH b):eH (a++b):=fun s aq=>(aae.mp aq).elim (h s) (g s)
theorem rh(m:Rat):∃X:bx,aO X.1 X.2/\au X=m:=by
 refine⟨(m.num,(m.den:Int)),⟨by show(0:Int)<(m.den:Int);exact_mod_cast m.den_pos,?_⟩,?_⟩
 ·have:=m.reduced;show Ze m.num (m.den:Int)=1
  exact this
 ·unfold au;exact(Rat.divInt_eq_div _ _).symm.trans (Rat.num_divInt_den m)
def oneS(R:List P3):List Piece:=[(R,false,(0,0,1))]
theorem H9(R:List P3):Lies (oneS R) R:=fi.refl _
theorem Ia{R:List P3}(h:∀p∈R,aR p):eH (oneS R):=fun s aq=>by rw[aac.mp aq];exact h
theorem Ib{l o:P3}{R:List P3}(aj:l.1≠0∨l.2.1≠0)(aE:aR o)(lo:ln l o=0)(aP:∀p∈R,aR p)(φ:List (List Int)->Int):e2 φ ((cn (ln l) (aX l) (oneS R)).map fun s=>s.1)+e2 φ ((cn (fun c => -ln l c) (aX l) (oneS R)).map fun s=>s.1)=dc φ R:=by
 rw[tG,tG];show e2 φ [keepR (ln l) (aX l) R]+e2 φ [keepR (fun c => -ln l c) (aX l) R]=dc φ R
 rw[gV,gV];exact wV φ aj aE lo aP
theorem S5{R l3 e6:List P3}{x0 bK bW bI m:Rat}(ar:fA l3 x0 m bW bI)(aF:fA e6 m bK bW bI)(r:fA R x0 bK bW bI)(h0:x0<m)(aa:m<bK)(φ:List (List Int)->Int):dc φ l3+dc φ e6=dc φ R:=by
 obtain⟨X,d8,rfl⟩:=rh m;obtain⟨⟨HO,a4,z1⟩,HP,bS,aQ⟩:=HL (Ia r.pts) (H9 R) r d8 h0 aa;obtain⟨dj,dY,gL⟩:=tI d8;have s:=Ib dj dY gL r.pts φ;have a:=z1 φ;have b:=aQ φ;rw[a4.eq ar,gV]at a;rw[bS.eq aF,gV]at b;rw[<-a,<-b,<-s];rfl
theorem S6{R l3 e6:List P3}{x0 bK bW bI m:Rat}(ar:fA l3 x0 bK bW m)(aF:fA e6 x0 bK m bI)(r:fA R x0 bK bW bI)(h0:bW<m)(aa:m<bI)(φ:List (List Int)->Int):dc φ l3+dc φ e6=dc φ R:=by
 obtain⟨X,d8,rfl⟩:=rh m;obtain⟨⟨HO,a4,z1⟩,HP,bS,aQ⟩:=HM (Ia r.pts) (H9 R) r d8 h0 aa;obtain⟨dj,dY,gL⟩:=tJ d8;have s:=Ib dj dY gL r.pts φ;have a:=z1 φ;have b:=aQ φ;rw[a4.eq ar,gV]at a;rw[bS.eq aF,gV]at b;rw[<-a,<-b,<-s,Rat.add_comm];rfl
theorem Lies.join{A B:List Piece}{l3 e6 R:List P3}(aa:Lies A l3)(ab:Lies B e6)(e:∀φ,dc φ l3+dc φ e6=dc φ R):Lies (A++B) R:=fun φ=>by
 rw[Z7,pz,aa φ,ab φ,gV,gV,gV,e]
theorem Cj(x0 bK bW bI:Rat):∃R,fA R x0 bK bW bI:=by
 obtain⟨a,la,rfl⟩:=rh x0;obtain⟨b,lb,rfl⟩:=rh bK;obtain⟨c,lc,rfl⟩:=rh bW;obtain⟨d,ld,rfl⟩:=rh bI;exact⟨_,_,_,_,_,rfl,fT la.1 lc.1,fT lb.1 lc.1,fT lb.1 ld.1,fT la.1 ld.1⟩
def dJ(S:List Piece)(x0 bK bW bI:Rat):Prop:=eH S/\∃R,Lies S R/\fA R x0 bK bW bI
theorem dJ.to{S:List Piece}{x0 bK bW bI z0 z1 w0 w1:Rat}(h:dJ S x0 bK bW bI)(ai:x0=z0)(av:bK=z1)(bG:bW=w0)(c4:bI=w1):dJ S z0 z1 w0 w1:=by subst ai av bG c4;exact h
theorem dJ.slid{S:List Piece}{x0 bK bW bI u v:Rat}{g:P3}(aC:b7 g u v)(h:dJ S x0 bK bW bI):dJ (S.map (ej g)) (x0+u) (bK+u) (bW+v) (bI+v):=by
 obtain⟨ag,R,aj,r⟩:=h;exact⟨ag.slid aC,_,aj.slid aC.1 ag r.pts,r.slid aC⟩
theorem dJ.joinU{A B:List Piece}{x0 bK bW bI m:Rat}(h:dJ A x0 m bW bI)(g:dJ B m bK bW bI)(h0:x0<m)(aa:m<bK):dJ (A++B) x0 bK bW bI:=by
 obtain⟨ag,l3,bt,ar⟩:=h;obtain⟨ay,e6,bz,aF⟩:=g;obtain⟨R,r⟩:=Cj x0 bK bW bI;exact⟨ag.app ay,R,bt.join bz (S5 ar aF r h0 aa),r⟩
theorem dJ.joinV{A B:List Piece}{x0 bK bW bI m:Rat}(h:dJ A x0 bK bW m)(g:dJ B x0 bK m bI)(h0:bW<m)(aa:m<bI):dJ (A++B) x0 bK bW bI:=by
 obtain⟨ag,l3,bt,ar⟩:=h;obtain⟨ay,e6,bz,aF⟩:=g;obtain⟨R,r⟩:=Cj x0 bK bW bI;exact⟨ag.app ay,R,bt.join bz (S6 ar aF r h0 aa),r⟩
theorem ri(n:Nat):((n+1:Nat):Rat)=(n:Rat)+1:=by push_cast;rfl
theorem Ic{w:bx}(lw:aO w.1 w.2)(w0:0<w.1){L:Rat}:∀{Ss:List (List Piece)}{S:List Piece}{i:Nat},(∀T∈S::Ss,dJ T 0 (au w) 0 L)->dJ (fK w i (S::Ss)) (au w*(i:Rat)) (au w*((i+Ss.length+1:Nat):Rat)) 0 L
 | Ss,S,i,aq=>by
  have W:=eG w0 lw.1;obtain⟨d8,jB⟩:=gu (w:=w) lw.1 (i:Int);have eZ:(((i:Nat):Int):Rat)=(i:Rat):=rfl;have gp:b7 (cb (cJ w (i:Int)) (0,1)) (au w*(i:Rat)) 0:=(fT (w:=cJ w (i:Int)) (h:=(0,1)) d8.1 (by decide)).to (jB.trans (by rw[eZ])) (hl _);have a:=(aq S ZJ).slid gp
  have e:fK w i (S::Ss)=S.map (ej (cb (cJ w (i:Int)) (0,1)))++fK w (i+1) Ss:=by
   unfold fK;rw[fc,ab1]
  rw[e];have eI:=a.to (z0:=au w*(i:Rat)) (z1:=au w*((i+1:Nat):Rat)) (w0:=0) (w1:=L) (by grind) (by rw[ri];grind) (by grind) (by grind)
  match Ss,aq with
  | [],aq =>
   have:fK w (i+1) ([]:List (List Piece))=[]:=rfl;rw[this,Z'];exact eI
  | T::r,aq =>
   have b:=Ic lw w0 (L:=L) (Ss:=r) (S:=T) (i:=i+1) fun X nU=>aq X (ZL _ nU);have c:=b.to (z1:=au w*((i+(T::r).length+1:Nat):Rat)) rfl (by rw[Z8,show i+1+r.length+1=i+(r.length+1)+1 by omega]) rfl rfl;refine eI.joinU c ?_ ?_
   ·rw[ri];grind
   ·have lt:((i+1:Nat):Rat)<((i+(T::r).length+1:Nat):Rat):=by
     exact_mod_cast (show i+1<i+(T::r).length+1 by rw[Z8];omega)
    have:=acA lt W;grind
theorem Ie{G:Rat}:∀{bs:List BoxD}{b:BoxD}{H:bx},aO H.1 H.2->(∀x∈b::bs,dJ x.2.2 0 G 0 (au x.2.1)/\0<x.2.1.2/\0<au x.2.1)->dJ (el (b::bs) H) 0 G (au H) (au (dh (b::bs) H))/\au H<au (dh (b::bs) H)
 | bs,b,H,cj,aq=>by
  obtain⟨o,c5,pp⟩:=aq b ZJ;have gp:b7 (cb (0,1) H) 0 (au H):=(fT (by decide) cj.1).to (hl _) rfl;have a:=o.slid gp;have S7:=q9 cj.1 c5;have xw:=xk cj.1 c5;have eI:=a.to (z0:=0) (z1:=G) (w0:=au H) (w1:=au (ij H b.2.1)) (by grind) (by grind) (by grind) (by rw[xw];grind);rw[el,dh]
  match bs,aq with
  | [],aq =>
   have:el ([]:List BoxD) (ij H b.2.1)=[]:=rfl;rw[this,Z'];exact⟨eI,by show au H<au (ij H b.2.1);rw[xw];grind⟩
  | c::r,aq =>
   obtain⟨q,lt⟩:=Ie (G:=G) (bs:=r) (b:=c) (H:=ij H b.2.1) S7 fun x aB=>aq x (ZL _ aB);exact⟨eI.joinV q (by rw[xw];grind) lt,by rw[xw]at lt;grind⟩
section
variable{f:P3->Int}{mt:P3->P3->P3}{a b c d:P3}
theorem S8(ax:0<f a)(af:f b=0)(hc:f c<0)(hd:0<f d):keepR f mt [a,b,c,d]=[a,b,mt c d,d]:=by
 rw[ka a (by simp) ax,j',fy (by omega),fj (.inl ⟨by omega,by omega⟩),fy (by omega),fj (.inr ⟨by omega,by omega⟩),gs hc,gW (.inr ⟨hc,hd⟩),fy (by omega),fj (.inl ⟨by omega,by omega⟩)];rfl
theorem S9(ax:f a<0)(af:f b=0)(hc:0<f c)(hd:f d<0):keepR f mt [a,b,c,d]=[b,c,mt c d]:=by
 rw[ka c (by simp) hc,j',gs ax,fj (.inr ⟨by omega,by omega⟩),fy (by omega),fj (.inl ⟨by omega,by omega⟩),fy (by omega),gW (.inl ⟨hc,hd⟩),gs hd,fj (.inr ⟨by omega,by omega⟩)];rfl
theorem S'(ax:0<f a)(af:f b<0)(hc:0<f c)(hd:0<f d):keepR f mt [a,b,c,d]=[a,mt a b,mt b c,c,d]:=by
 rw[ka a (by simp) ax,j',fy (by omega),gW (.inl ⟨ax,af⟩),gs af,gW (.inr ⟨af,hc⟩),fy (by omega),fj (.inl ⟨by omega,by omega⟩),fy (by omega),fj (.inl ⟨by omega,by omega⟩)];rfl
theorem Ta(ax:f a<0)(af:0<f b)(hc:f c<0)(hd:f d<0):keepR f mt [a,b,c,d]=[mt a b,b,mt b c]:=by
 rw[ka b (by simp) af,j',gs ax,gW (.inr ⟨ax,af⟩),fy (by omega),gW (.inl ⟨af,hc⟩),gs hc,fj (.inr ⟨by omega,by omega⟩),gs hd,fj (.inr ⟨by omega,by omega⟩)];rfl
theorem Tb(ax:f a<0)(af:f b<0)(hc:f c<0)(hd:0<f d):keepR f mt [a,b,c,d]=[mt c d,d,mt d a]:=by
 rw[ka d (by simp) hd,j',gs ax,fj (.inr ⟨by omega,by omega⟩),gs af,fj (.inr ⟨by omega,by omega⟩),gs hc,gW (.inr ⟨hc,hd⟩),fy (by omega),gW (.inl ⟨hd,ax⟩)];rfl
theorem Tc(ax:0<f a)(af:0<f b)(hc:0<f c)(hd:f d<0):keepR f mt [a,b,c,d]=[a,b,c,mt c d,mt d a]:=by
 rw[ka a (by simp) ax,j',fy (by omega),fj (.inl ⟨by omega,by omega⟩),fy (by omega),fj (.inl ⟨by omega,by omega⟩),fy (by omega),gW (.inl ⟨hc,hd⟩),gs hd,gW (.inr ⟨hd,ax⟩)];rfl
end
theorem eH.cut{sh:List Piece}{l:P3}(h:eH sh):eH (cn (ln l) (aX l) sh)/\eH (cn (fun c => -ln l c) (aX l) sh):=by
 have key:∀f:P3->Int,(∀p q,f p*f q<0->ln l p*ln l q<0)->eH (cn f (aX l) sh):=fun f hf s aq p ag=>by
  obtain⟨t,bB,rfl,c⟩:=tk aq;rcases pl ag with⟨aa,_⟩|⟨u,aa,v,ab,aL,rfl⟩
  ·exact h t bB p aa
  ·have gp:=h t bB u aa;have hZ:=h t bB v ab;rw[<-jv gp hZ];exact fh (jw gp hZ (hf _ _ aL))
 exact⟨key _ (fun _ _ z=>z),key _ (fun p q z=>by rwa [aa5]at z)⟩
section
variable{w H:bx}(lw:aO w.1 w.2)(cj:aO H.1 H.2)
include lw cj
theorem mW{c:P3}{x y:Rat}(hc:b7 c x y):∃k:Rat,0<k/\((ln (bR w H) c:Int):Rat)=k*(au w*au H-au H*x-au w*y):=by
 have gU:b7 (cb w (0,1)) (au w) 0:=(fT lw.1 (by decide)).to rfl (hl _);have ju:b7 (cb (0,1) H) 0 (au H):=(fT (by decide) cj.1).to (hl _) rfl;obtain⟨k,cf,e⟩:=BK gU ju hc;exact⟨k,cf,by show((bb _ _ c:Int):Rat)=_;rw[e];grind⟩
theorem Ig{p q:P3}{bK bI eS c9 x y:Rat}(w0:0<au w)(gw:0<au H)(ag:b7 p bK bI)(ay:b7 q eS c9)(h:ln (bR w H) p*ln (bR w H) q<0)(aj:au H*x+au w*y=au w*au H)(a':(bK=eS/\x=bK)∨(bI=c9/\y=bI)):b7 (aX (bR w H) p q) x y:=by
 have pm:aR (aX (bR w H) p q):=by rw[<-jv ag.1 ay.1];exact fh (jw ag.1 ay.1 h)
 obtain⟨a,b,Hj,ex,fQ⟩:=A9 (pk h) ag.1.1 ay.1.1 pm.1;have im:b7 (aX (bR w H) p q) (hA (aX (bR w H) p q)) (hB (aX (bR w H) p q)):=⟨pm,rfl,rfl⟩;obtain⟨k,cf,e⟩:=mW lw cj im;rw[qT h]at e;have bY:k≠0:=by intro z;rw[z]at cf;exact absurd cf (by decide)
 have z:au w*au H-au H*hA (aX (bR w H) p q)-au w*hB (aX (bR w H) p q)=0:=by
  have:k*(au w*au H-au H*hA (aX (bR w H) p q)-au w*hB (aX (bR w H) p q))=0:=by rw[<-e];rfl
  grind
 have wn:au w≠0:=by grind
 have ZQ:au H≠0:=by grind
 rw[ag.2.1,ay.2.1]at ex;rw[ag.2.2,ay.2.2]at fQ;generalize hA (aX (bR w H) p q)=cH at *;generalize hB (aX (bR w H) p q)=k8 at *;rcases a' with⟨aa,ab⟩|⟨aa,ab⟩
 ·subst aa ab;have ai:cH=x:=by rw[ex];grind
  subst ai;refine im.to rfl ?_;have:au w*(k8-y)=0:=by grind
  grind
 ·subst aa ab;have ai:k8=y:=by rw[fQ];grind
  subst ai;refine im.to ?_ rfl;have:au H*(cH-x)=0:=by grind
  grind
end
theorem oo{a:Int}(h:0<a): -a<0:=by omega
theorem rj{a:Int}(h:a<0):0 < -a:=by omega
section
variable{w h g H:bx}(lw:aO w.1 w.2)(w0:0<w.1)(lh:aO h.1 h.2)(h0:0<h.1)(aY:aO g.1 g.2)(ba:0<g.1)(cj:aO H.1 H.2)(gw:0<H.1)(e:au g*au H=au w*au h)(ua:au g<au w)(oq:au w<2*au g)
include lw w0 lh h0 aY ba cj gw e ua oq
theorem Td{sh:List Piece}(on:dJ sh 0 (au w) 0 (au h)):∃A E B P C M D:P3,b7 A 0 0/\b7 E (au g) 0/\b7 B (au w) 0/\b7 P (au g) (au H-au h)/\b7 C (au w) (au h)/\b7 M (au w-au g) (au h)/\b7 D 0 (au h) /\
  Lies (cL g true (cn (ln (bR w H)) (aX (bR w H)) sh)) [A,E,P,M,D]/\Lies (cL g false (cn (ln (bR w H)) (aX (bR w H)) sh)) [E,B,P]/\Lies (cn (fun c => -ln (bR w H) c) (aX (bR w H)) sh) [B,C,M]:=by
 obtain⟨ag,R,aj,r⟩:=on;have ay:=r.pts;have W:=eG w0 lw.1;have L:=eG h0 lh.1;have G:=eG ba aY.1;have ot:=eG gw cj.1;obtain⟨A,B,C,D,rfl,jE,k9,rk,l4⟩:=r;have mV:(bR w H).1≠0∨(bR w H).2.1≠0:=t4 lw w0 cj gw;have gU:b7 (cb w (0,1)) (au w) 0:=(fT lw.1 (by decide)).to rfl (hl _);obtain⟨z1,aQ⟩:=w4 aj mV gU.1 (n5 _ _) ag ay;have g6:au w*au H-au w*au h=au H*(au w-au g):=by grind
 have ph:0<ln (bR w H) A:=by
  obtain⟨k,cf,aT⟩:=mW lw cj jE;refine k5 cf aT ?_;have:=aax W ot;grind
 have Te:ln (bR w H) B=0:=by
  obtain⟨k,cf,aT⟩:=mW lw cj k9;exact w8 aT (by grind)
 have pG:ln (bR w H) C<0:=by
  obtain⟨k,cf,aT⟩:=mW lw cj rk;refine og cf aT ?_;have:=aax W L;grind
 have ub:0<ln (bR w H) D:=by
  obtain⟨k,cf,aT⟩:=mW lw cj l4;refine k5 cf aT ?_;have:=aax ot (show 0<au w-au g by grind);grind
 have kh:b7 (aX (bR w H) C D) (au w-au g) (au h):=Ig lw cj W ot rk l4 (abf pG ub) (by grind) (.inr ⟨rfl,rfl⟩);rw[S8 (f:=ln (bR w H)) ph Te pG ub]at z1;rw[S9 (f:=fun c => -ln (bR w H) c) (oo ph) (by show -ln (bR w H) B=0;omega) (rj pG) (oo ub)]at aQ;generalize aX (bR w H) C D=M at kh z1 aQ;obtain⟨dj,dY,gL⟩:=tI aY;obtain⟨bI,c9⟩:=w4 z1 dj dY gL (ag.cut (l:=bR w H)).1 (BO jE.1 k9.1 kh.1 l4.1);have pH:=tM aY jE (by grind);have xx:=BL aY k9 (by grind);have Ck:=tM aY kh (by grind);have pI:=tM aY l4 (by grind);have lg:=w9 aY jE k9 (aaj pH xx) (y:=0) (by grind);have lj:=w9 aY k9 kh (abf xx Ck) (y:=au H-au h) (by grind);rw[S' (f:=ln (dU g)) pH xx Ck pI]at bI;rw[Ta (f:=fun c => -ln (dU g) c) (oo pH) (rj xx) (oo Ck) (oo pI)]at c9;exact⟨A,_,B,_,C,M,D,jE,lg,k9,lj,rk,kh,l4,bI,c9,aQ⟩
theorem Tf{R:List P3}{A E P M D pJ ki:P3}(r:fA R 0 (au g) 0 (au H))(jE:b7 A 0 0)(lg:b7 E (au g) 0)(lj:b7 P (au g) (au H-au h))(kh:b7 M (au w-au g) (au h))(l4:b7 D 0 (au h))(rl:b7 pJ (au g) (au H))(l5:b7 ki 0 (au H))(φ:List (List Int)->Int):
  dc φ [A,E,P,M,D]+dc φ [D,M,ki]+dc φ [P,pJ,ki]=dc φ R:=by
 have W:=eG w0 lw.1;have L:=eG h0 lh.1;have G:=eG ba aY.1;have ot:=eG gw cj.1;have ay:=r.pts
 have ea:R=[A,E,pJ,ki]:=by
  obtain⟨a,b,c,d,rfl,Ih,Ii,Tg,Th⟩:=r;exact Hm (Ih.eq jE) (Ii.eq lg) (Tg.eq rl) (Th.eq l5)
 subst ea
 have gl:0<au g*(au H-au h):=by
  have:=aax (show 0<au w-au g by grind) L;grind
 have Ti:au h<au H:=by
  apply aaU;intro z;have z:=Rat.not_lt.mp z;have:=adT z (aaX G);grind
 have a3:au H<2*au h:=by
  apply aaU;intro z;have z:=Rat.not_lt.mp z;have a:=adT z (aaX G);have b:=acA oq L;grind
 have mV:(bR w H).1≠0∨(bR w H).2.1≠0:=t4 lw w0 cj gw;have gU:b7 (cb w (0,1)) (au w) 0:=(fT lw.1 (by decide)).to rfl (hl _);have s1:=wV φ mV gU.1 (n5 _ _) ay
 have ph:0<ln (bR w H) A:=by
  obtain⟨k,cf,aT⟩:=mW lw cj jE;refine k5 cf aT ?_;have:=aax W ot;grind
 have Cm:0<ln (bR w H) E:=by
  obtain⟨k,cf,aT⟩:=mW lw cj lg;refine k5 cf aT ?_;have:=aax ot (show 0<au w-au g by grind);grind
 have pG:ln (bR w H) pJ<0:=by
  obtain⟨k,cf,aT⟩:=mW lw cj rl;refine og cf aT ?_;have:=aax ot G;grind
 have ub:ln (bR w H) ki=0:=by
  obtain⟨k,cf,aT⟩:=mW lw cj l5;exact w8 aT (by grind)
 have Tj:b7 (aX (bR w H) E pJ) (au g) (au H-au h):=Ig lw cj W ot lg rl (aaj Cm pG) (by grind) (.inl ⟨rfl,rfl⟩);rw[R4 (f:=ln (bR w H)) ph Cm pG ub,R3 (f:=fun c => -ln (bR w H) c) (oo ph) (oo Cm) (rj pG) (by show -ln (bR w H) ki=0;omega),Tj.eq lj]at s1;obtain⟨dj,dY,gL⟩:=tJ lh;have s2:=wV φ dj dY gL (BO jE.1 lg.1 lj.1 l5.1);have pH:=tN lh jE L;have Ij:=tN lh lg L;have Cn:=tN lh lj (by grind);have pI:=BM lh l5 Ti;have Tn:=w' lh lj l5 (abf Cn pI) (x:=au w-au g) (by grind);have To:=w' lh l5 jE (aaj pI pH) (x:=0) (by grind);rw[Tb (f:=ln (dV h)) pH Ij Cn pI,Tc (f:=fun c => -ln (dV h) c) (rj pH) (rj Ij) (rj Cn) (oo pI),Tn.eq kh,To.eq l4]at s2;have t:=BE φ D [M,ki];have t':dc φ [M,ki,D]=dc φ [D,M,ki]:=t;rw[t']at s2;rw[<-s1,<-s2];grind
end
section
variable{w h g:bx}(lw:aO w.1 w.2)(w0:0<w.1)(lh:aO h.1 h.2)(h0:0<h.1)(aY:aO g.1 g.2)(ba:0<g.1)
include lw w0 lh h0 aY ba
theorem xy:aO (e3 w h g).1 (e3 w h g).2/\0<(e3 w h g).1/\au g*au (e3 w h g)=au w*au h:=by
 obtain⟨a,_,_,d⟩:=t7 lw w0 lh h0 aY ba (adh _ (intBits w.2)) (adi (intBits w.1) _) (adh _ (intBits h.2)) (adi (intBits h.1) _) (adh _ (intBits g.2)) (adi (intBits g.1) _);refine⟨a,xm lw w0 lh h0 aY ba rfl,?_⟩;have:=eG ba aY.1;rw[d];grind
theorem Tp(ua:au g<au w)(oq:au w<2*au g){sh:List Piece}(on:dJ sh 0 (au w) 0 (au h)):dJ (mS w h g sh) 0 (au g) 0 (au (e3 w h g)):=by
 obtain⟨cj,gw,e⟩:=xy lw w0 lh h0 aY ba;unfold mS;generalize e3 w h g=H at cj gw e ⊢;obtain⟨A,E,B,P,C,M,D,jE,lg,k9,lj,rk,kh,l4,bI,c9,aQ⟩:=Td lw w0 lh h0 aY ba cj gw e ua oq on;obtain⟨R,r⟩:=Cj 0 (au g) 0 (au H);obtain⟨eI,b',pJ,ki,Ik,Ih,Ii,rl,l5⟩:=id r;obtain⟨cQ,c5⟩:=on.1.cut (l:=bR w H);have bY:=cQ.cL (b:=true) aY;have ck:=cQ.cL (b:=false) aY
 have dn:au (-g.1,g.2) = -au g:=by
  unfold au;show((-g.1:Int):Rat)/_=_
  rw[acB];grind
 have s1:b7 (cb (-g.1,g.2) h) (-au g) (au h):=(fT (w:=(-g.1,g.2)) aY.1 lh.1).to dn rfl;obtain⟨rd,q8⟩:=mU (a:=g) (b:=w) aY.1 lw.1;obtain⟨rf,oh⟩:=mU (a:=H) (b:=h) cj.1 lh.1;have s2:b7 (cb (fe g w) (fe H h)) (au g-au w) (au H-au h):=(fT rd.1 rf.1).to q8 oh;have bz:=c9.slid s1.1 ck (Hn lg.1 k9.1 lj.1);have e':=aQ.slid s2.1 c5 (Hn k9.1 rk.1 kh.1);have av:acC (fun p=>nP (sld (cb (-g.1,g.2) h) p)) [E,B,P]=[D,M,ki]:=Hl (((j9 s1 lg).to (by grind) (by grind)).eq l4) (((j9 s1 k9).to (by grind) (by grind)).eq kh) (((j9 s1 lj).to (by grind) (by grind)).eq l5);have bG:acC (fun p=>nP (sld (cb (fe g w) (fe H h)) p)) [B,C,M]=[P,pJ,ki]:=Hl (((j9 s2 k9).to (by grind) (by grind)).eq lj) (((j9 s2 rk).to (by grind) (by grind)).eq rl) (((j9 s2 kh).to (by grind) (by grind)).eq l5);rw[av]at bz;rw[bG]at e';refine⟨(bY.app (ck.slid s1)).app (c5.slid s2),R,fun φ=>?_,r⟩;have t:=Tf lw w0 lh h0 aY ba cj gw e ua oq r jE lg lj kh l4 rl l5 φ;rw[Z7,Z7,pz,pz,bI φ,bz φ,e' φ,gV,gV,gV,gV,t]
theorem Il(ua:au g<=au w)(oq:au w<2*au g){sh:List Piece}(on:dJ sh 0 (au w) 0 (au h)):dJ (lastB g (w,h,sh)).2.2 0 (au g) 0 (au (lastB g (w,h,sh)).2.1)/\0<(lastB g (w,h,sh)).2.1.2/\0<au (lastB g (w,h,sh)).2.1:=by
 obtain⟨cj,gw,e⟩:=xy lw w0 lh h0 aY ba;unfold lastB;by_cases c:w=g
 ·rw[if_pos c];subst c;exact⟨on,lh.1,eG h0 lh.1⟩
 ·rw[if_neg c];have:au w≠au g:=fun z=>c (xn lw aY z);exact⟨Tp lw w0 lh h0 aY ba (by grind) oq on,cj.1,eG gw cj.1⟩
end
def xA(c:Bool)(S:List Piece)(ke dj v0 v1:Rat):Prop:=if c=true then dJ S v0 v1 ke dj else dJ S ke dj v0 v1
theorem Im{c:Bool}{w:bx}(lw:aO w.1 w.2)(w0:0<w.1){v0 v1 U:Rat}{sh:List Piece}{m:Nat}(bw:1<=m)(rm:m<=8)(on:xA c sh 0 U v0 v1)(nV:au w*((m-1:Nat):Rat)<U){k:Nat}{S:List Piece}(c7:(ef c w sh m)[k]?=some S):xA c S 0 (if k+1=m then U-au w*((m-1:Nat):Rat)else au w) v0 v1:=by
 unfold ef at c7;rw[B8,aa2]at c7
 obtain⟨T,eb,rfl⟩:∃T,(fJ c w 3 sh 0 m)[k]?=some T/\T.map (ej (jD c w k))=S:=by
  cases q:(fJ c w 3 sh 0 m)[k]? with
  | none=>rw[q]at c7;cases c7
  | some T=>rw[q]at c7;cases c7;exact⟨T,rfl,rfl⟩
 have ag:eH sh/\∃R,Lies sh R/\mR c R 0 U v0 v1:=by
  unfold xA at on;unfold mR;cases c with
  | true=>simp only[if_true]at on ⊢;exact on
  | false=>simp only[aaS,if_false]at on ⊢;exact on
 obtain⟨ag,R,aj,r⟩:=ag
 have z0:au w*((0:Nat):Rat)=0:=by
  have:((0:Nat):Rat)=0:=rfl;rw[this];grind
 obtain⟨lK,Q,Io,rn⟩:=B6 (c:=c) w0 lw.1 (v0:=v0) (v1:=v1) (U:=U) 3 (a:=0) (b:=m) (by omega) (by omega) ag aj (by rw[z0];exact r) nV k T eb;rw[aa2]at rn;have d8:=gu (w:=w) lw.1 (-(k:Int));have nY:((-(k:Int):Int):Rat) = -(k:Rat):=by rw[acB];rfl
 have ew:∀x:Rat,x=(if k+1=m then U else au w*((k+1:Nat):Rat))->x + -(au w*(k:Rat))=if k+1=m then U-au w*((m-1:Nat):Rat)else au w:=by
  intro x aB;rw[aB];by_cases z:k+1=m
  ·rw[if_pos z,if_pos z,<-z,show k+1-1=k by omega];grind
  ·rw[if_neg z,if_neg z,ri];grind
 unfold xA;unfold mR at rn;unfold jD;cases c with
 | true =>
  simp only[if_true]at rn ⊢;have s:b7 (cb (0,1) (cJ w (-(k:Int)))) 0 (-(au w*(k:Rat))):=(fT (w:=(0,1)) (by decide) d8.1.1).to (hl _) (by rw[d8.2,nY];grind);have o:dJ T v0 v1 (au w*(k:Rat)) (if k+1=m then U else au w*((k+1:Nat):Rat)):=⟨lK,Q,Io,rn⟩;exact(o.slid s).to (by grind) (by grind) (by grind) (ew _ rfl)
 | false =>
  simp only[aaS,if_false]at rn ⊢;have s:b7 (cb (cJ w (-(k:Int))) (0,1)) (-(au w*(k:Rat))) 0:=(fT (h:=(0,1)) d8.1.1 (by decide)).to (by rw[d8.2,nY];grind) (hl _);have o:dJ T (au w*(k:Rat)) (if k+1=m then U else au w*((k+1:Nat):Rat)) v0 v1:=⟨lK,Q,Io,rn⟩;exact(o.slid s).to (by grind) (ew _ rfl) (by grind) (by grind)
section
variable{w h g:bx}(lw:aO w.1 w.2)(w0:0<w.1)(lh:aO h.1 h.2)(h0:0<h.1)(aY:aO g.1 g.2)(ba:0<g.1)(aG:intBits w.1<=30)(aJ:intBits w.2<=30)(bZ:intBits h.1<=60)(bQ:intBits h.2<=60)(b4:intBits g.1<=30)(b5:intBits g.2<=30)
include lw w0 lh h0 aY ba aG aJ bZ bQ b4 b5
theorem Tq{sh:List Piece}(ar:w.1*g.2<=8*(g.1*w.2))(aF:g.1*w.2<=8*(w.1*g.2))(on:dJ sh 0 (au w) 0 (au h)):dJ (el (eg w h g sh) (0,1)) 0 (au g) 0 (au (dh (eg w h g sh) (0,1))):=by
 have eF:aO 0 1:=⟨by decide,by decide⟩;have z0:au (0,1)=0:=hl _;have W:=eG w0 lw.1;have L:=eG h0 lh.1;have G:=eG ba aY.1
 have key:∀b bs,eg w h g sh=b::bs->(∀x∈b::bs,dJ x.2.2 0 (au g) 0 (au x.2.1)/\0<x.2.1.2/\0<au x.2.1)->dJ (el (eg w h g sh) (0,1)) 0 (au g) 0 (au (dh (eg w h g sh) (0,1))):=fun b bs e aB=>by
  rw[e];exact(Ie eF aB).1.to rfl rfl z0 rfl
 by_cases c:w.1*g.2<g.1*w.2
 ·obtain⟨_,cu,eT,f1,f2⟩:=xo lw w0 aY ba c aF;obtain⟨eU,hD,bt,bz,gX,iM,mE,bw,b8,kg⟩:=t8 lw w0 lh h0 aG aJ bZ bQ cu eT;have xr:(0:Rat)<(di w g:Rat):=by exact_mod_cast (show 0<di w g by omega)
  have ZR:(1:Rat)<=(di w g:Rat):=by exact_mod_cast cu
  have uc:((di w g-1:Nat):Rat)=(di w g:Rat)-1:=by
   have:=ri (di w g-1);rw[show di w g-1+1=di w g by omega]at this;grind
  have eW:au (fo h (di w g))*(di w g:Rat)=au h:=by rw[gX];grind
  have ZS:=eG hD eU.1
  have cd:∀T∈ef true (fo h (di w g)) sh (di w g),dJ T 0 (au w) 0 (au (fo h (di w g))):=fun T eb=>by
   obtain⟨k,ah⟩:=abl eb;have q:=Im (c:=true) eU hD (v0:=0) (v1:=au w) (U:=au h) cu eT (by show dJ sh 0 (au w) 0 (au h);exact on) (by rw[uc];grind) ah;have hF:dJ T 0 (au w) 0 (if k+1=di w g then au h-au (fo h (di w g))*((di w g-1:Nat):Rat)else au (fo h (di w g))):=q;refine hF.to rfl rfl rfl ?_;by_cases z:k+1=di w g
   ·rw[if_pos z,uc];grind
   ·rw[if_neg z]
  have cl:=oj (c:=true) (w:=fo h (di w g)) (sh:=sh) cu eT
  have lay:dJ (layB w h g sh).2.2 0 (au (cJ w (di w g:Int))) 0 (au (fo h (di w g))):=by
   show dJ (fK w 0 (ef true (fo h (di w g)) sh (di w g))) _ _ _ _
   generalize ef true (fo h (di w g)) sh (di w g)=Co at cd cl
   match Co,cd,cl with
   | [],_,cl=>simp at cl;omega
   | T::r,cd,cl =>
    have q:=Ic lw w0 (i:=0) cd;refine q.to ?_ ?_ rfl rfl
    ·have:((0:Nat):Rat)=0:=rfl;rw[this];grind
    ·rw[kg,<-cl,Z8,aa2]
  have m0:au (cJ w (di w g:Int))<2*au g:=by
   have oq:au w<au g:=by
    have a1:(0:Rat)<w.2:=by exact_mod_cast lw.1
    have a2:(0:Rat)<g.2:=by exact_mod_cast aY.1
    have cQ:=dI lw.1;have c5:=dI aY.1;have d0:(w.1:Rat)*g.2<(g.1:Rat)*w.2:=by exact_mod_cast c
    unfold au;refine(adb a1).mpr ?_;have u:(g.1:Rat)/g.2*w.2=g.1*w.2/g.2:=by grind
    rw[u];refine(Rat.lt_div_iff a2).mpr ?_;exact d0
   rw[kg];grind
  have q:=Il iM mE eU hD aY ba (by rw[kg];grind) m0 lay;refine key _ _ (xp c) fun x aB=>?_;rw[aac.mp aB];exact q
 ·have aa:g.1*w.2<=w.1*g.2:=by omega
  obtain⟨_,cu,eT,f1,f2⟩:=t5 lw w0 aY ba aa ar;obtain⟨eU,hD,bt,bz,gX⟩:=xq lw w0 aY ba aG aJ b4 b5 aa ar
  have uc:((dy w g-1:Nat):Rat)=(dy w g:Rat)-1:=by
   have:=ri (dy w g-1);rw[show dy w g-1+1=dy w g by omega]at this;grind
  have cl:=oj (c:=false) (w:=g) (sh:=sh) cu eT
  obtain⟨Ss,Z,ho⟩:∃Ss Z,ef false g sh (dy w g)=Ss++[Z]:=by
   rcases ab5 (ef false g sh (dy w g))with z|⟨Ss,Z,z⟩
   ·rw[z]at cl;simp at cl;omega
   ·exact⟨Ss,Z,by rw[z,ab6]⟩
  rw[ho,ZM,aaQ]at cl
  have cd:∀(k:Nat)(T:List Piece),(Ss++[Z])[k]?=some T->dJ T 0 (if k+1=dy w g then au w-au g*((dy w g-1:Nat):Rat)else au g) 0 (au h):=fun k T ah=>by
   rw[<-ho]at ah;exact Im (c:=false) aY ba (v0:=0) (v1:=au h) (U:=au w) cu eT (by show dJ sh 0 (au w) 0 (au h);exact on) (by rw[uc];grind) ah
  have Tr:dJ Z 0 (au (h1 w g (dy w g))) 0 (au h):=by
   have:=cd Ss.length Z (by simp);rw[if_pos cl,uc]at this;exact this.to rfl gX.symm rfl rfl
  have q:=Il eU hD lh h0 aY ba (by rw[gX];grind) (by rw[gX];rw[ri]at f2;grind) Tr
  have all:∀x∈eg w h g sh,dJ x.2.2 0 (au g) 0 (au x.2.1)/\0<x.2.1.2/\0<au x.2.1:=by
   rw[t6 c ho];intro x aB;rcases aae.mp aB with aB|aB
   ·obtain⟨S,c7,rfl⟩:=Z9.mp aB;obtain⟨k,ah⟩:=abl c7;have Ts:=(abD.mp ah).1;have:=cd k S (by rw[aaM Ts];exact ah);rw[if_neg (by omega)]at this;exact⟨this,lh.1,L⟩
   ·rw[aac.mp aB];exact q
  match hw:eg w h g sh with
  | [] =>
   rw[t6 c ho]at hw;exact absurd hw (by simp)
  | b::bs =>
   rw[<-hw];exact key b bs hw (by rw[<-hw];exact all)
end
end Cut
namespace Cut
open PySem L2 L3
def dX(L:List Piece):Prop:=∀s∈L,aR s.2.2/\∀p∈s.1,aR p
theorem dX.pts{L:List Piece}(h:dX L):eH L:=fun s aq=>(h s aq).2
theorem dX.app{L M:List Piece}(h:dX L)(g:dX M):dX (L++M):=fun s aq=>(aae.mp aq).elim (h s) (g s)
theorem dX.cut{sh:List Piece}{l:P3}(h:dX sh):dX (cn (ln l) (aX l) sh)/\dX (cn (fun c => -ln l c) (aX l) sh):=by
 obtain⟨a,b⟩:=h.pts.cut (l:=l)
 have st:∀(f:P3->Int)(s:Piece),s∈cn f (aX l) sh->aR s.2.2:=fun f s aq=>by
  obtain⟨t,bB,rfl,c⟩:=tk aq;exact(h t bB).1
 exact⟨fun s aq=>⟨st _ s aq,a s aq⟩,fun s aq=>⟨st _ s aq,b s aq⟩⟩
theorem dX.slid{sh:List Piece}{g:P3}{u v:Rat}(aC:b7 g u v)(h:dX sh):dX (sh.map (ej g)):=by
 intro s aq;refine⟨?_,h.pts.slid aC s aq⟩;obtain⟨r,ak,rfl⟩:=Z9.mp aq;exact(j9 aC ⟨(h r ak).1,rfl,rfl⟩).1
theorem dX.cL{sh:List Piece}{X:bx}(c:Bool)(h:dX sh):dX (cL X c sh):=by
 unfold Cut.cL;cases c with
 | true=>exact(h.cut (l:=dU X)).1
 | false=>exact(h.cut (l:=dU X)).2
theorem dX.cV{sh:List Piece}{X:bx}(c:Bool)(h:dX sh):dX (cV X c sh):=by
 unfold Cut.cV;cases c with
 | true=>exact(h.cut (l:=dV X)).1
 | false=>exact(h.cut (l:=dV X)).2
theorem dX.low{sh:List Piece}{X:bx}{c:Bool}(h:dX sh):dX (lowC c X sh)/\dX (highC c X sh):=by
 unfold lowC highC;cases c with
 | true=>rw[if_pos rfl,if_pos rfl];exact⟨h.cV _,h.cV _⟩
 | false=>rw[if_neg (by decide),if_neg (by decide)];exact⟨h.cL _,h.cL _⟩
theorem Tt(φ:List (List Int)->Int)(b:Bool){sh:List Piece}{X:bx}{c:Bool}(l:aO X.1 X.2)(h:dX sh):dx φ b (lowC c X sh)+dx φ b (highC c X sh)=dx φ b sh:=by
 unfold lowC highC;cases c with
 | true=>rw[if_pos rfl,if_pos rfl];exact R0 φ b false l h
 | false=>rw[if_neg (by decide),if_neg (by decide)];exact Hf φ b true l h
def h2(φ:List (List Int)->Int)(b:Bool)(Ss:List (List Piece)):Rat:=(Ss.map (dx φ b)).sum
theorem pK(φ:List (List Int)->Int)(b:Bool)(S:List Piece)(Ss:List (List Piece)):h2 φ b (S::Ss)=dx φ b S+h2 φ b Ss:=by unfold h2;rw[aaa,aaK]
theorem xB(φ:List (List Int)->Int)(b:Bool):∀(A B:List (List Piece)),h2 φ b (A++B)=h2 φ b A+h2 φ b B
 | [],B=>by show _=(0:Rat)+_;rw[aaz];grind
 | S::A,B=>by rw[aaL,pK,pK,xB φ b A B];grind
theorem ud(φ:List (List Int)->Int)(b:Bool)(S:List Piece):h2 φ b [S]=dx φ b S:=by rw[pK];show _+(0:Rat)=_;grind
theorem Cp(φ:List (List Int)->Int)(b:Bool){c:Bool}{w:bx}(cZ:0<w.2):∀(n:Nat){sh:List Piece}{x y:Nat},dX sh->h2 φ b (fJ c w n sh x y)=dx φ b sh/\∀S∈fJ c w n sh x y,dX S
 | 0,sh,x,y,h=>⟨ud φ b sh,fun S c7=>by rw[aac.mp c7];exact h⟩
 | n+1,sh,x,y,h=>by
  rw[fJ];by_cases z:y-x=1
  ·rw[if_pos z];exact⟨ud φ b sh,fun S c7=>by rw[aac.mp c7];exact h⟩
  ·rw[if_neg z];obtain⟨l,_⟩:=gu (w:=w) cZ (((x+y)/2:Nat):Int);obtain⟨p,q⟩:=h.low (X:=cJ w (((x+y)/2:Nat):Int)) (c:=c);obtain⟨a1,a2⟩:=Cp φ b (c:=c) cZ n (x:=x) (y:=(x+y)/2) p;obtain⟨a9,bf⟩:=Cp φ b (c:=c) cZ n (x:=(x+y)/2) (y:=y) q;refine⟨?_,fun S c7=>(aae.mp c7).elim (a2 S) (bf S)⟩;rw[xB,a1,a9];exact Tt φ b l h
theorem Cq(φ:List (List Int)->Int)(b:Bool){f:Nat->P3}(hf:∀k,∃u v,b7 (f k) u v):∀{Ss:List (List Piece)}{i:Nat},(∀S∈Ss,dX S)->h2 φ b (fc (fun k S=>S.map (ej (f k))) i Ss)=h2 φ b Ss/\∀S∈fc (fun k S=>S.map (ej (f k))) i Ss,dX S
 | [],i,_=>⟨rfl,fun S c7=>absurd c7 abz⟩
 | S::Ss,i,h=>by
  obtain⟨u,v,aC⟩:=hf i;have bY:=h S ZJ;obtain⟨a,c⟩:=Cq φ b hf (Ss:=Ss) (i:=i+1) fun T eb=>h T (ZL _ eb);rw[fc,pK,pK,a,tH φ b aC.1 bY];exact⟨rfl,fun T eb=>(Z6.mp eb).elim (fun e=>by rw[e];exact bY.slid aC) (c T)⟩
theorem Tu{c:Bool}{w:bx}(cZ:0<w.2)(k:Nat):∃u v,b7 (jD c w k) u v:=by
 obtain⟨l,_⟩:=gu (w:=w) cZ (-(k:Int));unfold jD;cases c with
 | true=>rw[if_pos rfl];exact⟨_,_,fT (w:=(0,1)) (by decide) l.1⟩
 | false=>rw[if_neg (by decide)];exact⟨_,_,fT (h:=(0,1)) l.1 (by decide)⟩
theorem Ip(φ:List (List Int)->Int)(b:Bool){c:Bool}{w:bx}(cZ:0<w.2){sh:List Piece}{m:Nat}(h:dX sh):h2 φ b (ef c w sh m)=dx φ b sh/\∀S∈ef c w sh m,dX S:=by
 obtain⟨a1,a2⟩:=Cp φ b (c:=c) cZ 3 (x:=0) (y:=m) h;obtain⟨a9,bf⟩:=Cq φ b (f:=fun k=>jD c w k) (fun k=>Tu cZ k) (i:=0) a2;exact⟨a9.trans a1,bf⟩
theorem Iq(φ:List (List Int)->Int)(b:Bool):∀{Ss:List (List Piece)},(∀S∈Ss,dX S)->dx φ b Ss.flatten=h2 φ b Ss/\dX Ss.flatten
 | [],_=>⟨rfl,fun s aq=>absurd aq abz⟩
 | S::Ss,h=>by
  obtain⟨a,c⟩:=Iq φ b (Ss:=Ss) fun T eb=>h T (ZL _ eb);rw[ab1,pA,pK,a];exact⟨rfl,(h S ZJ).app c⟩
theorem Tv(φ:List (List Int)->Int)(b:Bool){w:bx}(cZ:0<w.2){Ss:List (List Piece)}(h:∀S∈Ss,dX S):dx φ b (fK w 0 Ss)=h2 φ b Ss/\dX (fK w 0 Ss):=by
 obtain⟨a9,bf⟩:=Cq φ b (f:=fun k=>cb (cJ w (k:Int)) (0,1)) (fun k=>⟨_,_,fT (h:=(0,1)) (gu (w:=w) cZ (k:Int)).1.1 (by decide)⟩) (i:=0) h;obtain⟨aG,aJ⟩:=Iq φ b bf;exact⟨aG.trans a9,aJ⟩
theorem Cr(φ:List (List Int)->Int)(b:Bool):∀{bs:List BoxD}{H:bx},0<H.2->(∀x∈bs,dX x.2.2/\0<x.2.1.2)->dx φ b (el bs H)=h2 φ b (bs.map fun x=>x.2.2)/\dX (el bs H)
 | [],H,_,_=>⟨rfl,fun s aq=>absurd aq abz⟩
 | x::bs,H,l,h=>by
  obtain⟨aa,ab⟩:=h x ZJ;have aC:=fT (w:=(0,1)) (h:=H) (by decide) l;obtain⟨a,c⟩:=Cr φ b (bs:=bs) (H:=ij H x.2.1) (q9 l ab).1 fun y a5=>h y (ZL _ a5);rw[el,pA,tH φ b aC.1 aa,a,aaa,pK];exact⟨rfl,(aa.slid aC).app c⟩
section
variable{w h g:bx}(lw:aO w.1 w.2)(w0:0<w.1)(lh:aO h.1 h.2)(h0:0<h.1)(aY:aO g.1 g.2)(ba:0<g.1)
include lw w0 lh h0 aY ba
theorem Ir(φ:List (List Int)->Int)(b:Bool){sh:List Piece}(aq:dX sh):dx φ b (lastB g (w,h,sh)).2.2=dx φ b sh/\dX (lastB g (w,h,sh)).2.2/\0<(lastB g (w,h,sh)).2.1.2:=by
 obtain⟨cj,gw,e⟩:=xy lw w0 lh h0 aY ba;unfold lastB;by_cases c:w=g
 ·rw[if_pos c];exact⟨rfl,aq,lh.1⟩
 ·rw[if_neg c];refine⟨?_,?_,cj.1⟩
  all_goals
   show _
   dsimp only;unfold mS
  all_goals
   generalize e3 w h g=H at cj gw e ⊢;obtain⟨cQ,c5⟩:=aq.cut (l:=bR w H);have bY:=cQ.cL (X:=g) true;have ck:=cQ.cL (X:=g) false;have s1:=fT (w:=(-g.1,g.2)) (h:=h) aY.1 lh.1;have s2:=fT (w:=fe g w) (h:=fe H h) (mU (a:=g) (b:=w) aY.1 lw.1).1.1 (mU (a:=H) (b:=h) cj.1 lh.1).1.1
  ·have hb:dx φ b (cL g true (cn (ln (bR w H)) (aX (bR w H)) sh))+dx φ b (cL g false (cn (ln (bR w H)) (aX (bR w H)) sh))=dx φ b (cn (ln (bR w H)) (aX (bR w H)) sh):=Hf φ b true aY cQ;rw[pA,pA,tH φ b s1.1 ck,tH φ b s2.1 c5,hb];exact w6 φ b (t4 lw w0 cj gw) (fT (w:=w) (h:=(0,1)) lw.1 (by decide)).1 (n5 _ _) aq
  ·exact(bY.app (ck.slid s1)).app (c5.slid s2)
end
section
open PySem.Builtin.Int (intBits)
variable{w h g:bx}(lw:aO w.1 w.2)(w0:0<w.1)(lh:aO h.1 h.2)(h0:0<h.1)(aY:aO g.1 g.2)(ba:0<g.1)(aG:intBits w.1<=30)(aJ:intBits w.2<=30)(bZ:intBits h.1<=60)(bQ:intBits h.2<=60)(b4:intBits g.1<=30)(b5:intBits g.2<=30)
include lw w0 lh h0 aY ba aG aJ bZ bQ b4 b5
theorem Tw{sh:List Piece}(ar:w.1*g.2<=8*(g.1*w.2))(aF:g.1*w.2<=8*(w.1*g.2))(aq:dX sh)(φ:List (List Int)->Int)(b:Bool):dx φ b (el (eg w h g sh) (0,1))=dx φ b sh:=by
 by_cases c:w.1*g.2<g.1*w.2
 ·obtain⟨_,cu,eT,f1,f2⟩:=xo lw w0 aY ba c aF;obtain⟨eU,hD,bt,bz,gX,iM,mE,bw,b8,kg⟩:=t8 lw w0 lh h0 aG aJ bZ bQ cu eT;obtain⟨a1,a2⟩:=Ip φ b (c:=true) (w:=fo h (di w g)) (m:=di w g) eU.1 aq;obtain⟨a9,bf⟩:=Tv φ b (w:=w) lw.1 a2;obtain⟨bL,b1,g4⟩:=Ir iM mE eU hD aY ba φ b bf;rw[xp c]
  obtain⟨ai,av⟩:=Cr φ b (bs:=[lastB g (layB w h g sh)]) (H:=(0,1)) (by decide) fun x aB=>by
   rw[aac.mp aB];exact⟨b1,g4⟩
  rw[ai];show h2 φ b [(lastB g (layB w h g sh)).2.2]=_
  rw[ud];exact bL.trans (a9.trans a1)
 ·have aa:g.1*w.2<=w.1*g.2:=by omega
  obtain⟨_,cu,eT,f1,f2⟩:=t5 lw w0 aY ba aa ar;obtain⟨eU,hD,bt,bz,gX⟩:=xq lw w0 aY ba aG aJ b4 b5 aa ar;have cl:=oj (c:=false) (w:=g) (sh:=sh) cu eT
  obtain⟨Ss,Z,ho⟩:∃Ss Z,ef false g sh (dy w g)=Ss++[Z]:=by
   rcases ab5 (ef false g sh (dy w g))with z|⟨Ss,Z,z⟩
   ·rw[z]at cl;simp at cl;omega
   ·exact⟨Ss,Z,by rw[z,ab6]⟩
  obtain⟨a1,a2⟩:=Ip φ b (c:=false) (w:=g) (m:=dy w g) aY.1 aq;rw[ho]at a1 a2;obtain⟨bL,b1,g4⟩:=Ir eU hD lh h0 aY ba φ b (a2 Z (by simp));rw[t6 c ho]
  obtain⟨ai,av⟩:=Cr φ b (bs:=Ss.map (fun S=>((g,h,S):BoxD))++[lastB g (h1 w g (dy w g),h,Z)]) (H:=(0,1)) (by decide) fun x aB=>by
   rcases aae.mp aB with aB|aB
   ·obtain⟨S,c7,rfl⟩:=Z9.mp aB;exact⟨a2 S (abj _ c7),lh.1⟩
   ·rw[aac.mp aB];exact⟨b1,g4⟩
  rw[ai,Z7,aap,xB]
  have em:Ss.map ((fun x:BoxD=>x.2.2)∘fun S=>((g,h,S):BoxD))=Ss:=by
   have:((fun x:BoxD=>x.2.2)∘fun S=>((g,h,S):BoxD))=id:=rfl;rw[this,List.map_id]
  rw[em];show h2 φ b Ss+h2 φ b [(lastB g (h1 w g (dy w g),h,Z)).2.2]=_
  rw[ud,bL,<-a1,xB,ud]
end
end Cut
namespace L3
open PySem L2
section
variable{K:PySem.W.Frag}{X:aM}{i:Nat}{rest:List Stmt}
def Tx(i j:Nat)(xC:cI):fW->List aH->D->List aH->Prop:=fun U ρ d _=>(j<ρ.length/\∃dM pL ps,d=.tup [dM,pL,.lst ps]/\∀q∈ps,Am q)/\xC U ((ρ.set i .no).set j .no)
theorem Tz{j:Nat}{x y:Str}{px py ue pc ps apos cW It pB Cs xh:Pos}{cf ck:Nat}{xC:cI}(mf:i≠j)(bD:X.N.Nodup)(aD:X.N[i]?=some x)(bP:X.N[j]?=some y)(aB:gb X.env.scope x)(a5:Loc X.env.scope y)(TA:gb X.env.scope y)(ag:PassesOwn (model X.prog X.w) X.A X.env X.xe)(hc:X.calm=true)(ak:fX X rest xC)(TB:X.fn y=true∨X.env.scope.names.lookup y=some .local:=by first|exact .inl rfl|exact .inr rfl|assumption)(TC:(x==("__debug__":Str))=false:=by decide)(TF:(x==("__classdict__":Str))=false:=by decide)(TG:(y==("__debug__":Str))=false:=by decide)(TH:(y==("__classdict__":Str))=false:=by decide)(aq:∀v,foldedSetIterable (.Subscript (.Name x px) (.Constant (.int 2) ck Cs) xh) X.env v=pure v:=by intro _;rfl)(pM:attributeBase (.Subscript (.Name y ue) (.Constant (.int 0) cf pc) ps) "clear" X.env (eval (.Subscript (.Name y ue) (.Constant (.int 0) cf pc) ps) X.env)=eval (.Subscript (.Name y ue) (.Constant (.int 0) cf pc) ps) X.env:=by rfl)(kj:(apos.endLine==cW.line)=true:=by rfl)(TJ:swapsWith (.Call (.Attribute (.Subscript (.Name y ue) (.Constant (.int 0) cf pc) ps) "clear" apos) [] [] cW) none It.line X.env=pure false:=by rfl)(TK:qf (.Constant (.int 2) ck Cs):=by exact fun _ _=>rfl)(eK:qf (.Constant (.int 0) cf pc):=by exact fun _ _=>rfl):
  vI X [i,j] i (.For (.Name y py) (.Subscript (.Name x px) (.Constant (.int 2) ck Cs) xh) [.Expr (.Call (.Attribute (.Subscript (.Name y ue) (.Constant (.int 0) cf pc) ps) "clear" apos) [] [] cW) It] [] pB::rest) (Tx i j xC):=by
 obtain⟨_,aL,fP⟩:=ak;refine⟨_,km (rN ag hc (y3 (jP mq (hG aD aB TC TF) et TK)) (uM bD bP a5 TB) (m8 (rH (DS abM PySem.F.slot_list_clear PySem.F.type_list_clear L1 (jP mq (hG bP TA TG TH) et eK) pM kj) TJ)) aq) aL,fun U ρ d kP h R W B H σ E e dw kQ nQ iF v hM aP Ct TL aj=>?_⟩;obtain⟨⟨TM,dM,pL,ps,rfl,TN⟩,h⟩:=h;obtain⟨fm,TO,rfl,j2,pN⟩:=Ct.tup_of
 obtain⟨v1,v2,ae,rfl,Ct⟩:∃v1 v2 ae,TO=[v1,v2,ae]/\Rep X.K (d4 H kQ) ae (.lst ps):=by
  cases pN with
  | cons ar pN =>
   cases pN with
   | cons aF pN =>
    cases pN with
    | cons fP pN =>
     cases pN;exact⟨_,_,_,rfl,fP⟩
 obtain⟨a,vs,rfl,ax,rs⟩:=Ct.lst_of;obtain⟨m0,TP⟩:=nR.start e hM;obtain⟨TQ,ZT⟩:=r2 ax;have Iu:=hM.bh a _ TQ;refine⟨.ref fm,aP,fm,_,2,.ref a,rfl,rfl,.inl (m0.tp fm _ j2),Sw,a,rfl,⟨vs,cw.of Iu⟩,?_⟩;refine⟨fun n m a6 H'=>m=ps.length-n/\n<=ps.length/\(∀q,q≠j->a6[q]?=iF[q]?)/\a6.length=iF.length/\H' a=some (.lst vs)/\nR X.K W σ ρ H (d4 H kQ) H',⟨ps.length,rfl,aaE _,fun _ _=>rfl,rfl,Iu,m0⟩,?_⟩;rintro n m a6 H' ⟨rfl,aN,lX,hlen,hr,hm⟩;by_cases cE:n<ps.length
 ·refine .inr ⟨?_,fun qt Iv=>∃m',m'<ps.length-n/\(m'=ps.length-(n+1)/\n+1<=ps.length/\(∀q,q≠j->qt[q]?=iF[q]?)/\qt.length=iF.length/\Iv a=some (.lst vs)/\nR X.K W σ ρ H (d4 H kQ) Iv),fun _ _ z=>z,?_⟩
  ·obtain⟨x0,kc,_⟩:=rs.get (aan cE);exact⟨vs,x0,cw.of hr,kc⟩
  ·rintro x0 H1 ⟨rfl,kc⟩;have kc:=kc vs (cw.of hr);obtain⟨gI,TR,bc⟩:=rs.getV kc;obtain⟨r,m,rfl,A0⟩:=TN gI (aaD TR);obtain⟨q,b6,rfl,ay,Iw⟩:=bc.tup_of;cases Iw with
   | cons rb Iw =>
    obtain⟨b,bs,rfl,af,TS⟩:=rb.lst_of;obtain⟨ZU,TU⟩:=r2 af
    have TV:a≠b:=by
     rintro rfl;rw[ax]at af;cases af;obtain⟨bL,TX,zU⟩:=TS.getV kc;have fd:=Al A0 TX;cases zU with
     | lst _ _=>simp[flat]at fd
     | scr _=>simp[flat]at fd
     | ktup _ _=>simp[flat]at fd
     | kfn _=>simp[flat]at fd
     | dct _ _ _ _=>simp[flat]at fd
     | tup ab aF =>
      rw[ay]at ab;cases ab;cases aF with
      | cons rc _ =>
       rw[flat,flats,abL]at fd;exact OV rc fd.1 ax
    obtain⟨ws,hw⟩:=hm.ls b _ af;have TY:j<a6.length:=by rw[hlen,aj,e.len];exact TM
    refine⟨.ref q,by rw[aa8 TY],?_⟩;refine⟨q,_,0,.ref b,rfl,rfl,.inl (hm.tp q _ ay),OP,?_⟩;refine⟨.inl ⟨rfl,ws,cw.of hw⟩,b,ws,rfl,rfl,hw,?_⟩;refine⟨_,by omega,rfl,cE,fun q ay=>?_,by rw[aba];exact hlen,by rw[dz TV];exact hr,hm.clear TP af TU⟩;rw[aaV (fun z=>ay z.symm)];exact lX q ay
 ·have j1:n=ps.length:=by omega
  subst j1;refine .inl ⟨⟨vs,cw.of hr,by rw[rs.length];exact Zg _⟩,?_⟩;refine fP U _ h R W B _ a6 E ((e.unframe hm.fr hm.wh).forget ?_ fun n k q=>?_) dw
  ·rw[aba,aba,hlen,aj];exact e.len
  ·rcases kA q with⟨_,z⟩|⟨Iy,q⟩
   ·exact .inl z
   ·rcases kA q with⟨_,z⟩|⟨TZ,q⟩
    ·exact .inl z
    ·exact .inr ⟨q,by rw[lX n Iy];exact TL n (by simp[TZ,Iy])⟩
end
end L3
namespace Cut
open PySem L2 L3
open PySem.Builtin.Int (intBits)
def iN(m:Nat):Nat->Nat
 | 0=>m
 | s+1=>2*iN m s+3
structure pO (m n:Nat) (ps:List P3) (s:Nat) (rs:List (List P3)):Prop where
 ln:rs.length=s+1
 cv:∀r∈rs,eQ r
 le:∀r∈rs,r.length<=n+s
 gp:∀r∈rs,∀p∈r,c' (iN m s) p
 bal:∀φ,e2 φ rs=dc φ ps
theorem T3{m n:Nat}{ps:List P3}(cv:eQ ps)(ag:∀p∈ps,c' m p)(aj:ps.length<=n):pO m n ps 0 [ps]:=
 ⟨rfl,fun r ak=>by rw[aac.mp ak];exact cv,fun r ak=>by rw[aac.mp ak];exact aj,fun r ak=>by rw[aac.mp ak];exact ag,fun φ=>gV φ ps⟩
theorem Iz(m s:Nat):iN m s<=iN m (s+1):=by show iN m s<=2*iN m s+3;omega
theorem pO.step{ps b6 us:List P3}{m cS s n:Nat}{rs:List (List P3)}{r:List P3}(h:pO m cS ps s rs)(aN:rs[n]?=some r)(ok:BS (2*iN m s+3) (r.length+1) r b6 us):pO m cS ps (s+1) (rs.eraseIdx n++[b6,us]):=by
 have hm:r∈rs:=aaD aN
 have cE:n<rs.length:=by
  rcases acw n rs.length with q|q
  ·exact q
  ·rw[aaF q]at aN;cases aN
 have Cu:=h.le r hm
 have mem:∀{P:List P3->Prop},(∀x∈rs,P x)->P b6->P us->∀x∈rs.eraseIdx n++[b6,us],P x:=fun a b c x aB=>by
  rcases aae.mp aB with aB|aB
  ·exact a x (List.mem_of_mem_eraseIdx aB)
  ·simp at aB;rcases aB with rfl|rfl
   ·exact b
   ·exact c
 refine⟨?_,mem h.cv ok.a ok.b,mem (fun x aB=>Nat.le_succ_of_le (h.le x aB)) (Gq ok.la (by omega)) (Gq ok.lb (by omega)),mem (fun x aB p ag=>(h.gp x aB p ag).mono (Iz m s)) ok.pa ok.pb,fun φ=>?_⟩
 ·rw[ZM,List.length_eraseIdx_of_lt cE,h.ln];show _+2=_;have:=h.ln;omega
 ·have e:=Hu φ aN;have b:=ok.bal φ;have t:=h.bal φ;rw[pz,oe,gV];grind
structure pP (m n:Nat) (s:Piece):Prop where
 ps:∀p∈s.1,c' m p
 cv:eQ s.1
 ln:s.1.length<=n
 st:c' 20 s.2.2
theorem T4(p q:P3):ln (crs p q) q=0:=by show bb p q q=0;exact Hc _ _
theorem pP.px{m n b:Nat}{s:Piece}(h:pP m n s)(af:m<=b):jb b (m+m+1) n 20 s :=
 ⟨h.cv,⟨fun p ag=>(h.ps p ag).mono af,fun e he=>by
  obtain⟨aa,ab⟩:=j4 he;refine⟨crs e.1 e.2,(h.ps _ aa).bp.crs (h.ps _ ab).bp,?_,n5 _ _,T4 _ _⟩;rcases j6 (h.ps _ aa).pt (h.ps _ ab).pt (h.cv.side he)with z|z
  ·exact .inl z
  ·exact .inr (.inl z)⟩,h.ln,h.st⟩
theorem pP.pct{m n:Nat}{s:Piece}(h:pP m n s)(hm:m<=2900)(aN:n<=24):hj s:=⟨Gq h.ln aN,h.cv,fun p ag=>(h.ps p ag).mono hm,h.st.mono (by decide)⟩
theorem jb.pct{b m n t:Nat}{s:Piece}(h:jb b m n t s)(af:b<=2900)(aN:n<=24)(bB:t<=900):hj s:=⟨Gq h.ln aN,h.cv,fun p ag=>(h.rb.pts p ag).mono af,h.st.mono bB⟩
theorem pO.sheet{m n:Nat}{ps:List P3}{s c:Nat}{sh:List Piece}(h:pO m n ps s (sh.map fun t=>t.1))(aq:s<=c)(hm:iN m s<=iN m c)(st:∀t∈sh,c' 20 t.2.2):(∀t∈sh,pP (iN m c) (n+c) t)/\sh.length<=c+1/\fi (sh.map fun t=>t.1) [ps]:=by
 refine⟨fun t bB=>?_,?_,fun φ=>by rw[h.bal φ,gV]⟩
 ·have Cv:t.1∈sh.map fun t=>t.1:=Z9.mpr ⟨t,bB,rfl⟩;exact⟨fun p ag=>(h.gp _ Cv p ag).mono hm,h.cv _ Cv,Gq (h.le _ Cv) (by omega),st t bB⟩
 ·have:=h.ln;rw[Zf]at this;omega
theorem Cw{m:Nat}:∀{s c:Nat},s<=c->iN m s<=iN m c
 | s,0,h=>by rw[show s=0 by omega];exact Zg _
 | s,c+1,h=>by
  by_cases e:s=c+1
  ·rw[e];exact Zg _
  ·exact Gq (Cw (s:=s) (c:=c) (by omega)) (Iz m c)
theorem T5{x y n:Int}(x0 : -40<=x)(bK:x<=40)(bW : -40<=y)(bI:y<=40)(cS:0<n)(cu:n<=3):c' 20 (cy x y n):=by
 have b:∀z:Int,-40<=z->z<=40->intBits z<=20:=fun z z0 z1=>Gq (intBits_le_iff.mpr (show z.natAbs<2^6 by show z.natAbs<64;omega)) (by decide);exact⟨fh (p:=(x,y,n)) (Zh cS),cm.nP (p:=(x,y,n)) ⟨b x x0 bK,b y bW bI,b n (by omega) (by omega)⟩ (Zh cS)⟩
theorem T6{w:bx}(lw:aO w.1 w.2)(w0:0<w.1)(aG:intBits w.1<=21)(aJ:intBits w.2<=21){p q:Int}(n4:0<p)(fm:0<q)(aa:q<=8*p)(ab:p<=8*q)(cQ:p<=63)(a4:q<=63):aO (cA (w.1*p) (w.2*q)).1 (cA (w.1*p) (w.2*q)).2/\0<(cA (w.1*p) (w.2*q)).1/\intBits (cA (w.1*p) (w.2*q)).1<=28/\intBits (cA (w.1*p) (w.2*q)).2<=28/\w.1*(cA (w.1*p) (w.2*q)).2<=8*((cA (w.1*p) (w.2*q)).1*w.2)/\(cA (w.1*p) (w.2*q)).1*w.2<=8*(w.1*(cA (w.1*p) (w.2*q)).2):=by
 have gI:0<w.2*q:=ZK lw.1 fm;obtain⟨l,e,a9,bf⟩:=g9 (t:=w.1*p) (b:=w.2*q) (Zh gI);have bp:intBits p<=6:=intBits_le_iff.mpr (show p.natAbs<2^6 by show p.natAbs<64;omega);have gx:intBits q<=6:=intBits_le_iff.mpr (show q.natAbs<2^6 by show q.natAbs<64;omega);have z1:=d3 a9 (intBits_mul_le aG bp);have aQ:=d3 bf (intBits_mul_le aJ gx);generalize cA (w.1*p) (w.2*q)=g at l e z1 aQ ⊢
 have ba:0<g.1:=by
  have:0<g.1*(w.2*q):=by rw[e];exact ZK (ZK w0 n4) l.1
  exact abY this gI
 have Cx:0<w.1*g.2:=ZK w0 l.1;have o8:0<g.1*w.2:=ZK ba lw.1
 have key:(g.1*w.2)*q=(w.1*g.2)*p:=by
  have:g.1*w.2*q=g.1*(w.2*q):=abc ..;rw[this,e];grind
 generalize w.1*g.2=X at Cx key ⊢;generalize g.1*w.2=Y at o8 key ⊢;refine⟨l,ba,Gq z1 (by decide),Gq aQ (by decide),?_,?_⟩
 ·have a:=adU aa (aas Cx);refine adV (a:=q) ?_ fm;grind
 ·have a:=adU ab (aas Cx);refine adV (a:=q) ?_ fm;grind
theorem T7{w:bx}(w0:0<w.1)(cZ:0<w.2):w.1*w.2<=8*(w.1*w.2):=by
 have:=ZK w0 cZ;omega
section
variable{w h g:bx}(lw:aO w.1 w.2)(w0:0<w.1)(lh:aO h.1 h.2)(h0:0<h.1)(aY:aO g.1 g.2)(ba:0<g.1)(aG:intBits w.1<=30)(aJ:intBits w.2<=30)(bZ:intBits h.1<=60)(bQ:intBits h.2<=60)(b4:intBits g.1<=30)(b5:intBits g.2<=30)
include lw w0 lh h0 aY ba aG aJ bZ bQ b4 b5
theorem T8{sh:List Piece}(ar:w.1*g.2<=8*(g.1*w.2))(aF:g.1*w.2<=8*(w.1*g.2)){m n N:Nat}(aq:∀s∈sh,pP m n s)(bD:sh.length<=N)(Es:120<=m)(Fq:m<=600)(aN:n<=19)(bal:fi (sh.map fun s=>s.1) [ie w h]):
  c2 (270+(m+m+1)) (m+m+1) n 20 N sh/\dh (eg w h g sh) (0,1)=e3 w h g/\(∀s∈el (eg w h g sh) (0,1),hj s)/\(el (eg w h g sh) (0,1)).length<=24*N/\fi ((el (eg w h g sh) (0,1)).map fun s=>s.1) [ie g (e3 w h g)]/\∀b:Bool,fi (((el (eg w h g sh) (0,1)).filter fun s=>s.2.1==b).map eR) ((sh.filter fun s=>s.2.1==b).map eR):=by
 have z:c2 (270+(m+m+1)) (m+m+1) n 20 N sh:=⟨fun s h=>(aq s h).px (by omega),bD⟩;obtain⟨_,_,_,gv⟩:=Cg lw w0 lh h0 aY ba aG aJ bZ bQ b4 b5 z (Zg _) (by omega) ar aF;have sz:=S3 lw w0 lh h0 aY ba aG aJ bZ bQ b4 b5 z (Zg _) (by omega) ar aF;have kp:dX sh:=fun s h=>⟨(aq s h).st.pt,fun p ag=>((aq s h).ps p ag).pt⟩;have on:dJ sh 0 (au w) 0 (au h):=⟨kp.pts,ie w h,bal,HN lw lh⟩;obtain⟨_,R,IA,IB⟩:=Tq lw w0 lh h0 aY ba aG aJ bZ bQ b4 b5 ar aF on;obtain⟨cj,_⟩:=xy lw w0 lh h0 aY ba;rw[gv]at IB;have Ik:=IB.eq (HN aY cj);rw[Ik]at IA;exact⟨z,gv,fun s aq=>(sz.1 s aq).pct (by omega) (by omega) (by omega),sz.2,IA,fun b φ=>Tw lw w0 lh h0 aY ba aG aJ bZ bQ b4 b5 ar aF kp φ b⟩
end
theorem T9{w h:bx}(lw:aO w.1 w.2)(lh:aO h.1 h.2)(aG:intBits w.1<=21)(aJ:intBits w.2<=21)(bZ:intBits h.1<=21)(bQ:intBits h.2<=21):∀p∈ie w h,c' 44 p:=fun p ag=>by
 have z:intBits 0<=44:=by decide
 have m:∀{z:Int},intBits z<=21->intBits z<=44:=fun h=>Gq h (by decide);unfold ie at ag;simp only[Z6,abz,or_false]at ag;rcases ag with rfl|rfl|rfl|rfl
 ·exact⟨⟨by decide,by decide⟩,⟨by decide,by decide,by decide⟩⟩
 ·exact⟨(Hh lw).1,⟨m aG,z,m aJ⟩⟩
 ·exact(kf lw lh aG aJ bZ bQ).mono (by decide)
 ·exact⟨(Hi lh).1,⟨z,m bZ,m bQ⟩⟩
theorem T'(b:BoxD):has (.T [.T [.I,.I],.T [.I,.I],sU]) (dBx b)=true:=by
 have e:=PH b.2.2;show hass [.T [.I,.I],.T [.I,.I],sU] [dR b.1,dR b.2.1,.lst (b.2.2.map dS)]=true
 have h:∀x:D,has sU x=true->hass [.T [.I,.I],.T [.I,.I],sU] [dR b.1,dR b.2.1,x]=true:=fun x aB=>by
  simp only[hass,aB,Bool.and_true];rfl
 exact h _ e
structure cM (mg:Str->Option Value):Prop where
 len_:mg "len"=none
 abs_:mg "abs"=none
 int_:mg "int"=none
 bool_:mg "bool"=none
 tuple_:mg "tuple"=none
 isinstance_:mg "isinstance"=none
 range_:mg "range"=none
 all_:mg "all"=none
 sum_:mg "sum"=none
 list_:mg "list"=none
 ValueError_:mg "ValueError"=none
 zip_:mg "zip"=none
 str_:mg "str"=none
 enumerate_:mg "enumerate"=none
 set_:mg "set"=none
 max_:mg "max"=none
 min_:mg "min"=none
 sorted_:mg "sorted"=none
 dict_:mg "dict"=none
local macro_rules | `(tactic| walk_at "bu") => `(tactic| first | assumption | exact intBits_sub_le (by walk_at "bu") (by walk_at "bu") | exact intBits_add_le (by walk_at "bu") (by walk_at "bu") | exact intBits_mul_le (by walk_at "bu") (by walk_at "bu") | exact intBits_neg_le (by walk_at "bu") | exact intBits_fdiv_le (by walk_at "bu") | exact lD (by omega) (by omega) | fail)
local macro_rules | `(tactic| walk_at "bits") => `(tactic| ((with_reducible show intBits _ ≤ _); first | assumption | exact Gq (lD (by omega) (by omega)) (by decide) | decide +kernel | exact Gq (by walk_at "bu") (by first | omega | decide) | fail))
local macro_rules | `(tactic| walk_at "sd") => `(tactic| first | ((with_reducible show intBits _ ≤ _); walk_at "bits") | ((with_reducible show zy _ _); exact ⟨by walk_at "bits", by walk_at "bits"⟩) | ((with_reducible show qj _ _); exact ⟨by omega, by walk_at "bits"⟩) | ((with_reducible show (_ : Int) < _); first | omega | decide +kernel) | ((with_reducible show (_ : Int) ≤ _); first | omega | decide +kernel) | ((with_reducible show y' _ _); exact ⟨by decide, by decide, by decide⟩) | ((with_reducible show aam _ ≤ sizeLine); first | (show 2 ≤ sizeLine; decide) | (show 3 ≤ sizeLine; decide) | (show 1 ≤ sizeLine; decide) | (show 0 ≤ sizeLine; decide) | (show 4 ≤ sizeLine; decide)) | fail)
local macro_rules | `(tactic| walk_at "w1") => `(tactic| first | refine ⟨_, rfl, ?_⟩ | refine ⟨_, _, rfl, rfl, ?_⟩ | refine ⟨_, _, rfl, rfl, by walk_at "sd", ?_⟩ | refine ⟨_, _, _, .inl rfl, rfl, rfl, ?_⟩ | refine ⟨_, _, _, .inr rfl, rfl, rfl, ?_⟩ | refine ⟨_, _, rfl, fun _ => rfl, ?_⟩ | refine ⟨by walk_at "sd", ?_⟩ | refine ⟨rfl, ?_⟩)
local macro_rules | `(tactic| walk_at "w") => `(tactic| repeat walk_at "w1")
local macro_rules | `(tactic| walk_at "wd") => `(tactic| (walk_at "w"; try dsimp only [bN]))
local macro_rules | `(tactic| walk_at "it") => `(tactic| first | exact .inl (by assumption) | exact .inr (by assumption))
local macro_rules | `(tactic| walk_at "r0") => `(tactic| repeat (first | refine ⟨_, rfl, ?_⟩ | refine ⟨_, _, rfl, rfl, ?_⟩ | refine ⟨_, _, _, _, rfl, rfl, by walk_at "it", rfl, ?_⟩ | refine ⟨by walk_at "sd", ?_⟩))
local macro_rules | `(tactic| walk_at "rd") => `(tactic| (walk_at "r0"; try dsimp only))
local macro_rules | `(tactic| walk_at "fall") => `(tactic| first | exact aaI.mpr ⟨rfl, by walk_at "fall"⟩ | exact aay _)
local macro_rules | `(tactic| walk_at "fal2") => `(tactic| first | exact aay _ | exact aaI.mpr ⟨fun h => absurd h (by decide), by walk_at "fal2"⟩ | exact aaI.mpr ⟨fun _ => ⟨_, rfl⟩, by walk_at "fal2"⟩)
local macro_rules | `(tactic| walk_at "fsub") => `(tactic| exact ib (by walk_at "fall"))
local macro_rules | `(tactic| walk_at "fhas") => `(tactic| exact ZV (by walk_at "fal2"))
local macro_rules | `(tactic| walk_at "ffr") => `(tactic| (intro i y e; rcases i with _ | _ | _ | _ | _ | i <;> first | (cases e; done) | (cases e; exact ⟨_, rfl, rfl, rfl, Sz rfl, _, rfl⟩)))
local macro_rules | `(tactic| walk_at "sc") => `(tactic| exact ⟨rfl, rfl, rfl, by decide +kernel, rfl, by decide +kernel, by decide +kernel⟩)
local macro_rules | `(tactic| walk_at "b1") => `(tactic| exact fun _ _ F => F.binds fun _ _ _ _ _ _ us hl => match us, hl with | [_], _ => rfl)
local macro_rules | `(tactic| walk_at "b2") => `(tactic| exact fun _ _ F => F.binds fun _ _ _ _ _ _ us hl => match us, hl with | [_, _], _ => rfl)
local macro_rules | `(tactic| walk_at "b3") => `(tactic| exact fun _ _ F => F.binds fun _ _ _ _ _ _ us hl => match us, hl with | [_, _, _], _ => rfl)
local macro_rules | `(tactic| walk_at "b4") => `(tactic| exact fun _ _ F => F.binds fun _ _ _ _ _ _ us hl => match us, hl with | [_, _, _, _], _ => rfl)
local macro_rules | `(tactic| walk_at "b5") => `(tactic| exact fun _ _ F => F.binds fun _ _ _ _ _ _ us hl => match us, hl with | [_, _, _, _, _], _ => rfl)
theorem Ua:cG ["_law_script","_law_k"] ["_law_script","_law_k"] (b0 yn):=by walk_at "sc"
theorem Ub(B:cM mg)(F:cD K mg "_law_cell" yn ["_law_script","_law_k"]):
  aI P w K mg base "_law_cell" ["_law_script","_law_k"] 1 (aK K 2 z6):=by
 refine aI.imp (sp:=EI K) ?_ (fun vs H Q E h=>Nw h);refine F.ok (k:=0) Ua (fun vs H Q E h=>?_) (fun f cdv A outer s H vs Q E ak h=>?_)
 ·obtain⟨a,k,ns,rfl,c7,h0,q⟩:=h;rfl
 obtain⟨a,k,ns,rfl,c7,h0,q⟩:=h;refine⟨_,(km (rI (oM lA (gf 1) (oN zl (by rfl) B.len_ (by decide +kernel) (eh (gf 0) fD)) (dk _)) (m8 (md (jP zk (gf 0) (gf 1) (fun _ _=>rfl)))) rG) (m8 (md et))),?_⟩;refine⟨_,rfl,_,rfl,a,_,rfl,.inl c7,_,_,rfl,rfl,_,rfl,?_⟩;refine fk (fun c=>?_) (fun c=>?_)
 ·rw[Zf]at c;have ah:k.toNat<ns.length:=by omega
  have nY:k=((k.toNat:Nat):Int):=by omega
  have z:dE (ns.map V.int) ((k.toNat:Nat):Int)=some (.int ns[k.toNat]):=AW (by rw[aag,aan ah]<;>rfl);rw[<-nY]at z;exact⟨_,rfl,_,rfl,a,_,_,_,rfl,rfl,c7,z,q _⟩
 ·exact q _
theorem Uc:cG ["_law_cell_here"] ["_law_cell_here"] (b0 yo):=by walk_at "sc"
theorem Ud(B:cM mg)(F:cD K mg "_law_bag" yo ["_law_cell_here"]):
  aI P w K mg base "_law_bag" ["_law_cell_here"] 1 (aK K 1 z7):=by
 refine aI.imp (sp:=EJ) ?_ (fun vs H Q E h=>Nx h);refine F.ok (k:=0) Uc (fun vs H Q E h=>?_) (fun f cdv A outer s H vs Q E ak h=>?_)
 ·obtain⟨c,rfl,q⟩:=h;rfl
 obtain⟨c,rfl,q⟩:=h;refine⟨_,(km (rI (oM uU (gf 0) (ff uT et et) (dk _)) (m8 (md (zg (eh (ff mm (gf 0) (ff rX (ff uT et et) (ff uT et et))) (eh (ff mm (gf 0) et) fD))))) rG) (m8 (md (zg (eh et (eh (ff mm (ff uS (ff rX (ff mm (gf 0) et) et) et) et) fD)))))),?_⟩;walk_at "rd";refine fk (fun g=>?_) (fun g=>?_)
 ·walk_at "rd";refine(fun p ag=>q p _ _ ag (aa6 _ (by decide +kernel)) (aa6 _ (by decide)) (abh _ (by decide)))
 ·have m0:=aa6 c (show(2147483647:Int)≠0 by decide);have bw:=abh c (show(0:Int)<2147483647 by decide);walk_at "rd";refine(fun p ag=>q p _ _ ag (by decide) (aa6 _ (by decide)) (abh _ (by decide)))
theorem IC:cG ["_law_bag_here","_law_many","_law_found"] ["_law_bag_here","_law_many"] (b0 yp):=by walk_at "sc"
theorem Ue(B:cM mg)(F:cD K mg "_law_draw" yp ["_law_bag_here","_law_many"]):
  aI P w K mg base "_law_draw" ["_law_bag_here","_law_many"] 1 (aK K 2 (qv 400)):=by
 refine aI.imp (sp:=EK 400) ?_ (fun vs H Q E h=>Ny h);refine F.ok (k:=0) IC (fun vs H Q E h=>?_) (fun f cdv A outer s H vs Q E ak h=>?_)
 ·obtain⟨b,m,rfl,⟨x,y,af,x0,bW,bI⟩,m0,bw,q⟩:=h;rfl
 obtain⟨b,m,rfl,⟨x,y,af,x0,bW,bI⟩,m0,bw,q⟩:=h;refine⟨_,(km (rI (oM uU (jP mq (gf 0) et (fun _ _=>rfl)) (gf 1) (dk _)) (km (oH (i:=2) IC.nd rfl (Sz rfl) (ff mm (jP mq (gf 0) et (fun _ _=>rfl)) (gf 1))) (km (uN (ff u4 (jP mq (gf 0) et (fun _ _=>rfl)) (gf 1)) (yY (gf 0) et set_list)) (m8 (md (gf 2))))) rG) (km (uN et (yY (gf 0) et set_list)) (km (uN (ff mm (ff uS (ff rX (jP mq (gf 0) et (fun _ _=>rfl)) et) et) et) (yY (gf 0) et set_list)) (m8 (md (ff mm (ff u4 (ff mm (ff rX (jP mq (gf 0) et (fun _ _=>rfl)) (ff uS (ff u4 (jP mq (gf 0) et (fun _ _=>rfl)) et) et)) et) et) (gf 1))))))),?_⟩;walk_at "rd";refine fk (fun g=>?_) (fun g=>?_)
 ·walk_at "rd";refine⟨b,_,_,_,rfl,rfl,af,rfl,?_⟩;refine⟨_,rfl,?_⟩;refine q _ _ (Ext.upd b H _) ⟨_,_,en,?_,bW,bI⟩ (aa6 _ (by omega)) (abh _ m0);exact Int.fdiv_nonneg x0 (aas m0)
 ·walk_at "rd";refine⟨b,_,_,_,rfl,rfl,af,rfl,?_⟩;have pM:(upd H b (.lst ([V.int x,V.int y].set (acD 0) (V.int 0)))) b=some (.lst [.int 0,.int y]):=en;have ai:=Ext.upd b H (.lst ([V.int x,V.int y].set (acD 0) (V.int 0)));generalize upd H b (.lst ([V.int x,V.int y].set (acD 0) (V.int 0)))=H1 at pM ai ⊢;have b8:=aa6 (y*48271+4099) (show(2147483647:Int)≠0 by decide);have jT:=abh (y*48271+4099) (show(0:Int)<2147483647 by decide);walk_at "rd";refine⟨b,_,_,_,rfl,rfl,pM,rfl,?_⟩;generalize(y*48271+4099)%2147483647=z at b8 jT ⊢;have pQ:(upd H1 b (.lst ([V.int 0,V.int y].set (acD 1) (V.int z)))) b=some (.lst [.int 0,.int z]):=en;have cf:=Int.ediv_nonneg b8 (show(0:Int)<=65536 by decide);have bY:z/65536<=z:=Int.ediv_le_self _ b8;have nY:Int.fdiv z 65536=z/65536:=ab2 z (by decide);have vy:intBits (Int.fdiv z 65536+7)<=64:=by rw[nY];exact lD (by omega) (by omega)
  walk_at "rd";refine q _ _ (ai.trans (Ext.upd b H1 _)) ⟨_,_,pQ,by decide,b8,jT⟩ (aa6 _ (by omega)) (abh _ m0)
theorem ro:cG ["_law_one","_law_other","_law_rest"] ["_law_one","_law_other"] (b0 yq):=by walk_at "sc"
def rp  : FS:=fun as k=>∃(a b:Int),as=[.val (.int a),.val (.int b)]/\k (.val (.int (Ze a b:Nat)))
theorem Ug(B:cM mg)(F:cD K mg "_law_measure" yq ["_law_one","_law_other"])  :
  aI P w K mg base "_law_measure" ["_law_one","_law_other"] 2 (aK K 2 rp):=by
 refine df (lv:=1) F ro rfl (fun f cdv A outer s H E ak=>⟨_,(a8 (cF (i:=0) ro.nd rfl (Sz rfl) (vh (ae 0) (by rfl) B.abs_)) (a8 (cF (i:=1) ro.nd rfl (Sz rfl) (vh (ae 1) (by rfl) B.abs_)) (a8 (Er PassesOwn.never (e9 (f:=fun i j=>decide (j<i)) qc (ae 1) aA (dk _)) (a8 (cF (i:=2) ro.nd rfl (Sz rfl) (ve (ae 0) (ae 1))) (a8 (cF (i:=0) ro.nd rfl (Sz rfl) (ae 1)) (bC (cF (i:=1) ro.nd rfl (Sz rfl) (ae 2)))))) (bC (cc (ae 0)))))),?_⟩);rintro as k aj ⟨a,b,rfl,ah⟩;refine cR (r:=[.val (.int a),.val (.int b),.no]) rfl ?_;walk_at "wd";refine⟨fun m ρ=>∃(x y:Int)(v:aH),ρ=[.val (.int x),.val (.int y),v]/\0<=x/\0<=y/\Ze x y=Ze a b/\m=y.toNat,⟨_,_,_,_,rfl,?_,?_,D1 a b,rfl⟩,?_⟩
 ·split<;>omega
 ·split<;>omega
 rintro m ρ ⟨x,y,v,rfl,x0,bW,aC,rfl⟩;walk_at "wd";refine fk (fun g=>?_) (fun g=>?_)
 ·walk_at "wd";have m0:=aa6 x (show y≠0 by omega);have bw:=abh x g;exact⟨_,by omega,_,_,_,rfl,bW,m0,by rw[D0 x0 g];exact aC,rfl⟩
 ·have e:y=0:=by omega
  subst e;refine⟨_,rfl,?_⟩;rw[<-gcd_zero_left x0,aC];exact ah
theorem Cy:cG ["_law_top","_law_bottom","_law_often"] ["_law_top","_law_bottom"] (b0 yr):=by walk_at "sc"
def xD  : FS:=fun as k=>∃(t b:Int),as=[.val (.int t),.val (.int b)]/\(0<b)/\(intBits b<=9000)/\k (.val (dR (cA t b)))
theorem Uh(B:cM mg)(F:cD K mg "_law_low" yr ["_law_top","_law_bottom"])(kk:aI P w K mg base "_law_measure" ["_law_one","_law_other"] 2 (aK K 2 rp)):
  aI P w K mg base "_law_low" ["_law_top","_law_bottom"] 3 (aK K 2 xD):=by
 refine df (lv:=2) F Cy rfl (fun f cdv A outer s H E ak=>⟨_,(a8 (cF (i:=2) Cy.nd rfl (Sz rfl) (aW kk ak (by rfl) (aw (ae 0) (aw (ae 1) aS)))) (a8 (ei (e9 (f:=fun i j=>decide (i<j)) lA (ae 1) aA (dk _)) (bC (cF (i:=2) Cy.nd rfl (Sz rfl) (iw (ae 2)))) ez) (bC (cc (c8 (aU (dH (ae 0) (ae 2)) (aU (dH (ae 1) (ae 2)) bU))))))),?_⟩);rintro as k aj ⟨t,b,rfl,af,v7,ah⟩;refine cR (r:=[.val (.int t),.val (.int b),.no]) rfl ?_;have gp:=nq (t:=t) (b:=b) (by omega);have hC:=kO (a:=t) (b:=b) (by omega) v7;have e:sI t b=((Ze t b:Nat):Int):=by unfold sI;rw[if_neg (by omega)]
 have ah:k (.val (.tup [.int (t.fdiv ((Ze t b:Nat):Int)),.int (b.fdiv ((Ze t b:Nat):Int))])):=by
  have h:=ah;unfold dR cA at h;rw[e]at h;exact h
 walk_at "w";refine⟨_,_,rfl,?_⟩;dsimp only[bN];walk_at "wd";refine fk (fun g=>absurd g (by omega)) (fun _=>?_);walk_at "w";exact ah
theorem ID:cG ["_law_x","_law_y","_law_bottom","_law_often"] ["_law_x","_law_y","_law_bottom"] (b0 yt):=by walk_at "sc"
def uf  : FS:=fun as k=>∃(x y n:Int),as=[.val (.int x),.val (.int y),.val (.int n)]/\(0<n)/\(intBits n<=9000)/\k (.val (dP (cy x y n)))
theorem Ui(B:cM mg)(F:cD K mg "_law_spot" yt ["_law_x","_law_y","_law_bottom"])(kk:aI P w K mg base "_law_measure" ["_law_one","_law_other"] 2 (aK K 2 rp)):
  aI P w K mg base "_law_spot" ["_law_x","_law_y","_law_bottom"] 3 (aK K 3 uf):=by
 refine df (lv:=2) F ID rfl (fun f cdv A outer s H E ak=>⟨_,(a8 (cF (i:=3) ID.nd rfl (Sz rfl) (aW kk ak (by rfl) (aw (aW kk ak (by rfl) (aw (ae 0) (aw (ae 1) aS))) (aw (ae 2) aS)))) (bC (cc (c8 (aU (dH (ae 0) (ae 3)) (aU (dH (ae 1) (ae 3)) (aU (dH (ae 2) (ae 3)) bU))))))),?_⟩);rintro as k aj ⟨x,y,n,rfl,aN,bn,ah⟩;refine cR (r:=[.val (.int x),.val (.int y),.val (.int n),.no]) rfl ?_;walk_at "w";refine⟨_,_,rfl,?_⟩;walk_at "w";refine⟨_,_,rfl,?_⟩;have cS:n≠0:=by omega
 have gp:=EZ (a:=x) (b:=y) cS;have hC:=E0 (a:=x) (b:=y) cS bn;have e:jr x y n=g3 x y n:=by unfold jr;rw[if_neg (by omega)]
 have lR:((Ze ((Ze x y:Nat):Int) n:Nat):Int)=g3 x y n:=Oq x y n
 have ah:k (.val (.tup [.int (x.fdiv (g3 x y n)),.int (y.fdiv (g3 x y n)),.int (n.fdiv (g3 x y n))])):=by
  have h:=ah;unfold dP cy at h;rw[e]at h;exact h
 dsimp only[bN];rw[lR];generalize g3 x y n=g at gp hC ah ⊢;walk_at "w";exact ah
theorem Uj:cG ["_law_found"] ["_law_found"] (b0 yu):=by walk_at "sc"
def Cz  : FS:=fun as k=>∃(i:Int),as=[.val (.int i)]/\k (.val (.bl true))
theorem Uk(B:cM mg)(F:cD K mg "_law_whole" yu ["_law_found"])  :
  aI P w K mg base "_law_whole" ["_law_found"] 2 (aK K 1 Cz):=by
 refine df (lv:=1) F Uj rfl (fun f cdv A outer s H E ak=>⟨_,(bC (cc (qr (mx (T:="int") (ae 0) (by rfl) B.isinstance_ (mc (v:=.ty "int") (u:=.type "int") (by rfl) B.int_ (by decide +kernel) rfl) rfl rfl rfl) (r7 (Mz (mx (T:="bool") (ae 0) (by rfl) B.isinstance_ (mc (v:=.ty "bool") (u:=.type "bool") (by rfl) B.bool_ (by decide +kernel) rfl) rfl rfl rfl)))))),?_⟩);rintro as k aj ⟨i,rfl,ah⟩;refine cR (r:=[.val (.int i)]) rfl ?_;refine⟨_,rfl,_,_,rfl,fun _=>rfl,_,rfl,Mf ?_⟩;exact⟨_,rfl,_,_,rfl,fun _=>rfl,_,rfl,ah⟩
theorem rq:cG ["_law_p","_law_q","_law_a","_law_b","_law_c","_law_often"] ["_law_p","_law_q"] (b0 yv):=by walk_at "sc"
def IE  : FS:=fun as k=>∃(p q:P3),as=[.val (dP p),.val (dP q)]/\((crs p q).1≠0∨(crs p q).2.1≠0)/\(cm 4000 p)/\(cm 4000 q)/\k (.val (dP (d7 p q)))
theorem Ul(B:cM mg)(F:cD K mg "_law_line" yv ["_law_p","_law_q"])(kk:aI P w K mg base "_law_measure" ["_law_one","_law_other"] 2 (aK K 2 rp)):
  aI P w K mg base "_law_line" ["_law_p","_law_q"] 3 (aK K 2 IE):=by
 refine df (lv:=2) F rq rfl (fun f cdv A outer s H E ak=>⟨_,(a8 (cF (i:=2) rq.nd rfl (Sz rfl) (e8 (cz (aV (ae 0) aA (fun _ _=>rfl)) (aV (ae 1) aA (fun _ _=>rfl))) (cz (aV (ae 0) aA (fun _ _=>rfl)) (aV (ae 1) aA (fun _ _=>rfl))))) (a8 (cF (i:=3) rq.nd rfl (Sz rfl) (e8 (cz (aV (ae 0) aA (fun _ _=>rfl)) (aV (ae 1) aA (fun _ _=>rfl))) (cz (aV (ae 0) aA (fun _ _=>rfl)) (aV (ae 1) aA (fun _ _=>rfl))))) (a8 (cF (i:=4) rq.nd rfl (Sz rfl) (e8 (cz (aV (ae 0) aA (fun _ _=>rfl)) (aV (ae 1) aA (fun _ _=>rfl))) (cz (aV (ae 0) aA (fun _ _=>rfl)) (aV (ae 1) aA (fun _ _=>rfl))))) (a8 (cF (i:=5) rq.nd rfl (Sz rfl) (aW kk ak (by rfl) (aw (aW kk ak (by rfl) (aw (ae 2) (aw (ae 3) aS))) (aw (ae 4) aS)))) (a8 (ei (kB (w_or (e9 (f:=fun i j=>decide (i<j)) lA (ae 2) aA (dk _)) (lJ (kB (w_and (e9 (f:=fun i j=>decide (i=j)) h8 (ae 2) aA (dk _)) (Mw (e9 (f:=fun i j=>decide (i<j)) lA (ae 3) aA (dk _)))))))) (bC (cF (i:=5) rq.nd rfl (Sz rfl) (iw (ae 5)))) ez) (bC (cc (c8 (aU (dH (ae 2) (ae 5)) (aU (dH (ae 3) (ae 5)) (aU (dH (ae 4) (ae 5)) bU))))))))))),?_⟩);rintro as k aj ⟨p,q,rfl,w,bp,gx,ah⟩;refine cR (r:=[.val (dP p),.val (dP q),.no,.no,.no,.no]) rfl ?_;have aa:=bp.a;have ab:=bp.b;have aL:=bp.c;have bo:=gx.a;have de:=gx.b;have fl:=gx.c;have a9:intBits (crs p q).1<=8500:=by show intBits (p.2.1*q.2.2-p.2.2*q.2.1)<=_;walk_at "bits"
 have bf:intBits (crs p q).2.1<=8500:=by show intBits (p.2.2*q.1-p.1*q.2.2)<=_;walk_at "bits"
 have dO:intBits (crs p q).2.2<=8500:=by show intBits (p.1*q.2.1-p.2.1*q.1)<=_;walk_at "bits"
 walk_at "w";refine⟨(crs p q).1,(crs p q).2.1,rfl,?_⟩;walk_at "wd";refine⟨((Ze (crs p q).1 (crs p q).2.1:Nat):Int),(crs p q).2.2,rfl,?_⟩;dsimp only[bN];refine cR (r:=[.val (dP p),.val (dP q),.val (.int (crs p q).1),.val (.int (crs p q).2.1),.val (.int (crs p q).2.2),.val (.int (jy (crs p q)))]) rfl ?_;unfold d7 at ah;generalize crs p q=l at w a9 bf dO ah;refine eO (fun ρ=>ρ=[.val (dP p),.val (dP q),.val (.int l.1),.val (.int l.2.1),.val (.int l.2.2),.val (.int (gr l))]) ?_ (fun N aZ=>?_);rotate_left
 ·have yes:k3 l->N [.val (dP p),.val (dP q),.val (.int l.1),.val (.int l.2.1),.val (.int l.2.2),.val (.int (-jy l))]:=fun d=>aZ _ (by unfold gr;rw[if_pos d]);have no:¬k3 l->N [.val (dP p),.val (dP q),.val (.int l.1),.val (.int l.2.1),.val (.int l.2.2),.val (.int (jy l))]:=fun d=>aZ _ (by unfold gr;rw[if_neg d]);refine⟨_,rfl,_,_,rfl,rfl,_,rfl,fk (fun g=>?_) (fun g=>?_)⟩
  ·exact⟨_,rfl,_,rfl,yes (.inl g)⟩
  ·refine⟨_,rfl,_,_,rfl,rfl,_,rfl,fk (fun g2=>?_) (fun g2=>no fun d=>d.elim g fun z=>g2 z.1)⟩;refine⟨_,rfl,_,_,rfl,rfl,_,rfl,fk (fun g3=>?_) (fun g3=>no fun d=>d.elim g fun z=>g3 z.2)⟩;exact⟨_,rfl,_,rfl,yes (.inr ⟨g2,g3⟩)⟩
 rintro ρ rfl;have o0:=wO w;have cK:=RL a9 bf w;obtain⟨bL,b1,g4⟩:=tD l;have f1:=adj bL;have f2:=adj b1;have bO:=adj g4;have ah:k (.val (.tup [.int (l.1.fdiv (gr l)),.int (l.2.1.fdiv (gr l)),.int (l.2.2.fdiv (gr l))])):=by rw[f1,f2,bO];exact ah
 walk_at "w";exact ah
theorem ug:cG ["_law_tally","_law_rings","_law_number","_law_ring","_law_k","_law_p","_law_q","_law_line_here"] ["_law_tally","_law_rings","_law_number"] (b0 yw):=by walk_at "sc"
def IF:tB:=fun b ks ds xs k=>∃(vs:List Int)(rs:GV)(m:Int),  b=true/\xs=[(.lst (rs.map ek)),(.int m)]/\(ds=vs.map D.int)/\(vs.length=ks.length)/\(∀ps∈rs,mN ps)/\(m=1∨m = -1)/\(ks.length+2*(rs.map aam).sum<=10000)/\∀e4 f7,f7.length=e4.length->e4.length<=ks.length+2*(rs.map aam).sum->(∀key,(cg e4 f7 key).getD 0=(cg ks vs key).getD 0+m*oa key rs)->k e4 (f7.map D.int)
theorem Um(B:cM mg)(F:cD K mg "_law_count" yw ["_law_tally","_law_rings","_law_number"])(Un:aI P w K mg base "_law_line" ["_law_p","_law_q"] 3 (aK K 2 IE)):
  aI P w K mg base "_law_count" ["_law_tally","_law_rings","_law_number"] 4 (tC K 3 IF):=by
 refine Ru (lv:=3) F ug rfl (fun f cdv A outer s H E ak=>⟨_,(bC (nz PassesOwn.never rfl (iZ (ae 1)) (b9 (i:=3) ug.nd rfl (Sz rfl)) (bC (nz PassesOwn.never rfl (zP (jW (ae 3) (by rfl) B.len_) (by rfl) B.range_) (b9 (i:=4) ug.nd rfl (Sz rfl)) (a8 (Ep (i:=5) (j:=6) rfl ug.nd rfl rfl (by decide) rfl rfl (aU (aV (ae 3) (e8 (ae 4) aA) (fun _ _=>rfl)) (aU (aV (ae 3) (ae 4) (fun _ _=>rfl)) bU)) rfl) (a8 (cF (i:=7) ug.nd rfl (Sz rfl) (aW Un ak (by rfl) (aw (ae 5) (aw (ae 6) aS)))) (a8 (GQ (b:=true) 0 (tA ak) (c8 (aU (ae 7) (aU (ae 5) bU))) (ed (GP (b:=true) 0 (tA ak) (c8 (aU (ae 7) (aU (ae 5) bU))) aA) (ae 2))) (bC (GQ (b:=true) 0 (tA ak) (c8 (aU (ae 7) (aU (ae 6) bU))) (e8 (GP (b:=true) 0 (tA ak) (c8 (aU (ae 7) (aU (ae 6) bU))) aA) (ae 2))))))))))),?_⟩);rintro b t ks ds xs k aj ⟨vs,rs,m,rfl,rfl,gn,aP,ak,hm,aj,ah⟩;refine cR (r:=[.own (.d true t ks ds),.val (.lst (rs.map ek)),.val (.int m),.no,.no,.no,.no,.no]) rfl ?_;subst gn;have big:20000<=sizeLine:=by decide
 refine⟨_,rfl,_,rfl,?_⟩;refine qF (f:=ek) (rs:=rs) (done:=[]) (fun pre ρ=>∃(i6:List (List (List Int)))(k1:List Int)(ae v4 gy v6 f9:aH),ρ=[.own (.d true t i6 (k1.map D.int)),.val (.lst (rs.map ek)),.val (.int m),ae,v4,gy,v6,f9]/\k1.length=i6.length/\i6.length<=ks.length+2*(pre.map aam).sum/\∀key,(cg i6 k1 key).getD 0=(cg ks vs key).getD 0+m*oa key pre) ⟨ks,vs,_,_,_,_,_,rfl,aP,by simp,fun key=>by simp[oa]⟩ ?_ (fun ρ h=>?_);rotate_left
 ·obtain⟨i6,k1,ae,v4,gy,v6,f9,rfl,aa,ab,aL⟩:=h;rw[aaz]at ab aL;exact⟨i6,_,rfl,ah i6 k1 aa ab aL⟩
 rintro pre ps rest ρ he ⟨i6,k1,ae,v4,gy,v6,f9,rfl,aa,ab,aL⟩ N aZ;rw[aaz]at he;have mem:ps∈rs:=by rw[he];simp
 obtain⟨a1,a2,i'⟩:=ak ps mem;have B5:(rs.map aam).sum=(pre.map aam).sum+(ps.length+(rest.map aam).sum):=by rw[he,Z7,ab7,aaa,aaK]
 have len:(ps.map dP).length=ps.length:=Zf ..;refine⟨_,rfl,_,rfl,_,rfl,by omega,by rw[len];omega,?_⟩;rw[len,show((ps.length:Nat):Int).toNat=ps.length by omega];refine EX (fun i ρ=>∃(e4:List (List (List Int)))(f7:List Int)(v4 gy v6 f9:aH),ρ=[.own (.d true t e4 (f7.map D.int)),.val (.lst (rs.map ek)),.val (.int m),.val (ek ps),v4,gy,v6,f9]/\f7.length=e4.length/\e4.length<=i6.length+2*i/\∀key,(cg e4 f7 key).getD 0=(cg i6 k1 key).getD 0+m*n9 key ((da ps).take i)) ⟨i6,k1,_,_,_,_,rfl,aa,by omega,fun key=>by simp[n9]⟩ ?_ (fun ρ h=>?_);rotate_left
 ·obtain⟨e4,f7,v4,gy,v6,f9,rfl,eN,eP,lV⟩:=h;have al:=QB ps;rw[al]at lV;refine aZ _ ⟨e4,f7,_,_,_,_,_,rfl,eN,?_,fun key=>?_⟩
  ·rw[Z7,ab7];simp only[aaa,aa',aaK,ab4];omega
  ·rw[lV key,aL key];unfold oa;rw[Z7,ab7];simp only[aaa,aa',aaK,ab4];grind
 clear aZ;rintro i ρ aD ⟨e4,f7,v4,gy,v6,f9,rfl,eN,eP,lV⟩ N aZ;obtain⟨p,q,mp,BF,gp,hZ,iv,w2⟩:=RJ aD;refine⟨_,rfl,_,rfl,_,_,rfl,rfl,_,_,_,.inr rfl,rfl,gp,_,rfl,_,rfl,_,_,_,.inr rfl,rfl,hZ,dP p,dP q,rfl,?_⟩;refine⟨_,rfl,_,rfl,rfl,p,q,rfl,a2 _ iv,i' p mp,i' q BF,?_⟩;dsimp only[bN];obtain⟨bt,bz⟩:=G8 (k:=dZ p q p) (x:=(cg e4 f7 (dZ p q p)).getD 0+m) eN;refine eO (fun ρ=>ρ=[.own (.d true t (fH e4 (dZ p q p)) ((f6 e4 f7 (dZ p q p) ((cg e4 f7 (dZ p q p)).getD 0+m)).map D.int)),.val (.lst (rs.map ek)),.val (.int m),.val (ek ps),.val (.int i),.val (dP p),.val (dP q),.val (dP (d7 p q))]) ?_ (fun xE mX=>?_);rotate_left
 ·refine⟨t,e4,_,rfl,_,rfl,_,rfl,by show 2<=sizeLine;decide,dZ p q p,rfl,(fun z=>nomatch z),_,rfl,(cg e4 f7 (dZ p q p)).getD 0,m,Ha _ _ _,rfl,?_⟩;refine⟨t,e4,_,rfl,_,rfl,_,rfl,by show 2<=sizeLine;decide,dZ p q p,rfl,(fun z=>nomatch z),by omega,?_⟩;exact mX _ (by rw[G9];rfl)
 rintro ρ rfl;generalize Uo:fH e4 (dZ p q p)=lp at bt bz;generalize Up:f6 e4 f7 (dZ p q p) ((cg e4 f7 (dZ p q p)).getD 0+m)=ou at bt
 have g3:∀key,(cg lp ou key).getD 0=(cg e4 f7 key).getD 0+(if key=dZ p q p then m else 0):=fun key=>by
  rw[<-Uo,<-Up,G7 _ _ key eN];by_cases e:key=dZ p q p
  ·rw[if_pos e,if_pos e,e];rfl
  ·rw[if_neg e,if_neg e];omega
 obtain⟨e',ZW⟩:=G8 (k:=dZ p q q) (x:=(cg lp ou (dZ p q q)).getD 0-m) bt;refine⟨t,lp,_,rfl,_,rfl,_,rfl,by show 2<=sizeLine;decide,dZ p q q,rfl,(fun z=>nomatch z),_,rfl,(cg lp ou (dZ p q q)).getD 0,m,Ha _ _ _,rfl,?_⟩;refine⟨t,lp,_,rfl,_,rfl,_,rfl,by show 2<=sizeLine;decide,dZ p q q,rfl,(fun z=>nomatch z),by omega,?_⟩;refine aZ _ ⟨fH lp (dZ p q q),f6 lp ou (dZ p q q) ((cg lp ou (dZ p q q)).getD 0-m),.val (.int i),.val (dP p),.val (dP q),.val (dP (d7 p q)),by rw[G9];rfl,e',by omega,fun key=>?_⟩;rw[G7 _ _ key bt,w2]
 have c4:n9 key ((da ps).take i++[(p,q)])=n9 key ((da ps).take i)+tF key (p,q):=by
  unfold n9;rw[Z7,ab7];simp
 have dG:((if key=dZ p q q then some ((cg lp ou (dZ p q q)).getD 0-m)else cg lp ou key).getD 0:Int)=(cg lp ou key).getD 0-(if key=dZ p q q then m else 0):=by
  by_cases e:key=dZ p q q
  ·rw[if_pos e,if_pos e,e];rfl
  ·rw[if_neg e,if_neg e];omega
 rw[dG,g3 key,lV key,c4];unfold tF;dsimp only;split<;>split<;>grind
theorem IG:cG ["_law_rings","_law_others","_law_tally"] ["_law_rings","_law_others"] (b0 yx):=by walk_at "sc"
def CA  : FS:=fun as k=>∃(rs b6:GV),as=[.val (.lst (rs.map ek)),.val (.lst (b6.map ek))]/\(∀ps∈rs,mN ps)/\(∀ps∈b6,mN ps)/\((rs.map aam).sum+(b6.map aam).sum<=4000)/\(fi rs b6)/\k (.val (.bl true))
theorem Uq(B:cM mg)(F:cD K mg "_law_part" yx ["_law_rings","_law_others"])(IH:aI P w K mg base "_law_count" ["_law_tally","_law_rings","_law_number"] 4 (tC K 3 IF)):
  aI P w K mg base "_law_part" ["_law_rings","_law_others"] 5 (aK K 2 CA):=by
 refine df (lv:=4) F IG rfl (fun f cdv A outer s H E ak=>⟨_,(a8 (Rn (b:=true) (i:=2) IG.nd rfl (ZN rfl)) (a8 (GR 2 IH ak (by rfl) (aU (ae 0) (aU aA bU))) (a8 (GR 2 IH ak (by rfl) (aU (ae 1) (aU (iw aA) bU))) (Rq 2 (bC (cc (Ag (dD (nN (ts:=["_law_key"]) (fr:=["_law_tally"]) (js:=[2]) (Rr (ae 2)) (fun _ _ _ _=>(b9 (i:=0) (show aaq (["_law_key","_law_tally"]:List Str) by decide +kernel) rfl (Sz rfl))) (fun _ _ _ _=>jq) (fun _ _ _ _=>(lI (f:=fun i j=>decide (i=j)) h8 (Ro true (tA ak) (ae 1) (ae 0) (fun _ _=>rfl)) aA (dk _))) ⟨rfl,by decide +kernel,rfl,by decide +kernel,ib (aaI.mpr ⟨rfl,(aay _)⟩),iA rfl,by walk_at "ffr",rfl⟩)) rfl (by rfl) B.all_))))))),?_⟩);rintro as k aj ⟨rs,b6,rfl,ak,ay,aj,bal,ah⟩;refine cR (r:=[.val (.lst (rs.map ek)),.val (.lst (b6.map ek)),.no]) rfl ?_;have big:20000<=sizeLine:=by decide
 refine⟨true,none,[],[],rfl,_,rfl,rfl,[],rs,1,rfl,rfl,rfl,rfl,ak,.inl rfl,by simp;omega,fun i6 k1 bt bz e'=>?_⟩;refine⟨true,none,i6,_,rfl,_,rfl,1,rfl,rfl,k1,b6,-1,rfl,rfl,rfl,bt,ay,.inr rfl,?_,fun e4 f7 bw b8 jT=>?_⟩
 ·simp at bz;omega
 have z:∀key,(cg e4 f7 key).getD 0=0:=fun key=>by
  rw[jT key,e' key,RK bal key];simp[cg];omega
 simp at bz;refine⟨true,none,e4,_,rfl,?_⟩;refine⟨_,rfl,true,e4,_,rfl,by rw[Zf];omega,?_⟩;refine lP (f:=ir true) (h:=fun _=>D.bl true) (fun key hm k ah=>?_) ?_
 ·have some:cg e4 (f7.map D.int) key=some (.int 0):=by
   have e:=z key;rw[BG];cases q:cg e4 f7 key with
   | none=>exact absurd hm ((tn bw).mp q)
   | some v=>rw[q]at e;rw[show v=0 from e];rfl
  refine⟨_,rfl,_,rfl,e4,_,key,_,rfl,rfl,(fun z=>nomatch z),some,?_⟩;exact⟨_,_,rfl,rfl,ah⟩
 refine⟨_,rfl,fun d hd=>?_,ah⟩;obtain⟨_,_,e⟩:=Z9.mp hd;exact e.symm
theorem CB:cG ["_law_p","_law_q","_law_r","_law_found"] ["_law_p","_law_q","_law_r"] (b0 yy):=by walk_at "sc"
def II  : FS:=fun as k=>∃(p q r:P3),as=[.val (dP p),.val (dP q),.val (dP r)]/\(cm 2950 p)/\(cm 2950 q)/\(cm 2950 r)/\k (.val (.bl (decide (0<bb p q r))))
theorem Ur(B:cM mg)(F:cD K mg "_law_left" yy ["_law_p","_law_q","_law_r"])  :
  aI P w K mg base "_law_left" ["_law_p","_law_q","_law_r"] 2 (aK K 3 II):=by
 refine df (lv:=1) F CB rfl (fun f cdv A outer s H E ak=>⟨_,(a8 (cF (i:=3) CB.nd rfl (Sz rfl) (cz (aV (ae 0) aA (fun _ _=>rfl)) (e8 (cz (aV (ae 1) aA (fun _ _=>rfl)) (aV (ae 2) aA (fun _ _=>rfl))) (cz (aV (ae 1) aA (fun _ _=>rfl)) (aV (ae 2) aA (fun _ _=>rfl)))))) (a8 (Qz (i:=3) CB.nd rfl (Sz rfl) (cz (aV (ae 0) aA (fun _ _=>rfl)) (e8 (cz (aV (ae 1) aA (fun _ _=>rfl)) (aV (ae 2) aA (fun _ _=>rfl))) (cz (aV (ae 1) aA (fun _ _=>rfl)) (aV (ae 2) aA (fun _ _=>rfl)))))) (bC (cc (lI (f:=fun i j=>decide (j<i)) qc (ed (ae 3) (cz (aV (ae 0) aA (fun _ _=>rfl)) (e8 (cz (aV (ae 1) aA (fun _ _=>rfl)) (aV (ae 2) aA (fun _ _=>rfl))) (cz (aV (ae 1) aA (fun _ _=>rfl)) (aV (ae 2) aA (fun _ _=>rfl)))))) aA (dk _)))))),?_⟩);rintro as k aj ⟨p,q,r,rfl,bp,gx,l6,ah⟩;refine cR (r:=[.val (dP p),.val (dP q),.val (dP r),.no]) rfl ?_;have aa:=bp.a;have ab:=bp.b;have aL:=bp.c;have bo:=gx.a;have de:=gx.b;have fl:=gx.c;have lN:=l6.a;have k0:=l6.b;have tq:=l6.c;have e:bb p q r=p.1*(q.2.1*r.2.2-q.2.2*r.2.1)+p.2.1*(q.2.2*r.1-q.1*r.2.2)+p.2.2*(q.1*r.2.1-q.2.1*r.1):=by unfold bb crs;grind
 rw[e]at ah;walk_at "w";exact ah
theorem Us:cG ["_law_p"] ["_law_p"] (b0 yz):=by walk_at "sc"
def CC  : FS:=fun as k=>∃(p:P3),as=[.val (dP p)]/\(aR p)/\k (.val (.bl true))
theorem Ut(B:cM mg)(F:cD K mg "_law_is_spot" yz ["_law_p"])(xF:aI P w K mg base "_law_whole" ["_law_found"] 2 (aK K 1 Cz))(kk:aI P w K mg base "_law_measure" ["_law_one","_law_other"] 2 (aK K 2 rp)):
  aI P w K mg base "_law_is_spot" ["_law_p"] 3 (aK K 1 CC):=by
 refine df (lv:=2) F Us rfl (fun f cdv A outer s H E ak=>⟨_,(a8 (ei (kB (w_or (g5 (gR (mx (T:="tuple") (ae 0) (by rfl) B.isinstance_ (mc (v:=.ty "tuple") (u:=.type "tuple") (by rfl) B.tuple_ (by decide +kernel) rfl) rfl rfl rfl))) (w_or (e9 (f:=fun i j => !decide (i=j)) rY (jW (ae 0) (by rfl) B.len_) aA (dk _)) (lJ (g5 (gR (Ag (dD (nN (ts:=["_law_number"]) (fr:=[]) (js:=[]) (Et (ae 0)) (fun _ _ _ _=>(b9 (i:=0) (show aaq (["_law_number"]:List Str) by decide +kernel) rfl (Sz rfl))) (fun _ _ _ _=>jq) (fun _ _ _ _=>(aW xF ak (by rfl) (aw (ae 0) aS))) ⟨rfl,by decide +kernel,rfl,by decide +kernel,ib (aay _),iA rfl,by walk_at "ffr",rfl⟩)) rfl (by rfl) B.all_))))))) (bC (cc hR)) ez) (bC (cc (qr (lI (f:=fun i j=>decide (j<i)) qc (aV (ae 0) aA (fun _ _=>rfl)) aA (dk _)) (r7 (lI (f:=fun i j=>decide (i=j)) h8 (aW kk ak (by rfl) (aw (aW kk ak (by rfl) (aw (aV (ae 0) aA (fun _ _=>rfl)) (aw (aV (ae 0) aA (fun _ _=>rfl)) aS))) (aw (aV (ae 0) aA (fun _ _=>rfl)) aS))) aA (dk _))))))),?_⟩);rintro as k aj ⟨p,rfl,ag,ah⟩;refine cR (r:=[.val (dP p)]) rfl ?_;have lR:((Ze ((Ze p.1 p.2.1:Nat):Int) p.2.2:Nat):Int)=1:=by rw[ag.2];rfl
 have cS:=ag.1;refine nD (fun N aZ=>?_) ?_
 ·refine⟨_,rfl,_,_,rfl,fun _=>rfl,_,rfl,gg ?_⟩;refine⟨_,rfl,_,rfl,_,_,rfl,rfl,_,rfl,gg ?_⟩;refine⟨_,rfl,_,rfl,by show 3<=sizeLine;decide,?_⟩;refine lP (f:=D.int) (h:=fun _=>D.bl true) (rs:=[p.1,p.2.1,p.2.2]) (fun i aD k ah=>⟨_,rfl,rfl,i,rfl,ah⟩) ?_;exact⟨_,rfl,fun d hd=>by simp at hd;exact hd,_,rfl,gg aZ⟩
 walk_at "w";rw[if_pos (decide_eq_true cS)];walk_at "w";refine⟨_,_,rfl,?_⟩;dsimp only[bN];walk_at "w";refine⟨_,_,rfl,?_⟩;dsimp only[bN];rw[lR];exact⟨_,_,rfl,rfl,ah⟩
theorem CD:cG ["_law_ring","_law_turns","_law_fans"] ["_law_ring"] (b0 yA):=by walk_at "sc"
def IJ  : FS:=fun as k=>∃(ps:List P3),as=[.val (.lst (ps.map dP))]/\(ps.length<=75)/\(eQ ps)/\(∀p∈ps,c' 2950 p)/\k (.val (.bl true))
theorem Uu(B:cM mg)(F:cD K mg "_law_is_bulging" yA ["_law_ring"])(CE:aI P w K mg base "_law_is_spot" ["_law_p"] 3 (aK K 1 CC))(IK:aI P w K mg base "_law_left" ["_law_p","_law_q","_law_r"] 2 (aK K 3 II)):
  aI P w K mg base "_law_is_bulging" ["_law_ring"] 4 (aK K 1 IJ):=by
 refine df (lv:=3) F CD rfl (fun f cdv A outer s H E ak=>⟨_,(a8 (ei (kB (w_or (g5 (gR (mx (T:="list") (ae 0) (by rfl) B.isinstance_ (mc (v:=.ty "list") (u:=.type "list") (by rfl) B.list_ (by decide +kernel) rfl) rfl rfl rfl))) (w_or (e9 (f:=fun i j=>decide (i<j)) lA (jW (ae 0) (by rfl) B.len_) aA (dk _)) (lJ (g5 (gR (Ag (dD (nN (ts:=["_law_p"]) (fr:=[]) (js:=[]) (iZ (ae 0)) (fun _ _ _ _=>(b9 (i:=0) (show aaq (["_law_p"]:List Str) by decide +kernel) rfl (Sz rfl))) (fun _ _ _ _=>jq) (fun _ _ _ _=>(aW CE ak (by rfl) (aw (ae 0) aS))) ⟨rfl,by decide +kernel,rfl,by decide +kernel,ib (aay _),iA rfl,by walk_at "ffr",rfl⟩)) rfl (by rfl) B.all_))))))) (bC (cc hR)) ez) (a8 (vG 1 (Af (i:=1) CD.nd rfl rfl (ts:=["_law_k"]) (fr:=["_law_ring"]) (js:=[0]) (zP (jW (ae 0) (by rfl) B.len_) (by rfl) B.range_) (fun _ _ _ _=>(b9 (i:=0) (show aaq (["_law_k","_law_ring"]:List Str) by decide +kernel) rfl (Sz rfl))) (fun _ _ _ _=>jq) (fun _ _ _ _=>(aW IK ak (by rfl) (aw (aV (ae 1) (e8 (ae 0) aA) (fun _ _=>rfl)) (aw (aV (ae 1) (e8 (ae 0) aA) (fun _ _=>rfl)) (aw (aV (ae 1) (ae 0) (fun _ _=>rfl)) aS))))) ⟨rfl,by decide +kernel,rfl,by decide +kernel,ib (aaI.mpr ⟨rfl,(aay _)⟩),iA rfl,by walk_at "ffr",rfl⟩)) (a8 (vG 2 (Af (i:=2) CD.nd rfl rfl (ts:=["_law_k"]) (fr:=["_law_ring"]) (js:=[0]) (QG aA (e8 (jW (ae 0) (by rfl) B.len_) aA) (by rfl) B.range_) (fun _ _ _ _=>(b9 (i:=0) (show aaq (["_law_k","_law_ring"]:List Str) by decide +kernel) rfl (Sz rfl))) (fun _ _ _ _=>jq) (fun _ _ _ _=>(aW IK ak (by rfl) (aw (aV (ae 1) aA (fun _ _=>rfl)) (aw (aV (ae 1) (ae 0) (fun _ _=>rfl)) (aw (aV (ae 1) (ed (ae 0) aA) (fun _ _=>rfl)) aS))))) ⟨rfl,by decide +kernel,rfl,by decide +kernel,ib (aaI.mpr ⟨rfl,(aay _)⟩),iA rfl,by walk_at "ffr",rfl⟩)) (bC (cc (qr (EF (ak.units) hR (ae 1) (by rfl)) (r7 (EF (ak.units) hR (ae 2) (by rfl))))))))),?_⟩);rintro as k aj ⟨ps,rfl,aj,cv,ag,ah⟩;refine cR (r:=[.val (.lst (ps.map dP)),.no,.no]) rfl ?_;have big:75<=sizeLine:=by decide
 have e':=cv.1;have len:(ps.map dP).length=ps.length:=Zf ..;have gp:∀n,n<ps.length->c' 2950 (bu ps n):=fun n h=>ag _ (mF h);refine nD (fun N aZ=>?_) ?_
 ·refine⟨_,rfl,_,_,rfl,fun _=>rfl,_,rfl,gg ?_⟩;refine⟨_,rfl,_,rfl,_,_,rfl,rfl,_,rfl,fk (fun g=>by rw[len]at g;omega) (fun _=>?_)⟩;refine⟨_,rfl,_,rfl,by rw[len];omega,?_⟩;refine lP (f:=dP) (h:=fun _=>D.bl true) (fun p hm k ah=>⟨_,rfl,rfl,p,rfl,(ag p hm).pt,ah⟩) ?_;exact⟨_,rfl,fun d hd=>by obtain⟨_,_,e⟩:=Z9.mp hd;exact e.symm,_,rfl,gg aZ⟩
 refine eO (fun ρ=>ρ=[.val (.lst (ps.map dP)),.val (.lst ((aau ps.length).map fun _=>D.bl true)),.no]) ?_ (fun N aZ=>?_);rotate_left
 ·refine⟨_,rfl,_,rfl,_,rfl,by omega,by rw[len];omega,by rw[Zf,acj];omega,?_⟩;rw[len,show((ps.length:Nat):Int).toNat=ps.length by omega];refine lP (f:=fun t:Nat=>D.int t) (h:=fun _=>D.bl true) (fun i aD k ah=>?_) ⟨_,rfl,aZ _ rfl⟩;have aD:=aaY.mp aD;refine⟨_,rfl,_,rfl,_,_,rfl,rfl,_,_,_,.inr rfl,rfl,RM aD (by omega),?_⟩;refine⟨_,rfl,_,rfl,_,_,rfl,rfl,_,_,_,.inr rfl,rfl,Fx aD,?_⟩;refine⟨_,rfl,_,rfl,_,_,_,.inr rfl,rfl,lU aD,rfl,_,_,_,rfl,(gp _ (aby _ (by omega))).bp,(gp _ (aby _ (by omega))).bp,(gp _ aD).bp,?_⟩;rw[decide_eq_true (cv.turn aD)];exact ah
 rintro ρ rfl;refine eO (fun ρ=>ρ=[.val (.lst (ps.map dP)),.val (.lst ((aau ps.length).map fun _=>D.bl true)),.val (.lst ((aau (ps.length-2)).map fun _=>D.bl true))]) ?_ (fun N aZ=>?_);rotate_left
 ·walk_at "w"
  have IL:∀t:Nat,t+1<ps.length->dE (ps.map dP) (1+(t:Int))=some (dP (bu ps (t+1))):=fun t h=>by
   rw[show(1+(t:Int))=((t+1:Nat):Int) by omega];exact lU h
  refine⟨⟨by decide,by decide,by rw[len];omega,by rw[len];omega⟩,by rw[Zf,acj,len];omega,?_⟩;rw[len,show((ps.length:Int)-1-1).toNat=ps.length-2 by omega];refine lP (f:=fun t:Nat=>D.int (1+t)) (h:=fun _=>D.bl true) (fun i aD k ah=>?_) ⟨_,rfl,aZ _ rfl⟩;have aD:=aaY.mp aD;refine⟨_,rfl,_,_,_,.inr rfl,rfl,lU (n:=0) (by omega),?_⟩;refine⟨_,rfl,_,rfl,_,_,_,.inr rfl,rfl,IL i (by omega),?_⟩;refine⟨_,rfl,_,rfl,_,_,rfl,rfl,_,_,_,.inr rfl,rfl,by rw[show(1+(i:Int)+1)=(1+((i+1:Nat):Int)) by omega];exact IL (i+1) (by omega),rfl,_,_,_,rfl,(gp 0 (by omega)).bp,(gp (i+1) (by omega)).bp,(gp (i+2) (by omega)).bp,?_⟩;rw[decide_eq_true (cv.fan (k:=i+1) (by omega) (by omega))];exact ah
 rintro ρ rfl
 have IM:∀n:Nat,¬D.bl false∈(aau n).map fun _=>D.bl true:=fun n h=>by
  obtain⟨_,_,e⟩:=Z9.mp h;cases e
 have eD:∀n:Nat,∀e∈(aau n).map (fun _=>D.bl true),has .B e=true:=fun n e h=>by
  obtain⟨_,_,rfl⟩:=Z9.mp h;rfl
 refine⟨_,rfl,.B,_,.inl rfl,rfl,eD _,by decide,fun b af=>?_⟩
 have ew:b=false:=by
  cases b with
  | false=>rfl
  | true=>exact absurd (af.mp rfl) (IM _)
 subst ew;refine⟨_,rfl,?_⟩;rw[if_pos rfl];refine⟨_,rfl,.B,_,.inl rfl,rfl,eD _,by decide,fun b af=>?_⟩
 have ew:b=false:=by
  cases b with
  | false=>rfl
  | true=>exact absurd (af.mp rfl) (IM _)
 subst ew;exact ah
theorem CF:cG ["_law_p","_law_q","_law_part_here","_law_many","_law_x","_law_y"] ["_law_p","_law_q","_law_part_here","_law_many"] (b0 yB):=by walk_at "sc"
def IP  : FS:=fun as k=>∃(p q:P3)(t:Int),as=[.val (dP p),.val (dP q),.val (.int t),.val (.int 3)]/\(c' 2000 p)/\(c' 2000 q)/\(1<=t)/\(t<=2)/\k (.val (dP (iK p q t)))
theorem Uv(B:cM mg)(F:cD K mg "_law_between" yB ["_law_p","_law_q","_law_part_here","_law_many"])(pR:aI P w K mg base "_law_spot" ["_law_x","_law_y","_law_bottom"] 3 (aK K 3 uf)):
  aI P w K mg base "_law_between" ["_law_p","_law_q","_law_part_here","_law_many"] 4 (aK K 4 IP):=by
 refine df (lv:=3) F CF rfl (fun f cdv A outer s H E ak=>⟨_,(a8 (cF (i:=4) CF.nd rfl (Sz rfl) (ed (cz (cz (aV (ae 0) aA (fun _ _=>rfl)) (aV (ae 1) aA (fun _ _=>rfl))) (e8 (ae 3) (ae 2))) (cz (cz (aV (ae 1) aA (fun _ _=>rfl)) (aV (ae 0) aA (fun _ _=>rfl))) (ae 2)))) (a8 (cF (i:=5) CF.nd rfl (Sz rfl) (ed (cz (cz (aV (ae 0) aA (fun _ _=>rfl)) (aV (ae 1) aA (fun _ _=>rfl))) (e8 (ae 3) (ae 2))) (cz (cz (aV (ae 1) aA (fun _ _=>rfl)) (aV (ae 0) aA (fun _ _=>rfl))) (ae 2)))) (bC (cc (aW pR ak (by rfl) (aw (ae 4) (aw (ae 5) (aw (cz (cz (aV (ae 0) aA (fun _ _=>rfl)) (aV (ae 1) aA (fun _ _=>rfl))) (ae 3)) aS)))))))),?_⟩);rintro as k aj ⟨p,q,t,rfl,ag,ay,t1,cY,ah⟩;refine cR (r:=[.val (dP p),.val (dP q),.val (.int t),.val (.int 3),.no,.no]) rfl ?_;have aa:=ag.bp.a;have ab:=ag.bp.b;have aL:=ag.bp.c;have bo:=ay.bp.a;have de:=ay.bp.b;have fl:=ay.bp.c;have cS:0<p.2.2*q.2.2*3:=ZK (ZK ag.pt.1 ay.pt.1) (by decide);walk_at "w";exact⟨_,_,_,rfl,cS,by walk_at "bits",ah⟩
theorem pS:cG ["_law_bag_here","_law_ring","_law_i","_law_j","_law_p","_law_q"] ["_law_bag_here","_law_ring"] (b0 yC):=by walk_at "sc"
def IQ  : FS:=fun as k=>∃(ps:List P3)(m:Nat),as=[.bag,.val (ek ps)]/\(eQ ps)/\(∀x∈ps,c' m x)/\(m<=700)/\(ps.length<=50)/\∀b6 rs,BS (2*m+3) (ps.length+1) ps b6 rs->k (.val (.tup [ek b6,ek rs]))
theorem Uw(B:cM mg)(F:cD K mg "_law_cut" yC ["_law_bag_here","_law_ring"])(gz:aI P w K mg base "_law_draw" ["_law_bag_here","_law_many"] 1 (aK K 2 (qv 400)))(IS:aI P w K mg base "_law_between" ["_law_p","_law_q","_law_part_here","_law_many"] 4 (aK K 4 IP)):
  aI P w K mg base "_law_cut" ["_law_bag_here","_law_ring"] 5 (aK K 2 IQ):=by
 refine df (lv:=4) F pS rfl (fun f cdv A outer s H E ak=>⟨_,(a8 (cF (i:=2) pS.nd rfl (Sz rfl) (aW gz ak (by rfl) (fZ 0 (aw (jW (ae 1) (by rfl) B.len_) aS)))) (a8 (cF (i:=3) pS.nd rfl (Sz rfl) (aW gz ak (by rfl) (fZ 0 (aw (e8 (jW (ae 1) (by rfl) B.len_) aA) aS)))) (a8 (hS (dD (R7 (dD (fv (aU (ae 2) (aU (ed (ae 3) (Eo (lI (f:=fun i j=>decide (j<=i)) uU (ae 3) (ae 2) (dk _)) (by rfl) B.int_)) bU)))) (by rfl) B.sorted_)) (Pe (n:=2) rfl (c1 (b9 (i:=2) pS.nd rfl (Sz rfl)) (c1 (b9 (i:=3) pS.nd rfl (Sz rfl)) f3)))) (a8 (cF (i:=4) pS.nd rfl (Sz rfl) (aW IS ak (by rfl) (aw (aV (ae 1) (ae 2) (fun _ _=>rfl)) (aw (aV (ae 1) (ed (ae 2) aA) (fun _ _=>rfl)) (aw (ed aA (aW gz ak (by rfl) (fZ 0 (aw aA aS)))) (aw aA aS)))))) (a8 (cF (i:=5) pS.nd rfl (Sz rfl) (aW IS ak (by rfl) (aw (aV (ae 1) (ae 3) (fun _ _=>rfl)) (aw (aV (ae 1) (ve (ed (ae 3) aA) (jW (ae 1) (by rfl) B.len_)) (fun _ _=>rfl)) (aw (ed aA (aW gz ak (by rfl) (fZ 0 (aw aA aS)))) (aw aA aS)))))) (bC (cc (c8 (aU (dD (jm (dD (jm (dD (fv (aU (ae 4) bU))) (dD (se (ae 1) (oZ (ed (ae 2) aA)) (oZ (ed (ae 3) aA)))))) (dD (fv (aU (ae 5) bU))))) (aU (dD (jm (dD (jm (dD (jm (dD (fv (aU (ae 5) bU))) (dD (se (ae 1) (oZ (ed (ae 3) aA)) zR)))) (dD (se (ae 1) zR (oZ (ed (ae 2) aA)))))) (dD (fv (aU (ae 4) bU))))) bU)))))))))),?_⟩);rintro as k aj ⟨ps,m,rfl,cv,ag,hm,aj,ah⟩;refine cR (r:=[.bag,.val (ek ps),.no,.no,.no,.no]) rfl ?_;have e':=cv.1;have len:(ps.map dP).length=ps.length:=Zf ..;have big:10000<=sizeLine:=by decide
 have gp:∀n,n<ps.length->c' 2000 (bu ps n):=fun n h=>(ag _ (mF h)).mono (by omega);walk_at "w";intro a fG a1;walk_at "w";intro b dv a9;rw[len]at a1 a9;walk_at "w";refine .inr ⟨_,rfl,_,_,rfl,rfl,by show 2<=sizeLine;decide,[a,_],rfl,by show 2<64;decide,fun ns pm xb=>?_⟩;obtain⟨I,J,rfl,tR,xG⟩:=Sq fG a1 dv a9 pm xb;clear pm xb;refine⟨_,rfl,rfl,_,_,rfl,_,_,rfl,rfl,?_⟩;refine⟨_,rfl,_,rfl,_,_,_,.inr rfl,rfl,lU (show I<ps.length by omega),?_⟩;refine⟨_,rfl,_,rfl,_,_,rfl,rfl,_,_,_,.inr rfl,rfl,lU (n:=I+1) (show I+1<ps.length by omega),?_⟩;walk_at "w";intro c ha aG;walk_at "w";refine⟨bu ps I,bu ps (I+1),1+c,rfl,gp _ (by omega),gp _ (by omega),by omega,by omega,?_⟩;dsimp only[bN];have ck:(J+1)%ps.length<ps.length:=aby _ (by omega)
 have am:dE (ps.map dP) (((J:Int)+1)%((ps.map dP).length:Int))=some (dP (bu ps ((J+1)%ps.length))):=by
  rw[len,show((J:Int)+1)%(ps.length:Int)=(((J+1)%ps.length:Nat):Int) by push_cast;rfl];exact lU ck
 refine⟨_,rfl,_,rfl,_,_,_,.inr rfl,rfl,lU (n:=J) xG,?_⟩;refine⟨_,rfl,_,rfl,_,_,rfl,rfl,?_⟩;refine⟨_,rfl,_,rfl,_,_,rfl,rfl,by rw[len];omega,_,_,_,.inr rfl,rfl,am,?_⟩;walk_at "w";intro d gI bL;walk_at "w";refine⟨bu ps J,bu ps ((J+1)%ps.length),1+d,rfl,gp _ (by omega),gp _ ck,by omega,by omega,?_⟩;dsimp only[bN];have ok:=Sm (t:=1+c) (u:=1+d) cv ag tR xG (by omega) (by omega) (by omega) (by omega);generalize iK (bu ps I) (bu ps (I+1)) (1+c)=M at ok ⊢;generalize iK (bu ps J) (bu ps ((J+1)%ps.length)) (1+d)=N at ok ⊢;have s1:=AG (ps.map dP) (some ((I:Int)+1)) (some ((J:Int)+1));have s2:=AG (ps.map dP) (some ((J:Int)+1)) none;have s3:=AG (ps.map dP) none (some ((I:Int)+1));have ah:=ah _ _ ok;rw[Su tR xG,Sv tR xG]at ah;walk_at "w";refine⟨by simp only[ZM,Z8,abn];omega,?_⟩;walk_at "w";refine⟨by simp only[ZM,Z8,abn];omega,?_⟩;walk_at "w";refine⟨by simp only[ZM,Z8,abn];omega,?_⟩;walk_at "w";refine⟨by simp only[ZM,Z8,abn];omega,?_⟩;walk_at "w";refine⟨by simp only[ZM,Z8,abn];omega,?_⟩;walk_at "w";exact ah
theorem pT:cG ["_law_bag_here","_law_ring","_law_cuts","_law_parts","_law_k","_law_made","_law_part_here","_law_flag","_law_x"] ["_law_bag_here","_law_ring","_law_cuts"] (b0 yD):=by walk_at "sc"
def IT  : FS:=fun as k=>∃(ps:List P3),as=[.bag,.val (ek ps),.val (.int 3)]/\(eQ ps)/\(∀x∈ps,c' 44 x)/\(ps.length<=4)/\∀sh:List Piece,(∀t∈sh,pP (iN 44 3) 7 t)->sh.length<=4->fi (sh.map fun t=>t.1) [ps]->k (.val (.lst (sh.map dS)))
theorem Ux(B:cM mg)(F:cD K mg "_law_sheet" yD ["_law_bag_here","_law_ring","_law_cuts"])(gz:aI P w K mg base "_law_draw" ["_law_bag_here","_law_many"] 1 (aK K 2 (qv 400)))(Uy:aI P w K mg base "_law_cut" ["_law_bag_here","_law_ring"] 5 (aK K 2 IQ))(pR:aI P w K mg base "_law_spot" ["_law_x","_law_y","_law_bottom"] 3 (aK K 3 uf)):
  aI P w K mg base "_law_sheet" ["_law_bag_here","_law_ring","_law_cuts"] 6 (aK K 3 IT):=by
 refine df (lv:=5) F pT rfl (fun f cdv A outer s H E ak=>⟨_,(a8 (lM (i:=3) pT.nd rfl (Sz rfl) (fv (aU (ae 1) bU))) (a8 (nz PassesOwn.never rfl (zP (aW gz ak (by rfl) (fZ 0 (aw (ed (ae 2) aA) aS))) (by rfl) B.range_) (b9 (i:=4) pT.nd rfl (Sz rfl)) (bC (Sb 3 0 Uy ak (by rfl) (aW gz ak (by rfl) (fZ 0 (aw (MP 3 (by rfl) B.len_) aS)))))) (a8 (lM (i:=5) pT.nd rfl (Sz rfl) (fv bU)) (lL 3 (a8 (nz PassesOwn.never rfl (iZ (ae 3)) (b9 (i:=6) pT.nd rfl (Sz rfl)) (a8 (cF (i:=7) pT.nd rfl (Sz rfl) (lI (f:=fun i j=>decide (i=j)) h8 (aW gz ak (by rfl) (fZ 0 (aw aA aS))) aA (dk _))) (a8 (cF (i:=8) pT.nd rfl (Sz rfl) (e8 (aW gz ak (by rfl) (fZ 0 (aw aA aS))) aA)) (bC (nA 5 (c8 (aU (ae 6) (aU (ae 7) (aU (aW pR ak (by rfl) (aw (ae 8) (aw (e8 (aW gz ak (by rfl) (fZ 0 (aw aA aS))) aA) (aw (ed aA (aW gz ak (by rfl) (fZ 0 (aw aA aS)))) aS)))) bU))))))))) (lL 5 (bC (cc (ae 5))))))))),?_⟩);rintro as k aj ⟨ps,rfl,cv,ag,aj,ah⟩;refine cR (r:=[.bag,.val (ek ps),.val (.int 3),.no,.no,.no,.no,.no,.no]) rfl ?_;have big:10000<=sizeLine:=by decide
 walk_at "w";intro c ha aG;refine⟨_,rfl,by omega,by omega,?_⟩;refine EX (fun i ρ=>∃(rs:List (List P3))(v4:aH),ρ=[.bag,.val (ek ps),.val (.int 3),.own (.l (rs.map ek)),v4,.no,.no,.no,.no]/\pO 44 4 ps i rs) ⟨[ps],_,rfl,T3 cv ag aj⟩ ?_ (fun ρ h=>?_)
 ·rintro i ρ aD ⟨rs,v4,rfl,ok⟩ N aZ;have Cu:=ok.ln;have len:(rs.map ek).length=rs.length:=Zf ..;refine⟨rs.map ek,rfl,rfl,?_⟩;walk_at "w";intro n cS cu;dsimp only[bN];obtain⟨j,rfl⟩:∃j:Nat,n=j:=⟨n.toNat,by omega⟩;have bP:j<rs.length:=by omega
  have ak:rs[j]?=some rs[j]:=aan bP;have hm:rs[j]∈rs:=ac0 bP;generalize rs[j]=r at ak hm;have le:=ok.le r hm;refine⟨j,ek r,rfl,by omega,by rw[aag,ak];rfl,?_⟩;refine⟨r,iN 44 i,rfl,ok.cv r hm,ok.gp r hm,Gq (Cw (c:=3) (by omega)) (by decide),by omega,fun b6 us co=>?_⟩;refine⟨[ek b6,ek us],rfl,by rw[len];show rs.length+2<=_;omega,aZ _ ⟨rs.eraseIdx j++[b6,us],.val (.int i),?_,ok.step ak co⟩⟩;rw[Z7,Hv];rfl
 obtain⟨rs,v4,rfl,ok⟩:=h;walk_at "w";have Cu:=ok.ln;refine qF (f:=ek) (rs:=rs) (done:=[]) (fun pre ρ=>∃(sh:List Piece)(v4 v6 f9 fp:aH),ρ=[.bag,.val (ek ps),.val (.int 3),.val (.lst (rs.map ek)),v4,.own (.l (sh.map dS)),v6,f9,fp]/\(sh.map fun t=>t.1)=pre/\∀t∈sh,c' 20 t.2.2) ⟨[],_,_,_,_,rfl,rfl,fun t bB=>absurd bB (by simp)⟩ ?_ (fun ρ h=>?_);rotate_left
 ·obtain⟨sh,v4,v6,f9,fp,rfl,e,st⟩:=h;rw[aaz]at e;rw[<-e]at ok;obtain⟨aa,ab,aL⟩:=ok.sheet (c:=3) (by omega) (Cw (by omega)) st;exact⟨_,rfl,_,rfl,ah sh aa ab aL⟩
 rintro pre r rest ρ he ⟨sh,v4,v6,f9,fp,rfl,e,st⟩ N aZ;walk_at "w";intro f f0 f1;walk_at "w";intro x x0 bK;walk_at "w";intro y bW bI;walk_at "w";intro z z0 z1;walk_at "w";refine⟨x-40,y-40,1+z,rfl,by omega,by walk_at "bits",?_⟩;dsimp only[bN];have gj:=T5 (x:=x-40) (y:=y-40) (n:=1+z) (by omega) (by omega) (by omega) (by omega) (by omega) (by omega)
 have ZX:sh.length<=rs.length:=by
  have q:=congrArg aam he;rw[aaz,ZM,Z8,<-e,Zf]at q;omega
 refine⟨by show 3<=sizeLine;decide,by rw[Zf];omega,aZ _ ⟨sh++[(r,decide (f=0),cy (x-40) (y-40) (1+z))],_,_,_,_,by rw[Z7];rfl,by rw[Z7,e];rfl,fun t bB=>?_⟩⟩;rcases aae.mp bB with bB|bB
 ·exact st t bB
 ·rw[aac.mp bB];exact gj
theorem mY:cG ["_law_piece","_law_ring","_law_flag","_law_step","_law_sign","_law_made","_law_p","_law_x","_law_y"] ["_law_piece"] (b0 yE):=by walk_at "sc"
def CG  : FS:=fun as k=>∃(s:Piece),as=[.val (dS s)]/\(s.1.length<=75)/\(∀p∈s.1,c' 2900 p)/\(c' 1000 s.2.2)/\k (.val (.lst ((eR s).map dP)))
theorem Uz(B:cM mg)(F:cD K mg "_law_first" yE ["_law_piece"])(pR:aI P w K mg base "_law_spot" ["_law_x","_law_y","_law_bottom"] 3 (aK K 3 uf)):
  aI P w K mg base "_law_first" ["_law_piece"] 4 (aK K 1 CG):=by
 refine df (lv:=3) F mY rfl (fun f cdv A outer s H E ak=>⟨_,(a8 (hS (ae 0) (gk (n:=3) rfl (c1 (b9 (i:=1) mY.nd rfl (Sz rfl)) (c1 (b9 (i:=2) mY.nd rfl (Sz rfl)) (c1 (b9 (i:=3) mY.nd rfl (Sz rfl)) f3))))) (a8 (cF (i:=4) mY.nd rfl (Sz rfl) (e8 aA (cz aA (Eo (ae 2) (by rfl) B.int_)))) (a8 (lM (i:=5) mY.nd rfl (Sz rfl) (fv bU)) (a8 (nz PassesOwn.never rfl (iZ (ae 1)) (b9 (i:=6) mY.nd rfl (Sz rfl)) (a8 (cF (i:=7) mY.nd rfl (Sz rfl) (e8 (cz (aV (ae 6) aA (fun _ _=>rfl)) (aV (ae 3) aA (fun _ _=>rfl))) (cz (aV (ae 3) aA (fun _ _=>rfl)) (aV (ae 6) aA (fun _ _=>rfl))))) (a8 (cF (i:=8) mY.nd rfl (Sz rfl) (e8 (cz (aV (ae 6) aA (fun _ _=>rfl)) (aV (ae 3) aA (fun _ _=>rfl))) (cz (aV (ae 3) aA (fun _ _=>rfl)) (aV (ae 6) aA (fun _ _=>rfl))))) (bC (nA 5 (aW pR ak (by rfl) (aw (cz (ae 4) (ae 7)) (aw (cz (ae 4) (ae 8)) (aw (cz (aV (ae 6) aA (fun _ _=>rfl)) (aV (ae 3) aA (fun _ _=>rfl))) aS))))))))) (lL 5 (bC (cc (ae 5)))))))),?_⟩);rintro as k aj ⟨s,rfl,aj,ag,aq,ah⟩;refine cR (r:=[.val (dS s),.no,.no,.no,.no,.no,.no,.no,.no]) rfl ?_;have big:75<=sizeLine:=by decide
 have aa:=aq.bp.a;have ab:=aq.bp.b;have aL:=aq.bp.c;refine⟨_,rfl,_,rfl,rfl,_,_,rfl,_,_,rfl,_,_,rfl,rfl,?_⟩;walk_at "w"
 have vQ:(if s.2.1=true then(1:Int)else 0)=0∨(if s.2.1=true then(1:Int)else 0)=1:=by
  cases s.2.1<;>simp
 have UA:intBits (if s.2.1=true then(1:Int)else 0)<=9:=by rcases vQ with e|e<;>rw[e]<;>decide
 have hu:intBits (1-2*(if s.2.1=true then(1:Int)else 0))<=9:=by rcases vQ with e|e<;>rw[e]<;>decide
 refine .inr ⟨s.2.1,rfl,2,_,rfl,rfl,⟨by decide,Gq UA (by decide)⟩,1,_,rfl,rfl,?_⟩
 have ah:k (.val (.lst ((s.1.map fun p=>cy ((1-2*(if s.2.1=true then 1 else 0))*(p.1*s.2.2.2.2-s.2.2.1*p.2.2)) ((1-2*(if s.2.1=true then 1 else 0))*(p.2.1*s.2.2.2.2-s.2.2.2.1*p.2.2)) (p.2.2*s.2.2.2.2)).map dP))):=by
  rw[ob]at ah;have e:(s.1.map fun p=>cy ((1-2*(if s.2.1=true then 1 else 0))*(p.1*s.2.2.2.2-s.2.2.1*p.2.2)) ((1-2*(if s.2.1=true then 1 else 0))*(p.2.1*s.2.2.2.2-s.2.2.2.1*p.2.2)) (p.2.2*s.2.2.2.2))=s.1.map fun p=>if s.2.1=true then trn (nP (sld (trn s.2.2) p))else nP (sld (trn s.2.2) p):=abg fun p hm=>RO (ag p hm).pt aq.pt s.2.1
  rw[e];exact ah
 dsimp only;generalize(1-2*(if s.2.1=true then(1:Int)else 0))=g at hu ah ⊢;refine cR (r:=[.val (dS s),.val (.lst (s.1.map dP)),.val (.bl s.2.1),.val (dP s.2.2),.val (.int g),.no,.no,.no,.no]) rfl ?_;walk_at "wd";refine qF (f:=dP) (rs:=s.1) (done:=[]) (fun pre ρ=>∃v6 f9 fp,ρ=[.val (dS s),.val (.lst (s.1.map dP)),.val (.bl s.2.1),.val (dP s.2.2),.val (.int g),.own ((pre.map fun p=>cy (g*(p.1*s.2.2.2.2-s.2.2.1*p.2.2)) (g*(p.2.1*s.2.2.2.2-s.2.2.2.1*p.2.2)) (p.2.2*s.2.2.2.2)).map dP),v6,f9,fp]) ⟨_,_,_,rfl⟩ ?_ (fun ρ h=>?_);rotate_left
 ·obtain⟨v6,f9,fp,rfl⟩:=h;exact⟨_,rfl,_,rfl,ah⟩
 rintro pre p rest ρ he ⟨v6,f9,fp,rfl⟩ N aZ;have hm:p∈s.1:=by rw[aaz]at he;rw[he];simp
 have bo:=(ag p hm).bp.a;have de:=(ag p hm).bp.b;have fl:=(ag p hm).bp.c;have c0:pre.length<s.1.length:=by rw[aaz]at he;rw[he,ZM,Z8];omega
 walk_at "w";refine⟨_,_,_,rfl,ZK (ag p hm).pt.1 aq.pt.1,by walk_at "bits",?_⟩;dsimp only[bN];refine⟨by rw[Zf,Zf];omega,aZ _ ⟨.val (dP p),.val (.int (p.1*s.2.2.2.2-s.2.2.1*p.2.2)),.val (.int (p.2.1*s.2.2.2.2-s.2.2.2.1*p.2.2)),?_⟩⟩;rw[Z7,Z7];rfl
theorem CH:cG ["_law_olds","_law_news","_law_flag","_law_near"] ["_law_olds","_law_news"] (b0 yF):=by walk_at "sc"
def IU  : FS:=fun as k=>∃(os ns:List Piece),as=[.val (.lst (os.map dS)),.val (.lst (ns.map dS))]/\(os.length<=40)/\(ns.length<=110)/\(∀s∈os,hj s)/\(∀s∈ns,hj s)/\(∀b:Bool,fi ((ns.filter fun s=>s.2.1==b).map eR) ((os.filter fun s=>s.2.1==b).map eR))/\k (.val (.bl true))
theorem UB(B:cM mg)(F:cD K mg "_law_kept" yF ["_law_olds","_law_news"])(IV:aI P w K mg base "_law_first" ["_law_piece"] 4 (aK K 1 CG))(CI:aI P w K mg base "_law_part" ["_law_rings","_law_others"] 5 (aK K 2 CA)):
  aI P w K mg base "_law_kept" ["_law_olds","_law_news"] 6 (aK K 2 IU):=by
 refine df (lv:=5) F CH rfl (fun f cdv A outer s H E ak=>⟨_,(a8 (nz PassesOwn.never rfl (Et (c8 (aU hR (aU hR bU)))) (b9 (i:=2) CH.nd rfl (ZN rfl)) (a8 (vG 3 (Af (i:=3) CH.nd rfl rfl (ts:=["_law_piece"]) (fr:=["_law_flag"]) (js:=[2]) (iZ (ae 1)) (fun _ _ _ _=>(b9 (i:=0) (show aaq (["_law_piece","_law_flag"]:List Str) by decide +kernel) rfl (Sz rfl))) (fun _ _ _ _=>(EV (z4 (ak.units) (aV (ae 0) aA (fun _ _=>rfl)) (ae 1) (dk _)))) (fun _ _ _ _=>(aW IV ak (by rfl) (aw (ae 0) aS))) ⟨rfl,by decide +kernel,rfl,by decide +kernel,ib (aaI.mpr ⟨rfl,(aay _)⟩),iA rfl,by walk_at "ffr",rfl⟩)) (bC (ei (g5 (gR (aW CI ak (by rfl) (aw (ae 3) (aw (dD (nN (ts:=["_law_piece"]) (fr:=["_law_flag"]) (js:=[2]) (iZ (ae 0)) (fun _ _ _ _=>(b9 (i:=0) (show aaq (["_law_piece","_law_flag"]:List Str) by decide +kernel) rfl (Sz rfl))) (fun _ _ _ _=>(EV (z4 (ak.units) (aV (ae 0) aA (fun _ _=>rfl)) (ae 1) (dk _)))) (fun _ _ _ _=>(aW IV ak (by rfl) (aw (ae 0) aS))) ⟨rfl,by decide +kernel,rfl,by decide +kernel,ib (aaI.mpr ⟨rfl,(aay _)⟩),iA rfl,by walk_at "ffr",rfl⟩)) aS))))) (bC (cc hR)) ez)))) (bC (cc hR))),?_⟩);rintro as k aj ⟨os,ns,rfl,aE,aN,CJ,nk,bal,ah⟩;refine cR (r:=[.val (.lst (os.map dS)),.val (.lst (ns.map dS)),.no,.no]) rfl ?_;have big:1000<=sizeLine:=by decide
 refine eO (fun ρ=>∃v2 ae,ρ=[.val (.lst (os.map dS)),.val (.lst (ns.map dS)),v2,ae]) ?_ (fun N aZ=>?_)
 ·rintro ρ ⟨v2,ae,rfl⟩;exact ah
 refine⟨by show 2<=sizeLine;decide,_,rfl,?_⟩;refine qF (f:=D.bl) (rs:=[false,true]) (done:=[]) (fun _ ρ=>∃v2 ae,ρ=[.val (.lst (os.map dS)),.val (.lst (ns.map dS)),v2,ae]) ⟨_,_,rfl⟩ ?_ (fun ρ h=>aZ _ h);clear aZ;rintro pre b rest ρ he ⟨v2,ae,rfl⟩ N aZ
 have flt:∀(L:List Piece),(∀s∈L,hj s)->L.length<=110->∀(k:List D->Prop),k (((L.filter fun s=>s.2.1==b).map eR).map ek)->gS (gi 0) (oX (so false (El (dC 0) (qp (D.int 1))) (dC 1))) (kD 1 CG (eE (dC 0) nv)) (L.map dS) [.no,.val (.bl b)] k:=fun L eW aj k ah=>by
  refine Bb (f:=dS) (h:=fun s=>ek (eR s)) (P:=fun s=>s.2.1==b) (fun s hm k ah=>?_) (fun s hm k ah=>?_) (by rw[aap]at ah;exact ah)
  ·refine⟨_,rfl,_,_,_,.inl rfl,rfl,rfl,_,rfl,.B,rfl,rfl,by decide,_,rfl,?_⟩;rw[RP];exact ah
  ·have pc:=eW s hm;exact⟨_,rfl,rfl,s,rfl,Gq pc.ln (by decide),fun p ag=>(pc.ps p ag),pc.st.mono (by decide),ah⟩
 have sz:∀(L:List Piece),(∀s∈L,hj s)->L.length<=110->((((L.filter fun s=>s.2.1==b).map eR)).map aam).sum<=2640:=fun L eW aj=>by
  rw[aap]
  have:=w3 (f:=aam∘eR) (m:=24) (l:=L.filter fun s=>s.2.1==b) fun s hm=>by
   show(eR s).length<=24
   rw[Hd];exact(eW s (abt.mp hm).1).ln
  have bz:=acu (fun s:Piece=>s.2.1==b) L;omega
 have rg:∀(L:List Piece),(∀s∈L,hj s)->∀ps∈(L.filter fun s=>s.2.1==b).map eR,mN ps:=fun L eW ps ag=>by
  obtain⟨s,hm,rfl⟩:=Z9.mp ag;exact(eW s (abt.mp hm).1).first.1
 refine eO (fun ρ=>ρ=[.val (.lst (os.map dS)),.val (.lst (ns.map dS)),.val (.bl b),.val (.lst (((ns.filter fun s=>s.2.1==b).map eR).map ek))]) ?_ (fun xE mX=>?_);rotate_left
 ·refine⟨_,rfl,_,rfl,by rw[Zf];omega,?_⟩;exact flt ns nk aN _ ⟨_,rfl,mX _ rfl⟩
 rintro ρ rfl;refine⟨_,rfl,_,rfl,_,rfl,by rw[Zf];omega,?_⟩;refine flt os CJ (by omega) _ ?_
 have z1:((((os.filter fun s=>s.2.1==b).map eR)).map aam).sum<=960:=by
  rw[aap]
  have:=w3 (f:=aam∘eR) (m:=24) (l:=os.filter fun s=>s.2.1==b) fun s hm=>by
   show(eR s).length<=24
   rw[Hd];exact(CJ s (abt.mp hm).1).ln
  have bz:=acu (fun s:Piece=>s.2.1==b) os;omega
 have aQ:=sz ns nk aN;exact⟨rfl,_,_,rfl,rg ns nk,rg os CJ,by omega,bal b,_,rfl,gg (aZ _ ⟨_,_,rfl⟩)⟩
theorem IW:cG ["_law_sheet_here","_law_ring","_law_piece"] ["_law_sheet_here","_law_ring"] (b0 yG):=by walk_at "sc"
def IX  : FS:=fun as k=>∃(sh:List Piece)(b6:List P3),as=[.val (.lst (sh.map dS)),.val (.lst (b6.map dP))]/\(sh.length<=110)/\(∀s∈sh,hj s)/\(mN b6)/\(fi (sh.map fun s=>s.1) [b6])/\k (.val (.bl true))
theorem UC(B:cM mg)(F:cD K mg "_law_lies" yG ["_law_sheet_here","_law_ring"])(UD:aI P w K mg base "_law_is_bulging" ["_law_ring"] 4 (aK K 1 IJ))(CE:aI P w K mg base "_law_is_spot" ["_law_p"] 3 (aK K 1 CC))(CI:aI P w K mg base "_law_part" ["_law_rings","_law_others"] 5 (aK K 2 CA)):
  aI P w K mg base "_law_lies" ["_law_sheet_here","_law_ring"] 6 (aK K 2 IX):=by
 refine df (lv:=5) F IW rfl (fun f cdv A outer s H E ak=>⟨_,(a8 (ei (g5 (gR (mx (T:="list") (ae 0) (by rfl) B.isinstance_ (mc (v:=.ty "list") (u:=.type "list") (by rfl) B.list_ (by decide +kernel) rfl) rfl rfl rfl))) (bC (cc hR)) ez) (a8 (nz PassesOwn.never rfl (iZ (ae 0)) (b9 (i:=2) IW.nd rfl (Sz rfl)) (a8 (ei (kB (w_or (g5 (gR (mx (T:="tuple") (ae 2) (by rfl) B.isinstance_ (mc (v:=.ty "tuple") (u:=.type "tuple") (by rfl) B.tuple_ (by decide +kernel) rfl) rfl rfl rfl))) (w_or (e9 (f:=fun i j => !decide (i=j)) rY (jW (ae 2) (by rfl) B.len_) aA (dk _)) (lJ (g5 (gR (mx (T:="bool") (aV (ae 2) aA (fun _ _=>rfl)) (by rfl) B.isinstance_ (mc (v:=.ty "bool") (u:=.type "bool") (by rfl) B.bool_ (by decide +kernel) rfl) rfl rfl rfl))))))) (bC (cc hR)) ez) (bC (ei (kB (w_or (g5 (gR (aW UD ak (by rfl) (aw (aV (ae 2) aA (fun _ _=>rfl)) aS)))) (lJ (g5 (gR (aW CE ak (by rfl) (aw (aV (ae 2) aA (fun _ _=>rfl)) aS))))))) (bC (cc hR)) ez)))) (bC (cc (aW CI ak (by rfl) (aw (dD (nN (ts:=["_law_piece"]) (fr:=[]) (js:=[]) (iZ (ae 0)) (fun _ _ _ _=>(b9 (i:=0) (show aaq (["_law_piece"]:List Str) by decide +kernel) rfl (Sz rfl))) (fun _ _ _ _=>jq) (fun _ _ _ _=>(aV (ae 0) aA (fun _ _=>rfl))) ⟨rfl,by decide +kernel,rfl,by decide +kernel,ib (aay _),iA rfl,by walk_at "ffr",rfl⟩)) (aw (dD (fv (aU (ae 1) bU))) aS))))))),?_⟩);rintro as k aj ⟨sh,b6,rfl,aj,aq,ay,bal,ah⟩;refine cR (r:=[.val (.lst (sh.map dS)),.val (.lst (b6.map dP)),.no]) rfl ?_;have big:1000<=sizeLine:=by decide
 refine nD (fun N aZ=>?_) ?_
 ·exact⟨_,rfl,_,_,rfl,fun _=>rfl,_,rfl,gg aZ⟩
 refine eO (fun ρ=>∃v2,ρ=[.val (.lst (sh.map dS)),.val (.lst (b6.map dP)),v2]) ?_ (fun N aZ=>?_);rotate_left
 ·refine⟨_,rfl,_,rfl,?_⟩;refine qF (f:=dS) (rs:=sh) (done:=[]) (fun _ ρ=>∃v2,ρ=[.val (.lst (sh.map dS)),.val (.lst (b6.map dP)),v2]) ⟨_,rfl⟩ ?_ (fun ρ h=>aZ _ h);rintro pre s rest ρ he ⟨v2,rfl⟩ N aZ;have pc:=aq s (by rw[aaz]at he;rw[he];simp);refine nD (fun xE mX=>?_) ?_
  ·refine⟨_,rfl,_,_,rfl,fun _=>rfl,_,rfl,gg ?_⟩;refine⟨_,rfl,_,rfl,_,_,rfl,rfl,_,rfl,gg ?_⟩;exact⟨_,rfl,_,_,_,.inl rfl,rfl,rfl,_,_,rfl,fun _=>rfl,_,rfl,gg mX⟩
  refine⟨_,rfl,_,_,_,.inl rfl,rfl,rfl,rfl,s.1,rfl,Gq pc.ln (by decide),pc.cv,fun p ag=>(pc.ps p ag).mono (by decide),_,rfl,gg ?_⟩;exact⟨_,rfl,_,_,_,.inl rfl,rfl,rfl,rfl,s.2.2,rfl,pc.st.pt,_,rfl,gg (aZ _ ⟨_,rfl⟩)⟩
 rintro ρ ⟨v2,rfl⟩;refine⟨_,rfl,_,rfl,by rw[Zf];omega,?_⟩;refine lP (f:=dS) (h:=fun s=>ek s.1) (fun s hm k ah=>⟨_,rfl,_,_,_,.inl rfl,rfl,rfl,ah⟩) ?_;have gM:=w3 (f:=fun s:Piece=>s.1.length) (m:=24) (l:=sh) fun s hm=>(aq s hm).ln;refine⟨_,rfl,by show 1<=sizeLine;decide,rfl,sh.map (fun s=>s.1),[b6],by rw[aap];rfl,?_,?_,?_,bal,ah⟩
 ·intro ps ag;obtain⟨s,hm,rfl⟩:=Z9.mp ag;exact(aq s hm).rg
 ·intro ps ag;rw[aac.mp ag];exact ay
 ·rw[aap];have e:(sh.map (aam∘fun s=>s.1)).sum=(sh.map fun s:Piece=>s.1.length).sum:=rfl;have:=ay.1;rw[e];simp only[aaa,aa',aaK,ab4];omega
theorem UE:cG ["_law_sheet_here"] ["_law_sheet_here"] (b0 yH):=by walk_at "sc"
def IY  : FS:=fun as k=>∃(sh:List Piece),as=[.val (.lst (sh.map dS))]/\(sh.length<=100)/\k (.own (sh.map dS))
theorem UG(B:cM mg)(F:cD K mg "_law_copied" yH ["_law_sheet_here"])  :
  aI P w K mg base "_law_copied" ["_law_sheet_here"] 2 (aK K 1 IY):=by
 refine df (lv:=1) F UE rfl (fun f cdv A outer s H E ak=>⟨_,(bC (zN (nN (ts:=["_law_ring","_law_flag","_law_step"]) (fr:=[]) (js:=[]) (iZ (ae 0)) (fun _ _ _ _=>(gk (n:=3) rfl (c1 (b9 (i:=0) (show aaq (["_law_ring","_law_flag","_law_step"]:List Str) by decide +kernel) rfl (Sz rfl)) (c1 (b9 (i:=1) (show aaq (["_law_ring","_law_flag","_law_step"]:List Str) by decide +kernel) rfl (Sz rfl)) (c1 (b9 (i:=2) (show aaq (["_law_ring","_law_flag","_law_step"]:List Str) by decide +kernel) rfl (Sz rfl)) f3))))) (fun _ _ _ _=>jq) (fun _ _ _ _=>(c8 (aU (dD (M' (ae 0) (by rfl) B.list_)) (aU (ae 1) (aU (ae 2) bU))))) ⟨rfl,by decide +kernel,rfl,by decide +kernel,ib (aay _),iA rfl,by walk_at "ffr",rfl⟩))),?_⟩);rintro as k aj ⟨sh,rfl,aj,ah⟩;refine cR (r:=[.val (.lst (sh.map dS))]) rfl ?_;have big:1000<=sizeLine:=by decide
 refine⟨_,rfl,_,rfl,by rw[Zf];omega,?_⟩;exact AE (h:=dS) (fs:=[]) (fun s aq ck qN=>⟨_,rfl,_,.inl rfl,_,rfl,_,rfl,by show 3<=sizeLine;decide,qN⟩) ah
theorem UH:cG ["_law_one","_law_other"] ["_law_one","_law_other"] (b0 yI):=by walk_at "sc"
def CK  : FS:=fun as k=>∃(r s:bx),as=[.val (dR r),.val (dR s)]/\(0<r.2)/\(0<s.2)/\(intBits r.1<=1000)/\(intBits r.2<=1000)/\(intBits s.1<=1000)/\(intBits s.2<=1000)/\k (.val (dR (cA (r.1*s.1) (r.2*s.2))))
theorem UI(B:cM mg)(F:cD K mg "_law_product" yI ["_law_one","_law_other"])(rr:aI P w K mg base "_law_low" ["_law_top","_law_bottom"] 3 (aK K 2 xD)):
  aI P w K mg base "_law_product" ["_law_one","_law_other"] 4 (aK K 2 CK):=by
 refine df (lv:=3) F UH rfl (fun f cdv A outer s H E ak=>⟨_,(bC (cc (aW rr ak (by rfl) (aw (cz (aV (ae 0) aA (fun _ _=>rfl)) (aV (ae 1) aA (fun _ _=>rfl))) (aw (cz (aV (ae 0) aA (fun _ _=>rfl)) (aV (ae 1) aA (fun _ _=>rfl))) aS))))),?_⟩);rintro as k aj ⟨r,s,rfl,aa,ab,a9,bf,dO,fw,ah⟩;refine cR (r:=[.val (dR r),.val (dR s)]) rfl ?_;walk_at "w";exact⟨_,_,rfl,ZK aa ab,by walk_at "bits",ah⟩
theorem UJ:cG ["_law_one","_law_other"] ["_law_one","_law_other"] (b0 yJ):=by walk_at "sc"
def UK  : FS:=fun as k=>∃(r s:bx),as=[.val (dR r),.val (dR s)]/\(0<r.2)/\(0<s.2)/\(intBits r.1<=1000)/\(intBits r.2<=1000)/\(intBits s.1<=1000)/\(intBits s.2<=1000)/\k (.val (dR (cA (r.1*s.2-s.1*r.2) (r.2*s.2))))
theorem UL(B:cM mg)(F:cD K mg "_law_less" yJ ["_law_one","_law_other"])(rr:aI P w K mg base "_law_low" ["_law_top","_law_bottom"] 3 (aK K 2 xD)):
  aI P w K mg base "_law_less" ["_law_one","_law_other"] 4 (aK K 2 UK):=by
 refine df (lv:=3) F UJ rfl (fun f cdv A outer s H E ak=>⟨_,(bC (cc (aW rr ak (by rfl) (aw (e8 (cz (aV (ae 0) aA (fun _ _=>rfl)) (aV (ae 1) aA (fun _ _=>rfl))) (cz (aV (ae 1) aA (fun _ _=>rfl)) (aV (ae 0) aA (fun _ _=>rfl)))) (aw (cz (aV (ae 0) aA (fun _ _=>rfl)) (aV (ae 1) aA (fun _ _=>rfl))) aS))))),?_⟩);rintro as k aj ⟨r,s,rfl,aa,ab,a9,bf,dO,fw,ah⟩;refine cR (r:=[.val (dR r),.val (dR s)]) rfl ?_;walk_at "w";exact⟨_,_,rfl,ZK aa ab,by walk_at "bits",ah⟩
theorem UM:cG ["_law_x","_law_y"] ["_law_x","_law_y"] (b0 yK):=by walk_at "sc"
def IZ  : FS:=fun as k=>∃(r s:bx),as=[.val (dR r),.val (dR s)]/\(0<r.2)/\(0<s.2)/\(intBits r.1<=1000)/\(intBits r.2<=1000)/\(intBits s.1<=1000)/\(intBits s.2<=1000)/\k (.val (dP (cy (r.1*s.2) (s.1*r.2) (r.2*s.2))))
theorem UN(B:cM mg)(F:cD K mg "_law_pin" yK ["_law_x","_law_y"])(pR:aI P w K mg base "_law_spot" ["_law_x","_law_y","_law_bottom"] 3 (aK K 3 uf)):
  aI P w K mg base "_law_pin" ["_law_x","_law_y"] 4 (aK K 2 IZ):=by
 refine df (lv:=3) F UM rfl (fun f cdv A outer s H E ak=>⟨_,(bC (cc (aW pR ak (by rfl) (aw (cz (aV (ae 0) aA (fun _ _=>rfl)) (aV (ae 1) aA (fun _ _=>rfl))) (aw (cz (aV (ae 1) aA (fun _ _=>rfl)) (aV (ae 0) aA (fun _ _=>rfl))) (aw (cz (aV (ae 0) aA (fun _ _=>rfl)) (aV (ae 1) aA (fun _ _=>rfl))) aS)))))),?_⟩);rintro as k aj ⟨r,s,rfl,aa,ab,a9,bf,dO,fw,ah⟩;refine cR (r:=[.val (dR r),.val (dR s)]) rfl ?_;walk_at "w";exact⟨_,_,_,rfl,ZK aa ab,by walk_at "bits",ah⟩
theorem UO:cG ["_law_wide","_law_high"] ["_law_wide","_law_high"] (b0 yL):=by walk_at "sc"
def CL  : FS:=fun as k=>∃(w h:bx),as=[.val (dR w),.val (dR h)]/\(aO w.1 w.2)/\(aO h.1 h.2)/\(intBits w.1<=400)/\(intBits w.2<=400)/\(intBits h.1<=400)/\(intBits h.2<=400)/\k (.val (.lst ((ie w h).map dP)))
theorem UP(B:cM mg)(F:cD K mg "_law_box" yL ["_law_wide","_law_high"])(CM:aI P w K mg base "_law_pin" ["_law_x","_law_y"] 4 (aK K 2 IZ)):
  aI P w K mg base "_law_box" ["_law_wide","_law_high"] 5 (aK K 2 CL):=by
 refine df (lv:=4) F UO rfl (fun f cdv A outer s H E ak=>⟨_,(bC (cc (dD (fv (aU (c8 (aU aA (aU aA (aU aA bU)))) (aU (aW CM ak (by rfl) (aw (ae 0) (aw (c8 (aU aA (aU aA bU))) aS))) (aU (aW CM ak (by rfl) (aw (ae 0) (aw (ae 1) aS))) (aU (aW CM ak (by rfl) (aw (c8 (aU aA (aU aA bU))) (aw (ae 1) aS))) bU)))))))),?_⟩);rintro as k aj ⟨w,h,rfl,bt,bz,a9,bf,dO,fw,ah⟩;refine cR (r:=[.val (dR w),.val (dR h)]) rfl ?_;have ex:cy (w.1*1) (0*w.2) (w.2*1)=(w.1,0,w.2):=by rw[ab9,aa3,ab9];exact E4 (AH bt)
 have fQ:cy (0*h.2) (h.1*1) (1*h.2)=(0,h.1,h.2):=by rw[aa3,ab9,ac7];exact E4 (AI bz)
 refine⟨by show 3<=sizeLine;decide,?_⟩;refine⟨_,rfl,by show 2<=sizeLine;decide,rfl,w,(0,1),rfl,bt.1,by decide,Gq a9 (by decide),Gq bf (by decide),by decide,by decide,?_⟩;dsimp only[bN];rw[ex];refine⟨_,rfl,_,rfl,rfl,w,h,rfl,bt.1,bz.1,Gq a9 (by decide),Gq bf (by decide),Gq dO (by decide),Gq fw (by decide),?_⟩;dsimp only[bN];refine⟨by show 2<=sizeLine;decide,_,rfl,rfl,(0,1),h,rfl,by decide,bz.1,by decide,by decide,Gq dO (by decide),Gq fw (by decide),?_⟩;dsimp only[bN];rw[fQ];exact⟨by show 4<=sizeLine;decide,ah⟩
theorem UQ:cG ["_law_found"] ["_law_found"] (b0 yN):=by walk_at "sc"
def I0  : FS:=fun as k=>∃(r:bx),as=[.val (dR r)]/\(aO r.1 r.2)/\(0<r.1)/\k (.val (.bl true))
theorem UR(B:cM mg)(F:cD K mg "_law_is_low" yN ["_law_found"])(xF:aI P w K mg base "_law_whole" ["_law_found"] 2 (aK K 1 Cz))(kk:aI P w K mg base "_law_measure" ["_law_one","_law_other"] 2 (aK K 2 rp)):
  aI P w K mg base "_law_is_low" ["_law_found"] 3 (aK K 1 I0):=by
 refine df (lv:=2) F UQ rfl (fun f cdv A outer s H E ak=>⟨_,(a8 (ei (kB (w_or (g5 (gR (mx (T:="tuple") (ae 0) (by rfl) B.isinstance_ (mc (v:=.ty "tuple") (u:=.type "tuple") (by rfl) B.tuple_ (by decide +kernel) rfl) rfl rfl rfl))) (w_or (e9 (f:=fun i j => !decide (i=j)) rY (jW (ae 0) (by rfl) B.len_) aA (dk _)) (w_or (g5 (gR (aW xF ak (by rfl) (aw (aV (ae 0) aA (fun _ _=>rfl)) aS)))) (lJ (g5 (gR (aW xF ak (by rfl) (aw (aV (ae 0) aA (fun _ _=>rfl)) aS))))))))) (bC (cc hR)) ez) (bC (cc (qr (lI (f:=fun i j=>decide (j<i)) qc (aV (ae 0) aA (fun _ _=>rfl)) aA (dk _)) (qr (lI (f:=fun i j=>decide (j<i)) qc (aV (ae 0) aA (fun _ _=>rfl)) aA (dk _)) (r7 (lI (f:=fun i j=>decide (i=j)) h8 (aW kk ak (by rfl) (aw (aV (ae 0) aA (fun _ _=>rfl)) (aw (aV (ae 0) aA (fun _ _=>rfl)) aS))) aA (dk _)))))))),?_⟩);rintro as k aj ⟨r,rfl,aj,h0,ah⟩;refine cR (r:=[.val (dR r)]) rfl ?_;have lR:((Ze r.1 r.2:Nat):Int)=1:=by rw[aj.2];rfl
 have cS:=aj.1;refine nD (fun N aZ=>?_) ?_
 ·refine⟨_,rfl,_,_,rfl,fun _=>rfl,_,rfl,gg ?_⟩;refine⟨_,rfl,_,rfl,_,_,rfl,rfl,_,rfl,gg ?_⟩;refine⟨_,rfl,_,_,_,.inl rfl,rfl,rfl,rfl,r.1,rfl,_,rfl,gg ?_⟩;exact⟨_,rfl,_,_,_,.inl rfl,rfl,rfl,rfl,r.2,rfl,_,rfl,gg aZ⟩
 walk_at "w";rw[if_pos (decide_eq_true h0)];walk_at "w";rw[if_pos (decide_eq_true cS)];walk_at "w";refine⟨_,_,rfl,?_⟩;dsimp only[bN];rw[lR];exact⟨_,_,rfl,rfl,ah⟩
theorem US:cG ["_law_found"] ["_law_found"] (b0 yM):=by walk_at "sc"
def I1  : FS:=fun as k=>∃(w h:bx)(sh:List Piece),as=[.val (.tup [dR w,dR h,.lst (sh.map dS)])]/\(aO w.1 w.2)/\(aO h.1 h.2)/\(intBits w.1<=140)/\(intBits w.2<=140)/\(intBits h.1<=140)/\(intBits h.2<=140)/\(0<w.1)/\(0<h.1)/\(sh.length<=110)/\(∀s∈sh,hj s)/\(fi (sh.map fun s=>s.1) [ie w h])/\k (.val (.bl true))
theorem UT(B:cM mg)(F:cD K mg "_law_is_box" yM ["_law_found"])(I2:aI P w K mg base "_law_is_low" ["_law_found"] 3 (aK K 1 I0))(UU:aI P w K mg base "_law_lies" ["_law_sheet_here","_law_ring"] 6 (aK K 2 IX))(CN:aI P w K mg base "_law_box" ["_law_wide","_law_high"] 5 (aK K 2 CL)):
  aI P w K mg base "_law_is_box" ["_law_found"] 7 (aK K 1 I1):=by
 refine df (lv:=6) F US rfl (fun f cdv A outer s H E ak=>⟨_,(a8 (ei (kB (w_or (g5 (gR (mx (T:="tuple") (ae 0) (by rfl) B.isinstance_ (mc (v:=.ty "tuple") (u:=.type "tuple") (by rfl) B.tuple_ (by decide +kernel) rfl) rfl rfl rfl))) (w_or (e9 (f:=fun i j => !decide (i=j)) rY (jW (ae 0) (by rfl) B.len_) aA (dk _)) (w_or (g5 (gR (aW I2 ak (by rfl) (aw (aV (ae 0) aA (fun _ _=>rfl)) aS)))) (lJ (g5 (gR (aW I2 ak (by rfl) (aw (aV (ae 0) aA (fun _ _=>rfl)) aS))))))))) (bC (cc hR)) ez) (bC (cc (aW UU ak (by rfl) (aw (aV (ae 0) aA (fun _ _=>rfl)) (aw (aW CN ak (by rfl) (aw (aV (ae 0) aA (fun _ _=>rfl)) (aw (aV (ae 0) aA (fun _ _=>rfl)) aS))) aS)))))),?_⟩);rintro as k aj ⟨w,h,sh,rfl,bt,bz,a9,bf,dO,fw,w0,h0,aj,aq,bal,ah⟩;refine cR (r:=[.val (.tup [dR w,dR h,.lst (sh.map dS)])]) rfl ?_;refine nD (fun N aZ=>?_) ?_
 ·refine⟨_,rfl,_,_,rfl,fun _=>rfl,_,rfl,gg ?_⟩;refine⟨_,rfl,_,rfl,_,_,rfl,rfl,_,rfl,gg ?_⟩;refine⟨_,rfl,_,_,_,.inl rfl,rfl,rfl,rfl,w,rfl,bt,w0,_,rfl,gg ?_⟩;exact⟨_,rfl,_,_,_,.inl rfl,rfl,rfl,rfl,h,rfl,bz,h0,_,rfl,gg aZ⟩
 refine⟨_,rfl,_,_,_,.inl rfl,rfl,rfl,_,rfl,_,_,_,.inl rfl,rfl,rfl,_,rfl,_,_,_,.inl rfl,rfl,rfl,rfl,w,h,rfl,bt,bz,Gq a9 (by decide),Gq bf (by decide),Gq dO (by decide),Gq fw (by decide),?_⟩;dsimp only[bN];exact⟨rfl,sh,ie w h,rfl,aj,aq,RS ⟨bt,bz,w0,h0⟩ a9 bf dO fw,bal,ah⟩
theorem UW:cG ["_law_bag_here"] ["_law_bag_here"] (b0 yO):=by walk_at "sc"
def I3  : FS:=fun as k =>  as=[.bag]/\∀r:bx,aO r.1 r.2->0<r.1->intBits r.1<=21->intBits r.2<=21->k (.val (dR r))
theorem UX(B:cM mg)(F:cD K mg "_law_size" yO ["_law_bag_here"])(gz:aI P w K mg base "_law_draw" ["_law_bag_here","_law_many"] 1 (aK K 2 (qv 400)))(rr:aI P w K mg base "_law_low" ["_law_top","_law_bottom"] 3 (aK K 2 xD)):
  aI P w K mg base "_law_size" ["_law_bag_here"] 4 (aK K 1 I3):=by
 refine df (lv:=3) F UW rfl (fun f cdv A outer s H E ak=>⟨_,(a8 (ei (e9 (f:=fun i j=>decide (i=j)) h8 (aW gz ak (by rfl) (fZ 0 (aw aA aS))) aA (dk _)) (bC (cc (aW rr ak (by rfl) (aw (ed aA (aW gz ak (by rfl) (fZ 0 (aw (Ef aA aA) aS)))) (aw (ed aA (aW gz ak (by rfl) (fZ 0 (aw (Ef aA aA) aS)))) aS))))) ez) (bC (cc (aW rr ak (by rfl) (aw (ed aA (aW gz ak (by rfl) (fZ 0 (aw aA aS)))) (aw (ed aA (aW gz ak (by rfl) (fZ 0 (aw aA aS)))) aS)))))),?_⟩);rintro as k aj ⟨rfl,ah⟩;refine cR (r:=[.bag]) rfl ?_
 have fin:∀t b:Int,0<t->0<b->intBits t<=21->intBits b<=21->k (.val (dR (cA t b))):=fun t b t0 dv hW v7=>by
  obtain⟨l,e,a4,bS⟩:=g9 (t:=t) (b:=b) (Zh dv);refine ah _ l ?_ (d3 a4 hW) (d3 bS v7);have:0<(cA t b).1*b:=by rw[e];exact ZK t0 l.1
  exact abY this dv
 have ru:∀x:Int,0<=x->x<=1000000->intBits x<=21:=fun x x0 bK=>intBits_le_iff.mpr (by show x.natAbs<2097152;omega);have jU:(10:Int)^((6:Int).toNat)=1000000:=rfl;walk_at "w";intro c ha aG;walk_at "wd";refine fk (fun _=>?_) (fun _=>?_)
 ·walk_at "w";rw[jU];intro x x0 bK;walk_at "w";rw[jU];intro y bW bI;walk_at "w";exact⟨1+x,1+y,rfl,by omega,Gq (ru (1+y) (by omega) (by omega)) (by decide),fin _ _ (by omega) (by omega) (ru _ (by omega) (by omega)) (ru _ (by omega) (by omega))⟩
 ·walk_at "w";intro x x0 bK;walk_at "w";intro y bW bI;walk_at "w";exact⟨1+x,1+y,rfl,by omega,Gq (ru (1+y) (by omega) (by omega)) (by decide),fin _ _ (by omega) (by omega) (ru _ (by omega) (by omega)) (ru _ (by omega) (by omega))⟩
theorem I4:cG ["_law_bag_here","_law_wide","_law_way"] ["_law_bag_here","_law_wide"] (b0 yP):=by walk_at "sc"
def I5  : FS:=fun as k=>∃(w:bx),as=[.bag,.val (dR w)]/\(aO w.1 w.2)/\(0<w.1)/\(intBits w.1<=21)/\(intBits w.2<=21)/\∀g:bx,aO g.1 g.2->0<g.1->intBits g.1<=28->intBits g.2<=28->w.1*g.2<=8*(g.1*w.2)->g.1*w.2<=8*(w.1*g.2)->k (.val (dR g))
theorem UY(B:cM mg)(F:cD K mg "_law_width" yP ["_law_bag_here","_law_wide"])(gz:aI P w K mg base "_law_draw" ["_law_bag_here","_law_many"] 1 (aK K 2 (qv 400)))(rv:aI P w K mg base "_law_product" ["_law_one","_law_other"] 4 (aK K 2 CK)):
  aI P w K mg base "_law_width" ["_law_bag_here","_law_wide"] 5 (aK K 2 I5):=by
 refine df (lv:=4) F I4 rfl (fun f cdv A outer s H E ak=>⟨_,(a8 (cF (i:=2) I4.nd rfl (Sz rfl) (aW gz ak (by rfl) (fZ 0 (aw aA aS)))) (a8 (ei (e9 (f:=fun i j=>decide (i=j)) h8 (ae 2) aA (dk _)) (bC (cc (ae 1))) ez) (a8 (ei (e9 (f:=fun i j=>decide (i=j)) h8 (ae 2) aA (dk _)) (bC (cc (aW rv ak (by rfl) (aw (ae 1) (aw (c8 (aU (ed aA (aW gz ak (by rfl) (fZ 0 (aw aA aS)))) (aU aA bU))) aS))))) ez) (a8 (ei (e9 (f:=fun i j=>decide (i=j)) h8 (ae 2) aA (dk _)) (bC (cc (aW rv ak (by rfl) (aw (ae 1) (aw (c8 (aU aA (aU (ed aA (aW gz ak (by rfl) (fZ 0 (aw aA aS)))) bU))) aS))))) ez) (bC (cc (aW rv ak (by rfl) (aw (ae 1) (aw (c8 (aU (ed aA (aW gz ak (by rfl) (fZ 0 (aw aA aS)))) (aU aA bU))) aS))))))))),?_⟩);rintro as k aj ⟨w,rfl,lw,w0,aG,aJ,ah⟩;refine cR (r:=[.bag,.val (dR w),.no]) rfl ?_;have dO:∀z:Int,0<=z->z<=63->intBits z<=1000:=fun z z0 z1=>Gq (intBits_le_iff.mpr (show z.natAbs<2^6 by show z.natAbs<64;omega)) (by decide);have m:∀{z:Int}{a b:Nat},intBits z<=a->a<=b->intBits z<=b:=fun h g=>Gq h g
 have fin:∀p q:Int,0<p->0<q->q<=8*p->p<=8*q->p<=63->q<=63->k (.val (dR (cA (w.1*p) (w.2*q)))):=fun p q n4 fm aa ab cQ a4=>by
  obtain⟨bK,eS,k2,i7,UZ,U0⟩:=T6 lw w0 aG aJ n4 fm aa ab cQ a4;exact ah _ bK eS k2 i7 UZ U0
 have one:=T7 w0 lw.1;walk_at "w";intro c cl ZY;walk_at "wd";refine fk (fun _=>?_) (fun _=>?_)
 ·walk_at "w";exact ah w lw w0 (m aG (by decide)) (m aJ (by decide)) one one
 walk_at "wd";refine fk (fun _=>?_) (fun _=>?_)
 ·walk_at "w";intro d gI bL;walk_at "w";exact⟨w,(2+d,1),rfl,lw.1,show(0:Int)<1 by decide,m aG (by decide),m aJ (by decide),dO _ (by show 0<=2+d;omega) (by show 2+d<=63;omega),show intBits 1<=1000 by decide,fin (2+d) 1 (by omega) (by omega) (by omega) (by omega) (by omega) (by omega)⟩
 walk_at "wd";refine fk (fun _=>?_) (fun _=>?_)
 ·walk_at "w";intro d gI bL;walk_at "w";exact⟨w,(1,2+d),rfl,lw.1,by show 0<2+d;omega,m aG (by decide),m aJ (by decide),show intBits 1<=1000 by decide,dO _ (by show 0<=2+d;omega) (by show 2+d<=63;omega),fin 1 (2+d) (by omega) (by omega) (by omega) (by omega) (by omega) (by omega)⟩
 walk_at "w";intro d gI bL;walk_at "w";exact⟨w,(4+d,11),rfl,lw.1,show(0:Int)<11 by decide,m aG (by decide),m aJ (by decide),dO _ (by show 0<=4+d;omega) (by show 4+d<=63;omega),show intBits 11<=1000 by decide,fin (4+d) 11 (by omega) (by omega) (by omega) (by omega) (by omega) (by omega)⟩
theorem I6:cG ["_law_found","_law_box_here","_law_wide","_law_high"] ["_law_found","_law_box_here","_law_wide"] (b0 yQ):=by walk_at "sc"
def I7  : FS:=fun as k=>∃(w h g H:bx)(sh S:List Piece),as=[.val (.tup [dR g,dR H,dSh S]),.val (dBx (w,h,sh)),.val (dR g)]/\(aO w.1 w.2)/\(aO h.1 h.2)/\(aO g.1 g.2)/\(0<w.1)/\(0<h.1)/\(0<g.1)/\(intBits w.1<=30)/\(intBits w.2<=30)/\(intBits h.1<=60)/\(intBits h.2<=60)/\(intBits g.1<=30)/\(intBits g.2<=30)/\(H=e3 w h g)/\(sh.length<=40)/\(∀s∈sh,hj s)/\(S.length<=110)/\(∀s∈S,hj s)/\(fi (S.map fun s=>s.1) [ie g H])/\(∀b:Bool,fi ((S.filter fun s=>s.2.1==b).map eR) ((sh.filter fun s=>s.2.1==b).map eR))/\k (.val (.bl true))
theorem U1(B:cM mg)(F:cD K mg "_law_right" yQ ["_law_found","_law_box_here","_law_wide"])(U2:aI P w K mg base "_law_is_box" ["_law_found"] 7 (aK K 1 I1))(rv:aI P w K mg base "_law_product" ["_law_one","_law_other"] 4 (aK K 2 CK))(U3:aI P w K mg base "_law_kept" ["_law_olds","_law_news"] 6 (aK K 2 IU)):
  aI P w K mg base "_law_right" ["_law_found","_law_box_here","_law_wide"] 8 (aK K 3 I7):=by
 refine df (lv:=7) F I6 rfl (fun f cdv A outer s H E ak=>⟨_,(a8 (ei (kB (w_or (g5 (gR (aW U2 ak (by rfl) (aw (ae 0) aS)))) (lJ (z5 (ak.units) (aV (ae 0) aA (fun _ _=>rfl)) (ae 2) (dk _))))) (bC (cc hR)) ez) (a8 (cF (i:=3) I6.nd rfl (Sz rfl) (aW rv ak (by rfl) (aw (aW rv ak (by rfl) (aw (aV (ae 1) aA (fun _ _=>rfl)) (aw (aV (ae 1) aA (fun _ _=>rfl)) aS))) (aw (c8 (aU (aV (ae 2) aA (fun _ _=>rfl)) (aU (aV (ae 2) aA (fun _ _=>rfl)) bU))) aS)))) (bC (cc (qr (Nt (ak.units) (aV (ae 0) aA (fun _ _=>rfl)) (ae 3) (dk _)) (r7 (aW U3 ak (by rfl) (aw (aV (ae 1) aA (fun _ _=>rfl)) (aw (aV (ae 0) aA (fun _ _=>rfl)) aS))))))))),?_⟩);rintro as k aj ⟨w,h,g,H,sh,S,rfl,lw,lh,aY,w0,h0,ba,aG,aJ,bZ,bQ,b4,b5,gv,aj,aq,nl,ns,bal,kept,ah⟩;refine cR (r:=[.val (.tup [dR g,dR H,dSh S]),.val (dBx (w,h,sh)),.val (dR g),.no]) rfl ?_;have m:∀{z:Int}{a b:Nat},intBits z<=a->a<=b->intBits z<=b:=fun h g=>Gq h g;obtain⟨cj,bL,b1,ZZ⟩:=t7 lw w0 lh h0 aY ba aG aJ bZ bQ b4 b5;have gw:=xm lw w0 lh h0 aY ba gv;rw[<-gv]at cj bL b1;have lt:=g9 (t:=w.1*h.1) (b:=w.2*h.2) (Zh (ZK lw.1 lh.1));have hW:intBits (cA (w.1*h.1) (w.2*h.2)).1<=90/\intBits (cA (w.1*h.1) (w.2*h.2)).2<=90:=⟨d3 lt.2.2.1 (intBits_mul_le aG bZ),d3 lt.2.2.2 (intBits_mul_le aJ bQ)⟩;refine nD (fun N aZ=>?_) ?_
 ·refine⟨_,rfl,rfl,g,H,S,rfl,aY,cj,m b4 (by decide),m b5 (by decide),m bL (by decide),m b1 (by decide),ba,gw,nl,ns,bal,_,rfl,gg ?_⟩;exact⟨_,rfl,_,_,_,.inl rfl,rfl,rfl,_,rfl,.T [.I,.I],rfl,rfl,by decide,_,rfl,z8 (fun h=>absurd rfl h) (fun _=>aZ)⟩
 refine eO (fun ρ=>ρ=[.val (.tup [dR g,dR H,dSh S]),.val (dBx (w,h,sh)),.val (dR g),.val (dR H)]) ?_ (fun N aZ=>?_);rotate_left
 ·refine⟨_,rfl,_,_,_,.inl rfl,rfl,rfl,_,rfl,_,_,_,.inl rfl,rfl,rfl,rfl,w,h,rfl,lw.1,lh.1,m aG (by decide),m aJ (by decide),m bZ (by decide),m bQ (by decide),?_⟩;dsimp only[bN];refine⟨_,rfl,_,_,_,.inl rfl,rfl,rfl,_,rfl,_,_,_,.inl rfl,rfl,rfl,show 2<=sizeLine by decide,rfl,cA (w.1*h.1) (w.2*h.2),(g.2,g.1),rfl,lt.1.1,ba,m hW.1 (by decide),m hW.2 (by decide),m b5 (by decide),m b4 (by decide),?_⟩;dsimp only[bN];exact aZ _ (by rw[gv];rfl)
 rintro ρ rfl;refine⟨_,rfl,_,_,_,.inl rfl,rfl,rfl,_,rfl,.T [.I,.I],rfl,rfl,by decide,?_⟩;have vY:(if false=true then !eqD (dR H) (dR H)else eqD (dR H) (dR H))=true:=by rw[if_neg (by decide)];exact o1 _
 rw[vY];refine⟨true,rfl,?_⟩;rw[if_pos rfl];refine⟨_,rfl,_,_,_,.inl rfl,rfl,rfl,_,rfl,_,_,_,.inl rfl,rfl,rfl,rfl,sh,S,rfl,aj,nl,aq,ns,kept,?_⟩;exact ah
theorem xH:cG ["one","other"] ["one","other"] (b0 xX):=by walk_at "sc"
def pU  : FS:=fun as k=>∃(a b:Int),as=[.val (.int a),.val (.int b)]/\k (.val (.int (Ze a b:Nat)))
theorem U4(B:cM mg)(F:cD K mg "greatest_divisor" xX ["one","other"])  :
  aI P w K mg base "greatest_divisor" ["one","other"] 2 (aK K 2 pU):=by
 refine df (lv:=1) F xH rfl (fun f cdv A outer s H E ak=>⟨_,(a8 (cF (i:=0) xH.nd rfl (Sz rfl) (vh (ae 0) (by rfl) B.abs_)) (a8 (cF (i:=1) xH.nd rfl (Sz rfl) (vh (ae 1) (by rfl) B.abs_)) (a8 (Er PassesOwn.never (e9 (f:=fun i j => !decide (i=j)) rY (ae 1) aA (dk _)) (bC (Ep (i:=0) (j:=1) rfl xH.nd rfl rfl (by decide) rfl rfl (aU (ae 1) (aU (ve (ae 0) (ae 1)) bU)) rfl))) (bC (cc (ae 0)))))),?_⟩);rintro as k aj ⟨a,b,rfl,ah⟩;refine cR (r:=[.val (.int a),.val (.int b)]) rfl ?_;walk_at "wd";refine⟨fun m ρ=>∃(x y:Int),ρ=[.val (.int x),.val (.int y)]/\0<=x/\0<=y/\Ze x y=Ze a b/\m=y.toNat,⟨_,_,_,rfl,?_,?_,D1 a b,rfl⟩,?_⟩
 ·split<;>omega
 ·split<;>omega
 rintro m ρ ⟨x,y,rfl,x0,bW,aC,rfl⟩;walk_at "wd";refine Mk (fun g=>?_) (fun g=>?_)
 ·have g:0<y:=by omega
  walk_at "wd";have m0:=aa6 x (show y≠0 by omega);have bw:=abh x g;exact⟨_,_,rfl,_,by omega,_,_,rfl,bW,m0,by rw[D0 x0 g];exact aC,rfl⟩
 ·subst g;refine⟨_,rfl,?_⟩;rw[<-gcd_zero_left x0,aC];exact ah
theorem pV:cG ["one","other","a","b","n","c","d","m"] ["one","other"] (b0 x9):=by walk_at "sc"
def CO  : FS:=fun as k=>∃(p q:P3),as=[.val (dP p),.val (dP q)]/\(cm 4000 p)/\(cm 4000 q)/\k (.val (dP (crs p q)))
theorem U5(B:cM mg)(F:cD K mg "crossed" x9 ["one","other"])  :
  aI P w K mg base "crossed" ["one","other"] 2 (aK K 2 CO):=by
 refine df (lv:=1) F pV rfl (fun f cdv A outer s H E ak=>⟨_,(a8 (hS (ae 0) (gk (n:=3) rfl (c1 (b9 (i:=2) pV.nd rfl (Sz rfl)) (c1 (b9 (i:=3) pV.nd rfl (Sz rfl)) (c1 (b9 (i:=4) pV.nd rfl (Sz rfl)) f3))))) (a8 (hS (ae 1) (gk (n:=3) rfl (c1 (b9 (i:=5) pV.nd rfl (Sz rfl)) (c1 (b9 (i:=6) pV.nd rfl (Sz rfl)) (c1 (b9 (i:=7) pV.nd rfl (Sz rfl)) f3))))) (bC (cc (c8 (aU (e8 (cz (ae 3) (ae 7)) (cz (ae 4) (ae 6))) (aU (e8 (cz (ae 4) (ae 5)) (cz (ae 2) (ae 7))) (aU (e8 (cz (ae 2) (ae 6)) (cz (ae 3) (ae 5))) bU)))))))),?_⟩);rintro as k aj ⟨p,q,rfl,bp,gx,ah⟩;refine cR (r:=[.val (dP p),.val (dP q),.no,.no,.no,.no,.no,.no]) rfl ?_;have aa:=bp.a;have ab:=bp.b;have aL:=bp.c;have bo:=gx.a;have de:=gx.b;have fl:=gx.c;walk_at "w";refine⟨_,_,rfl,_,_,rfl,_,_,rfl,rfl,?_⟩;walk_at "w";refine⟨_,_,rfl,_,_,rfl,_,_,rfl,rfl,?_⟩;walk_at "w";exact ah
theorem I8:cG ["line","p","turn"] ["line","p"] (b0 x'):=by walk_at "sc"
def I9  : FS:=fun as k=>∃(c r:P3),as=[.val (dP c),.val (dP r)]/\(cm 2000 c)/\(cm 2000 r)/\k (.val (.int (sg (c.1*r.1+c.2.1*r.2.1+c.2.2*r.2.2))))
theorem U6(B:cM mg)(F:cD K mg "hand_of" x' ["line","p"])  :
  aI P w K mg base "hand_of" ["line","p"] 2 (aK K 2 I9):=by
 refine df (lv:=1) F I8 rfl (fun f cdv A outer s H E ak=>⟨_,(a8 (cF (i:=2) I8.nd rfl (Sz rfl) (ed (ed (cz (aV (ae 0) aA (fun _ _=>rfl)) (aV (ae 1) aA (fun _ _=>rfl))) (cz (aV (ae 0) aA (fun _ _=>rfl)) (aV (ae 1) aA (fun _ _=>rfl)))) (cz (aV (ae 0) aA (fun _ _=>rfl)) (aV (ae 1) aA (fun _ _=>rfl))))) (a8 (ei (e9 (f:=fun i j=>decide (j<i)) qc (ae 2) aA (dk _)) (bC (cc aA)) ez) (a8 (ei (e9 (f:=fun i j=>decide (i<j)) lA (ae 2) aA (dk _)) (bC (cc (iw aA))) ez) (bC (cc aA))))),?_⟩);rintro as k aj ⟨c,r,rfl,CP,l6,ah⟩;refine cR (r:=[.val (dP c),.val (dP r),.no]) rfl ?_;have aa:=CP.a;have ab:=CP.b;have aL:=CP.c;have bo:=l6.a;have de:=l6.b;have fl:=l6.c;walk_at "wd";unfold sg at ah;refine fk (fun g=>?_) (fun g=>?_)
 ·rw[if_pos g]at ah;exact ah
 rw[if_neg g]at ah;walk_at "wd";refine fk (fun g2=>?_) (fun g2=>?_)
 ·rw[if_pos g2]at ah;walk_at "w";exact ah
 rw[if_neg g2]at ah;exact ah
theorem CQ:cG ["a","b","n","divisor"] ["a","b","n"] (b0 x6):=by walk_at "sc"
def I'  : FS:=fun as k=>∃(a b n:Int),as=[.val (.int a),.val (.int b),.val (.int n)]/\(n≠0)/\(intBits n<=9000)/\k (.val (dP (cy a b n)))
theorem U7(B:cM mg)(F:cD K mg "point" x6 ["a","b","n"])(h3:aI P w K mg base "greatest_divisor" ["one","other"] 2 (aK K 2 pU)):
  aI P w K mg base "point" ["a","b","n"] 3 (aK K 3 I'):=by
 refine df (lv:=2) F CQ rfl (fun f cdv A outer s H E ak=>⟨_,(a8 (ei (e9 (f:=fun i j=>decide (i=j)) h8 (ae 2) aA (dk _)) (bC zM) ez) (a8 (cF (i:=3) CQ.nd rfl (Sz rfl) (aW h3 ak (by rfl) (aw (aW h3 ak (by rfl) (aw (ae 2) (aw (ae 0) aS))) (aw (ae 1) aS)))) (a8 (ei (e9 (f:=fun i j=>decide (i<j)) lA (ae 2) aA (dk _)) (bC (cF (i:=3) CQ.nd rfl (Sz rfl) (iw (ae 3)))) ez) (bC (cc (c8 (aU (dH (ae 0) (ae 3)) (aU (dH (ae 1) (ae 3)) (aU (dH (ae 2) (ae 3)) bU))))))))),?_⟩);rintro as k aj ⟨a,b,n,rfl,aN,bn,ah⟩;refine cR (r:=[.val (.int a),.val (.int b),.val (.int n),.no]) rfl ?_;walk_at "wd";refine fk (fun g=>absurd g aN) (fun _=>?_);walk_at "w";refine⟨_,_,rfl,?_⟩;walk_at "w";refine⟨_,_,rfl,?_⟩;dsimp only[bN];have gp:=EZ (a:=a) (b:=b) aN;have hC:=E0 (a:=a) (b:=b) aN bn;rw[Ot a b n];refine eO (fun ρ=>ρ=[.val (.int a),.val (.int b),.val (.int n),.val (.int (jr a b n))]) ?_ (fun N aZ=>?_)
 ·rintro ρ rfl;have gI:jr a b n≠0:=by unfold jr;split<;>omega
  have db:intBits (jr a b n)<=9000:=by
   unfold jr;split
   ·exact intBits_neg_le hC
   ·exact hC
  walk_at "w";exact ah
 ·walk_at "wd";refine fk (fun g=>?_) (fun g=>?_)
  ·walk_at "w";refine aZ _ ?_;unfold jr;rw[if_pos g];rfl
  ·refine aZ _ ?_;unfold jr;rw[if_neg g];rfl
theorem xI:cG ["p","q","r","s","a","b","n"] ["p","q","r","s"] (b0 ya):=by walk_at "sc"
def Ja  : FS:=fun as k=>∃(p q r s:P3),as=[.val (dP p),.val (dP q),.val (dP r),.val (dP s)]/\(cm 700 p)/\(cm 700 q)/\(cm 1990 r)/\(cm 1990 s)/\((crs (crs p q) (crs r s)).2.2≠0)/\k (.val (dP (nP (crs (crs p q) (crs r s)))))
theorem U8(B:cM mg)(F:cD K mg "meet" ya ["p","q","r","s"])(uh:aI P w K mg base "crossed" ["one","other"] 2 (aK K 2 CO))(U9:aI P w K mg base "point" ["a","b","n"] 3 (aK K 3 I')):
  aI P w K mg base "meet" ["p","q","r","s"] 4 (aK K 4 Ja):=by
 refine df (lv:=3) F xI rfl (fun f cdv A outer s H E ak=>⟨_,(a8 (hS (aW uh ak (by rfl) (aw (aW uh ak (by rfl) (aw (ae 0) (aw (ae 1) aS))) (aw (aW uh ak (by rfl) (aw (ae 2) (aw (ae 3) aS))) aS))) (gk (n:=3) rfl (c1 (b9 (i:=4) xI.nd rfl (Sz rfl)) (c1 (b9 (i:=5) xI.nd rfl (Sz rfl)) (c1 (b9 (i:=6) xI.nd rfl (Sz rfl)) f3))))) (a8 (ei (e9 (f:=fun i j=>decide (i=j)) h8 (ae 6) aA (dk _)) (bC zM) ez) (bC (cc (aW U9 ak (by rfl) (aw (ae 4) (aw (ae 5) (aw (ae 6) aS)))))))),?_⟩);rintro as k aj ⟨p,q,r,s,rfl,bp,gx,l6,bs,aN,ah⟩;refine cR (r:=[.val (dP p),.val (dP q),.val (dP r),.val (dP s),.no,.no,.no]) rfl ?_;have a9:=bp.crs gx;have bf:=l6.crs bs;have dO:=a9.crs bf;refine⟨_,rfl,_,rfl,rfl,p,q,rfl,bp.mono (by decide),gx.mono (by decide),?_⟩;refine⟨_,rfl,_,rfl,rfl,r,s,rfl,l6.mono (by decide),bs.mono (by decide),?_⟩;refine⟨rfl,_,_,rfl,a9.mono (by decide),bf.mono (by decide),?_⟩;generalize crs (crs p q) (crs r s)=m at *;obtain⟨x,y,z⟩:=m;have aN:z≠0:=aN;have U':intBits z<=9000:=Gq dO.c (by decide);refine⟨_,rfl,rfl,_,_,rfl,_,_,rfl,_,_,rfl,rfl,?_⟩;walk_at "wd";refine fk (fun g=>absurd g aN) (fun _=>?_);exact⟨_,rfl,_,rfl,_,rfl,rfl,x,y,z,rfl,aN,U',ah⟩
theorem mZ:cG ["ring","p","q","line","corner","hands","left","right","place","after","between"] ["ring","p","q"] (b0 yb):=by walk_at "sc"
def Jb  : FS:=fun as k=>∃(ps:List P3)(p q:P3),as=[.val (.lst (ps.map dP)),.val (dP p),.val (dP q)]/\(cm 300 p)/\(cm 300 q)/\(∀c∈ps,cm 1990 c/\aR c)/\(ps.length<=1000)/\k (.new (.tup [.lst ((keepR (ln (crs p q)) (aX (crs p q)) ps).map dP),.lst ((keepR (fun c => -ln (crs p q) c) (aX (crs p q)) ps).map dP)]))
theorem Va(B:cM mg)(F:cD K mg "cut_ring" yb ["ring","p","q"])(uh:aI P w K mg base "crossed" ["one","other"] 2 (aK K 2 CO))(Vb:aI P w K mg base "hand_of" ["line","p"] 2 (aK K 2 I9))(Vc:aI P w K mg base "meet" ["p","q","r","s"] 4 (aK K 4 Ja)):
  aI P w K mg base "cut_ring" ["ring","p","q"] 5 (aK K 3 Jb):=by
 refine th (lv:=4) [true,false,false] F mZ rfl (fun f cdv A outer s H E ak=>⟨_,(a8 (cF (i:=3) mZ.nd rfl (ZN rfl) (aW uh ak (by rfl) (aw (ae 1) (aw (ae 2) aS)))) (a8 (vG 5 (Qq (i:=5) mZ.nd rfl rfl (ts:=["corner"]) (fr:=["line"]) (js:=[3]) (iZ (ae 0)) (fun _ _ _ _=>(b9 (i:=0) (show aaq (["corner","line"]:List Str) by decide +kernel) rfl (Sz rfl))) (fun _ _ _ _=>jq) (fun _ _ _ _=>(aW Vb ak (by rfl) (aw (ae 1) (aw (ae 0) aS)))) ⟨rfl,by decide +kernel,rfl,by decide +kernel,ib (aaI.mpr ⟨rfl,(aay _)⟩),iA rfl,by walk_at "ffr",rfl⟩)) (a8 (lM (i:=6) mZ.nd rfl (Sz rfl) (fv bU)) (a8 (lM (i:=7) mZ.nd rfl (Sz rfl) (fv bU)) (a8 (Qo 0 PassesOwn.never rfl (by rfl) B.enumerate_ (gk (n:=2) rfl (c1 (b9 (i:=8) mZ.nd rfl (Sz rfl)) (c1 (b9 (i:=4) mZ.nd rfl (Sz rfl)) f3))) (a8 (ei (e9 (f:=fun i j=>decide (j<=i)) uU (aV (ae 5) (ae 8) (fun _ _=>rfl)) aA (dk _)) (bC (nA 6 (ae 4))) ez) (a8 (ei (e9 (f:=fun i j=>decide (i<=j)) Lb (aV (ae 5) (ae 8) (fun _ _=>rfl)) aA (dk _)) (bC (nA 7 (ae 4))) ez) (a8 (cF (i:=9) mZ.nd rfl (Sz rfl) (AY (ve (ed (ae 8) aA) (jW (ae 0) (by rfl) B.len_)))) (bC (ei (e9 (f:=fun i j=>decide (i<j)) lA (cz (aV (ae 5) (ae 8) (fun _ _=>rfl)) (aV (ae 5) (ae 9) (fun _ _=>rfl))) aA (dk _)) (a8 (cF (i:=10) mZ.nd rfl (Sz rfl) (AY (aW Vc ak (by rfl) (aw (ae 1) (aw (ae 2) (aw (ae 4) (aw (aV (ae 0) (ae 9) (fun _ _=>rfl)) aS))))))) (a8 (nA 6 (ae 10)) (bC (nA 7 (ae 10))))) ez)))))) (lL 7 (lL 6 (bC (cc (c8 (aU (Ek (EG (ak.units) aA (ae 5) (by rfl)) (ae 6) (dD (fv bU))) (aU (Ek (EG (ak.units) (iw aA) (ae 5) (by rfl)) (ae 7) (dD (fv bU))) bU)))))))))))),?_⟩);rintro as k aj ⟨ps,p,q,rfl,bp,gx,af,aj,ah⟩;refine⟨⟨trivial,rfl,rfl,trivial⟩,cR (r:=[.new (.lst (ps.map dP)),.val (dP p),.val (dP q),.no,.no,.no,.no,.no,.no,.no,.no]) rfl ?_⟩;have e':=(bp.crs gx).mono (show 300+300+1<=700 by decide);refine⟨_,rfl,_,rfl,rfl,p,q,rfl,bp.mono (by decide),gx.mono (by decide),?_⟩;dsimp only[bN];refine⟨_,rfl,_,rfl,by rw[Zf];exact Gq aj (by decide),?_⟩;refine lP (f:=dP) (h:=fun c=>D.int (sg (ln (crs p q) c))) (fs:=[.val (dP (crs p q))]) (fun r ak fS CR=>⟨_,rfl,_,rfl,rfl,crs p q,r,rfl,e'.mono (by decide),(af r ak).1.mono (by decide),CR⟩) ⟨Gu _ _,?_⟩;refine⟨_,rfl,?_⟩;walk_at "wd";refine⟨Fv _,?_⟩;have Jc:ps.headD (ps.headD (0,0,1))=ps.headD (0,0,1):=by cases ps<;>rfl
 refine AV (f:=dP) (done:=[]) (fun pre ρ=>∃v4 fp gA v10 rest,ps=pre++rest/\ρ=[.new (.lst (ps.map dP)),.val (dP p),.val (dP q),.val (dP (crs p q)),v4,.val (.lst (ps.map fun c=>D.int (sg (ln (crs p q) c)))),.own ((c6 (ln (crs p q)) (aX (crs p q)) pre (rest.headD (ps.headD (0,0,1)))).map dP),.own ((c6 (fun c => -ln (crs p q) c) (aX (crs p q)) pre (rest.headD (ps.headD (0,0,1)))).map dP),fp,gA,v10]) ⟨_,_,_,_,ps,rfl,rfl⟩ ?_ ?_
 ·rintro pre c rest ρ eq ⟨v4,fp,gA,v10,Vd,ea,rfl⟩ N aZ;have eq:ps=pre++c::rest:=by simpa using eq
  have ra:Vd=c::rest:=by rw[ea]at eq;exact adW eq
  subst ra;have hc:c∈ps:=by rw[eq];simp
  have am:dE (ps.map fun c=>D.int (sg (ln (crs p q) c))) (pre.length:Int)=some (D.int (sg (ln (crs p q) c))):=by
   have:=Qe (h:=fun c=>D.int (sg (ln (crs p q) c))) (pre:=pre) (rest:=rest) (c:=c);rw[<-eq]at this;exact this
  have an:=F2 (h:=fun c=>D.int (sg (ln (crs p q) c))) eq Jc;have Ve:=F2 (h:=dP) eq Jc;show sd _ _ _ [.new (.lst (ps.map dP)),.val (dP p),.val (dP q),.val (dP (crs p q)),.val (dP c),.val (.lst (ps.map fun c=>D.int (sg (ln (crs p q) c)))),.own ((c6 (ln (crs p q)) (aX (crs p q)) pre c).map dP),.own ((c6 (fun c => -ln (crs p q) c) (aX (crs p q)) pre c).map dP),.val (.int pre.length),gA,v10]
  have eK:pre.length<=1000:=by rw[eq,ZM]at aj;omega
  have z1:=AX (f:=ln (crs p q)) (mt:=aX (crs p q)) (ps:=pre) (w:=c);have aQ:=AX (f:=fun c => -ln (crs p q) c) (mt:=aX (crs p q)) (ps:=pre) (w:=c);have big:5000<=sizeLine:=by decide
  refine eO (fun ρ=>ρ=[.new (.lst (ps.map dP)),.val (dP p),.val (dP q),.val (dP (crs p q)),.val (dP c),.val (.lst (ps.map fun c=>D.int (sg (ln (crs p q) c)))),.own ((c6 (ln (crs p q)) (aX (crs p q)) pre c++kp (ln (crs p q)) c).map dP),.own ((c6 (fun c => -ln (crs p q) c) (aX (crs p q)) pre c).map dP),.val (.int pre.length),gA,v10]) ?_ (fun N aZ=>?_);rotate_left
  ·refine⟨_,rfl,_,rfl,_,_,_,.inr rfl,rfl,am,_,_,rfl,rfl,_,rfl,fk (fun g=>?_) (fun g=>?_)⟩
   ·refine⟨_,rfl,_,rfl,by rw[Zf];omega,aZ _ ?_⟩;rw[F4 (F0.mp g),Z7];rfl
   ·refine aZ _ ?_;rw[F5 (fun z=>g (F0.mpr z)),Z']
  rintro ρ rfl;refine eO (fun ρ=>ρ=[.new (.lst (ps.map dP)),.val (dP p),.val (dP q),.val (dP (crs p q)),.val (dP c),.val (.lst (ps.map fun c=>D.int (sg (ln (crs p q) c)))),.own ((c6 (ln (crs p q)) (aX (crs p q)) pre c++kp (ln (crs p q)) c).map dP),.own ((c6 (fun c => -ln (crs p q) c) (aX (crs p q)) pre c++kp (fun c => -ln (crs p q) c) c).map dP),.val (.int pre.length),gA,v10]) ?_ (fun N aZ=>?_);rotate_left
  ·refine⟨_,rfl,_,rfl,_,_,_,.inr rfl,rfl,am,_,_,rfl,rfl,_,rfl,fk (fun g=>?_) (fun g=>?_)⟩
   ·refine⟨_,rfl,_,rfl,by rw[Zf];omega,aZ _ ?_⟩;rw[F4 (f:=fun c => -ln (crs p q) c) (c:=c) (by have:=F1.mp g;show 0 <= -ln (crs p q) c;omega),Z7 (l₂:=[c])];rfl
   ·refine aZ _ ?_;rw[F5 (f:=fun c => -ln (crs p q) c) (c:=c) (fun z=>g (F1.mpr (by have z:0 <= -ln (crs p q) c:=z;omega))),Z']
  rintro ρ rfl;have pos:(0:Int)<((ps.map dP).length:Int):=by rw[Zf,eq,ZM,Z8];omega
  refine⟨_,rfl,_,_,rfl,rfl,_,rfl,_,rfl,_,_,rfl,rfl,pos,rfl,?_⟩;rw[Zf];have bY:(kp (ln (crs p q)) c).length<=1:=by unfold kp;split<;>simp
  have ck:(kp (fun c => -ln (crs p q) c) c).length<=1:=by unfold kp;split<;>simp
  refine⟨_,rfl,_,rfl,_,_,_,.inr rfl,rfl,am,_,rfl,_,rfl,_,_,_,.inr rfl,rfl,an,_,_,rfl,rfl,⟨F3 _,F3 _⟩,_,_,rfl,rfl,_,rfl,fk (fun g=>?_) (fun g=>?_)⟩
  ·have lt:=FZ.mp g
   have Jd:rest.headD (ps.headD (0,0,1))∈ps:=by
    cases rest with
    | nil =>
     cases ps with
     | nil=>cases hc
     | cons a r=>exact ZJ
    | cons d rest=>rw[eq];simp
   have pc:=(af c hc).2;have pn:=(af _ Jd).2;refine⟨_,rfl,_,rfl,_,rfl,_,rfl,_,rfl,_,_,_,.inr rfl,rfl,Ve,rfl,p,q,c,rest.headD (ps.headD (0,0,1)),rfl,bp.mono (by decide),gx.mono (by decide),(af c hc).1.mono (by decide),(af _ Jd).1.mono (by decide),jw pc pn lt,?_⟩;dsimp only[bN];refine⟨rfl,?_⟩;rw[jv pc pn];refine⟨_,rfl,_,rfl,by rw[Zf,ZM];omega,?_⟩;refine⟨_,rfl,_,rfl,by rw[Zf,ZM];omega,aZ _ ⟨.val (dP c),.val (.int pre.length),.val (.int (((pre.length:Int)+1)%(ps.length:Int))),.val (dP (aX (crs p q) c (rest.headD (ps.headD (0,0,1))))),rest,by rw[eq];simp,?_⟩⟩;rw[vX,vX,kX lt,kX (f:=fun c => -ln (crs p q) c) (by rw[aa5];exact lt),Z7 (l₂:=[aX (crs p q) c (rest.headD (ps.headD (0,0,1)))]),Z7 (l₂:=[aX (crs p q) c (rest.headD (ps.headD (0,0,1)))])];rfl
  ·refine aZ _ ⟨.val (dP c),.val (.int pre.length),.val (.int (((pre.length:Int)+1)%(ps.length:Int))),v10,rest,by rw[eq];simp,?_⟩;have nl:¬ln (crs p q) c*ln (crs p q) (rest.headD (ps.headD (0,0,1)))<0:=fun z=>g (FZ.mpr z);rw[vX,vX,j0 nl,j0 (by rw[aa5];exact nl),Z',Z'];rfl
 rintro ρ ⟨v4,fp,gA,v10,rest,ea,rfl⟩
 have ra:rest=[]:=by
  have:ps++[]=ps++rest:=by rw[Z'];exact ea
  exact(adW this).symm
 subst ra
 have CS:∀e∈ps.map (fun c=>D.int (sg (ln (crs p q) c))),has .I e=true:=fun e he=>by
  obtain⟨_,_,rfl⟩:=Z9.mp he;rfl
 refine⟨_,rfl,_,rfl,?_⟩;refine⟨_,rfl,.I,_,.inl rfl,rfl,CS,by decide,fun a9 pM=>⟨_,rfl,?_⟩⟩;cases a9 with
 | true =>
  rw[wy (F6.mp (pM.mp rfl))]at ah;refine qw rfl ⟨_,rfl,?_⟩;refine⟨_,rfl,_,rfl,.I,_,.inl rfl,rfl,CS,by decide,fun bf pQ=>⟨_,rfl,?_⟩⟩;cases bf with
  | true =>
   rw[wy (wz.mpr (vZ.mp (pQ.mp rfl)))]at ah;exact qw rfl ⟨_,rfl,(show 2<=sizeLine by decide),ah⟩
  | false =>
   rw[Ba (fun z=>aal (pQ.mpr (vZ.mpr (wz.mp z))))]at ah;exact qx rfl ⟨(show 0<=sizeLine by decide),(show 2<=sizeLine by decide),ah⟩
 | false =>
  rw[Ba (fun z=>aal (pM.mpr (F6.mpr z)))]at ah;refine qx rfl ⟨(show 0<=sizeLine by decide),?_⟩;refine⟨_,rfl,_,rfl,.I,_,.inl rfl,rfl,CS,by decide,fun bf pQ=>⟨_,rfl,?_⟩⟩;cases bf with
  | true =>
   rw[wy (wz.mpr (vZ.mp (pQ.mp rfl)))]at ah;exact qw rfl ⟨_,rfl,(show 2<=sizeLine by decide),ah⟩
  | false =>
   rw[Ba (fun z=>aal (pQ.mpr (vZ.mpr (wz.mp z))))]at ah;exact qx rfl ⟨(show 0<=sizeLine by decide),(show 2<=sizeLine by decide),ah⟩
theorem ov:cG ["sheet","p","q","left","right","ring","is_turned","step","left_ring","right_ring"] ["sheet","p","q"] (b0 yc):=by walk_at "sc"
def xJ  : FS:=fun as k=>∃(sh:List Piece)(p q:P3),as=[.val (.lst (sh.map dS)),.val (dP p),.val (dP q)]/\(cm 300 p)/\(cm 300 q)/\(∀s∈sh,∀c∈s.1,cm 1990 c/\aR c)/\(∀s∈sh,s.1.length<=1000)/\(sh.length<=1000)/\k (.new (.tup [.lst ((cn (ln (crs p q)) (aX (crs p q)) sh).map dS),.lst ((cn (fun c => -ln (crs p q) c) (aX (crs p q)) sh).map dS)]))
theorem Vf(B:cM mg)(F:cD K mg "cut_sheet" yc ["sheet","p","q"])(Vg:aI P w K mg base "cut_ring" ["ring","p","q"] 5 (aK K 3 Jb)):
  aI P w K mg base "cut_sheet" ["sheet","p","q"] 6 (aK K 3 xJ):=by
 refine th (lv:=5) [true,false,false] F ov rfl (fun f cdv A outer s H E ak=>⟨_,(a8 (lM (i:=3) ov.nd rfl (Sz rfl) (fv bU)) (a8 (lM (i:=4) ov.nd rfl (Sz rfl) (fv bU)) (a8 (Gf 0 PassesOwn.never rfl (Ge (n:=3) rfl (qQ (Gb (i:=5) ov.nd rfl (Sz rfl)) (qQ (wa (i:=6) ov.nd rfl (Sz rfl)) (qQ (wa (i:=7) ov.nd rfl (Sz rfl)) Gd)))) (a8 (hS (v9 (v8 (qJ Vg ak (by rfl) (aw (ae 5) (aw (ae 1) (aw (ae 2) aS)))))) (gk (n:=2) rfl (c1 (b9 (i:=8) ov.nd rfl (Sz rfl)) (c1 (b9 (i:=9) ov.nd rfl (Sz rfl)) f3)))) (a8 (ei (Gg (ae 8)) (bC (nA 3 (c8 (aU (ae 8) (aU (ae 6) (aU (ae 7) bU)))))) ez) (bC (ei (Gg (ae 9)) (bC (nA 4 (c8 (aU (ae 9) (aU (ae 6) (aU (ae 7) bU)))))) ez))))) (lL 4 (lL 3 (bC (cc (c8 (aU (ae 3) (aU (ae 4) bU)))))))))),?_⟩);rintro as k aj ⟨sh,p,q,rfl,bp,gx,af,ui,aj,ah⟩;refine⟨⟨trivial,rfl,rfl,trivial⟩,cR (r:=[.new (.lst (sh.map dS)),.val (dP p),.val (dP q),.no,.no,.no,.no,.no,.no,.no]) rfl ?_⟩;have big:5000<=sizeLine:=by decide
 walk_at "wd";refine Gr (done:=[]) (fun pre ρ=>∃gy v6 f9 fp gA,ρ=[.new (.lst (sh.map dS)),.val (dP p),.val (dP q),.own ((cn (ln (crs p q)) (aX (crs p q)) pre).map dS),.own ((cn (fun c => -ln (crs p q) c) (aX (crs p q)) pre).map dS),gy,v6,f9,fp,gA]) ⟨_,_,_,_,_,rfl⟩ ?_ ?_
 ·rintro pre x rest ρ mn ⟨gy,v6,f9,fp,gA,rfl⟩ N aZ;have mn:sh=pre++x::rest:=by simpa using mn
  have aB:x∈sh:=by rw[mn];simp
  have eK:pre.length<1000:=by have:=congrArg aam mn;simp at this;omega
  have aG:=l0 (f:=ln (crs p q)) (mt:=aX (crs p q)) pre;have aJ:=l0 (f:=fun c => -ln (crs p q) c) (mt:=aX (crs p q)) pre;refine⟨_,rfl,_,rfl,_,rfl,rfl,x.1,p,q,rfl,bp,gx,af x aB,ui x aB,_,rfl,?_⟩;refine⟨_,rfl,rfl,_,_,rfl,_,_,rfl,rfl,?_⟩;show sd (zL (A1 (dC 8)) (zS 3 (vf (mu (dC 8) (mu (dC 6) (mu (dC 7) r8))))) zJ) (zL (A1 (dC 9)) (zS 4 (vf (mu (dC 9) (mu (dC 6) (mu (dC 7) r8))))) zJ) _ [.new (.lst (sh.map dS)),.val (dP p),.val (dP q),.own ((cn (ln (crs p q)) (aX (crs p q)) pre).map dS),.own ((cn (fun c => -ln (crs p q) c) (aX (crs p q)) pre).map dS),.new (.lst (x.1.map dP)),.val (.bl x.2.1),.val (dP x.2.2),.val (.lst ((keepR (ln (crs p q)) (aX (crs p q)) x.1).map dP)),.val (.lst ((keepR (fun c => -ln (crs p q) c) (aX (crs p q)) x.1).map dP))]
  refine eO (fun ρ=>ρ=[.new (.lst (sh.map dS)),.val (dP p),.val (dP q),.own ((cn (ln (crs p q)) (aX (crs p q)) (pre++[x])).map dS),.own ((cn (fun c => -ln (crs p q) c) (aX (crs p q)) pre).map dS),.new (.lst (x.1.map dP)),.val (.bl x.2.1),.val (dP x.2.2),.val (.lst ((keepR (ln (crs p q)) (aX (crs p q)) x.1).map dP)),.val (.lst ((keepR (fun c => -ln (crs p q) c) (aX (crs p q)) x.1).map dP))]) ?_ (fun N aZ=>?_);rotate_left
  ·refine⟨_,rfl,_,rfl,?_⟩;cases c:(keepR (ln (crs p q)) (aX (crs p q)) x.1).isEmpty with
   | false =>
    refine qw (by rw[acE,c];rfl) ?_;refine⟨_,rfl,_,rfl,_,rfl,_,rfl,by show 3<=sizeLine;decide,by rw[Zf];omega,aZ _ ?_⟩;rw[tj,wq c,Z7];rfl
   | true =>
    refine qx (by rw[acE,c];rfl) (aZ _ ?_);rw[tj,wt c,Z']
  rintro ρ rfl;refine⟨_,rfl,_,rfl,?_⟩;cases c:(keepR (fun c => -ln (crs p q) c) (aX (crs p q)) x.1).isEmpty with
  | false =>
   refine qw (by rw[acE,c];rfl) ?_;refine⟨_,rfl,_,rfl,_,rfl,_,rfl,by show 3<=sizeLine;decide,by rw[Zf];omega,aZ _ ⟨.new (.lst (x.1.map dP)),.val (.bl x.2.1),.val (dP x.2.2),.val (.lst ((keepR (ln (crs p q)) (aX (crs p q)) x.1).map dP)),.val (.lst ((keepR (fun c => -ln (crs p q) c) (aX (crs p q)) x.1).map dP)),?_⟩⟩;rw[tj (f:=fun c => -ln (crs p q) c),wq c,Z7 (l₂:=[(keepR (fun c => -ln (crs p q) c) (aX (crs p q)) x.1,x.2)])];rfl
  | true =>
   refine qx (by rw[acE,c];rfl) (aZ _ ⟨.new (.lst (x.1.map dP)),.val (.bl x.2.1),.val (dP x.2.2),.val (.lst ((keepR (ln (crs p q)) (aX (crs p q)) x.1).map dP)),.val (.lst ((keepR (fun c => -ln (crs p q) c) (aX (crs p q)) x.1).map dP)),?_⟩);rw[tj (f:=fun c => -ln (crs p q) c),wt c,Z']
 ·rintro ρ ⟨gy,v6,f9,fp,gA,rfl⟩;refine⟨_,rfl,_,rfl,?_⟩;exact⟨_,rfl,_,rfl,by show 2<=sizeLine;decide,ah⟩
theorem Je:cG ["x","y","shared"] ["x","y"] (b0 x7):=by walk_at "sc"
def ow  : FS:=fun as k=>∃(dM pL:D)(x y u v:Int),as=[.val dM,.val pL]/\(sL dM=some [.int x,.int y])/\(sL pL=some [.int u,.int v])/\(aO x y)/\(aO u v)/\(intBits x<=4000)/\(intBits y<=4000)/\(intBits u<=4000)/\(intBits v<=4000)/\k (.val (dP (cy (x*v) (u*y) (y*v))))
theorem Vh(B:cM mg)(F:cD K mg "at" x7 ["x","y"])(h3:aI P w K mg base "greatest_divisor" ["one","other"] 2 (aK K 2 pU)):
  aI P w K mg base "at" ["x","y"] 3 (aK K 2 ow):=by
 refine df (lv:=2) F Je rfl (fun f cdv A outer s H E ak=>⟨_,(a8 (cF (i:=2) Je.nd rfl (Sz rfl) (aW h3 ak (by rfl) (aw (ic (ae 0) aA (fun _ _=>rfl)) (aw (ic (ae 1) aA (fun _ _=>rfl)) aS)))) (bC (cc (c8 (aU (cz (ic (ae 0) aA (fun _ _=>rfl)) (dH (ic (ae 1) aA (fun _ _=>rfl)) (ae 2))) (aU (cz (ic (ae 1) aA (fun _ _=>rfl)) (dH (ic (ae 0) aA (fun _ _=>rfl)) (ae 2))) (aU (cz (dH (ic (ae 0) aA (fun _ _=>rfl)) (ae 2)) (ic (ae 1) aA (fun _ _=>rfl))) bU))))))),?_⟩);rintro as k aj ⟨dM,pL,x,y,u,v,rfl,aB,a5,bt,bz,i9,hk,iG,bv,ah⟩;refine cR (r:=[.val dM,.val pL,.no]) rfl ?_;have v0:v≠0:=Zh bz.1;have sp:=nq (t:=y) (b:=v) v0;have gd:=kO (a:=y) (b:=v) v0 bv;rw[<-Pt bt bz]at ah;refine⟨_,rfl,_,_,_,aB,rfl,rfl,_,rfl,_,_,_,a5,rfl,rfl,rfl,_,_,rfl,?_⟩;dsimp only[bN];generalize((Ze y v:Nat):Int)=s at *;have a9:intBits (v.fdiv s)<=4000:=d3 (natAbs_fdiv_le _ _) bv;have bf:intBits (y.fdiv s)<=4000:=d3 (natAbs_fdiv_le _ _) hk;have hd:∀z:Int,intBits s<=9000->qj z s:=fun z _=>⟨by omega,Gq gd (by decide)⟩;refine⟨_,rfl,_,_,_,aB,rfl,rfl,_,rfl,_,_,_,a5,rfl,rfl,_,rfl,_,_,rfl,rfl,hd _ (Gq gd (by decide)),_,_,rfl,rfl,⟨by walk_at "bits",by walk_at "bits"⟩,?_⟩;refine⟨_,rfl,_,_,_,a5,rfl,rfl,_,rfl,_,_,_,aB,rfl,rfl,_,rfl,_,_,rfl,rfl,hd _ (Gq gd (by decide)),_,_,rfl,rfl,⟨by walk_at "bits",by walk_at "bits"⟩,?_⟩;refine⟨_,rfl,_,_,_,aB,rfl,rfl,_,rfl,_,_,rfl,rfl,hd _ (Gq gd (by decide)),_,rfl,_,_,_,a5,rfl,rfl,_,_,rfl,rfl,⟨by walk_at "bits",by walk_at "bits"⟩,by show 3<=sizeLine;decide,?_⟩;exact ah
theorem Vi:cG ["sheet","place"] ["sheet","place"] (b0 yd):=by walk_at "sc"
def uj  : FS:=fun as k=>∃(sh:List Piece)(x:bx),as=[.val (.lst (sh.map dS)),.val (dR x)]/\(aO x.1 x.2)/\(intBits x.1<=80)/\(intBits x.2<=80)/\(∀s∈sh,∀c∈s.1,cm 1990 c/\aR c)/\(∀s∈sh,s.1.length<=1000)/\(sh.length<=1000)/\k (.new (.tup [.lst ((cn (ln (dU x)) (aX (dU x)) sh).map dS),.lst ((cn (fun c => -ln (dU x) c) (aX (dU x)) sh).map dS)]))
theorem Vj(B:cM mg)(F:cD K mg "cut_upright" yd ["sheet","place"])(uk:aI P w K mg base "cut_sheet" ["sheet","p","q"] 6 (aK K 3 xJ))(hE:aI P w K mg base "at" ["x","y"] 3 (aK K 2 ow)):
  aI P w K mg base "cut_upright" ["sheet","place"] 7 (aK K 2 uj):=by
 refine th (lv:=6) [true,false] F Vi rfl (fun f cdv A outer s H E ak=>⟨_,(bC (cc (v9 (v8 (qJ uk ak (by rfl) (aw (ae 0) (aw (aW hE ak (by rfl) (aw (ae 1) (aw (c8 (aU aA (aU aA bU))) aS))) (aw (aW hE ak (by rfl) (aw (ae 1) (aw (c8 (aU aA (aU aA bU))) aS))) aS)))))))),?_⟩);rintro as k aj ⟨sh,x,rfl,bt,a9,bf,af,ui,aj,ah⟩;refine⟨⟨trivial,rfl,trivial⟩,cR (r:=[.new (.lst (sh.map dS)),.val (dR x)]) rfl ?_⟩;have eF:aO 0 1:=⟨by decide,by decide⟩;have gJ:aO 1 1:=⟨by decide,by decide⟩;have eY:intBits 0<=4000:=by decide
 have mM:intBits 1<=4000:=by decide
 have i7:intBits x.1<=4000:=Gq a9 (by decide);have mw:intBits x.2<=4000:=Gq bf (by decide);have g1:cm 300 (cy (x.1*1) (0*x.2) (x.2*1)):=(j8 (n:=10) a9 bf (by decide) (by decide) bt eF).mono (by decide);have g2:cm 300 (cy (x.1*1) (1*x.2) (x.2*1)):=(j8 (n:=10) a9 bf (by decide) (by decide) bt gJ).mono (by decide);refine⟨_,rfl,_,rfl,by show 2<=sizeLine;decide,rfl,_,_,x.1,x.2,0,1,rfl,rfl,rfl,bt,eF,i7,mw,eY,mM,?_⟩;dsimp only[bN];refine⟨_,rfl,by show 2<=sizeLine;decide,rfl,_,_,x.1,x.2,1,1,rfl,rfl,rfl,bt,gJ,i7,mw,mM,mM,?_⟩;dsimp only[bN];exact⟨rfl,sh,_,_,rfl,g1,g2,af,ui,aj,_,rfl,ah⟩
theorem CT:cG ["sheet","height","above","below"] ["sheet","height"] (b0 ye):=by walk_at "sc"
def xK  : FS:=fun as k=>∃(sh:List Piece)(x:bx),as=[.val (.lst (sh.map dS)),.val (dR x)]/\(aO x.1 x.2)/\(intBits x.1<=80)/\(intBits x.2<=80)/\(∀s∈sh,∀c∈s.1,cm 1990 c/\aR c)/\(∀s∈sh,s.1.length<=1000)/\(sh.length<=1000)/\k (.new (.tup [.lst ((cn (fun c => -ln (dV x) c) (aX (dV x)) sh).map dS),.lst ((cn (ln (dV x)) (aX (dV x)) sh).map dS)]))
theorem Vk(B:cM mg)(F:cD K mg "cut_level" ye ["sheet","height"])(uk:aI P w K mg base "cut_sheet" ["sheet","p","q"] 6 (aK K 3 xJ))(hE:aI P w K mg base "at" ["x","y"] 3 (aK K 2 ow)):
  aI P w K mg base "cut_level" ["sheet","height"] 7 (aK K 2 xK):=by
 refine th (lv:=6) [true,false] F CT rfl (fun f cdv A outer s H E ak=>⟨_,(a8 (hS (v9 (v8 (qJ uk ak (by rfl) (aw (ae 0) (aw (aW hE ak (by rfl) (aw (c8 (aU aA (aU aA bU))) (aw (ae 1) aS))) (aw (aW hE ak (by rfl) (aw (c8 (aU aA (aU aA bU))) (aw (ae 1) aS))) aS)))))) (gk (n:=2) rfl (c1 (b9 (i:=2) CT.nd rfl (Sz rfl)) (c1 (b9 (i:=3) CT.nd rfl (Sz rfl)) f3)))) (bC (cc (c8 (aU (ae 3) (aU (ae 2) bU)))))),?_⟩);rintro as k aj ⟨sh,x,rfl,bt,a9,bf,af,ui,aj,ah⟩;refine⟨⟨trivial,rfl,trivial⟩,cR (r:=[.new (.lst (sh.map dS)),.val (dR x),.no,.no]) rfl ?_⟩;have eF:aO 0 1:=⟨by decide,by decide⟩;have gJ:aO 1 1:=⟨by decide,by decide⟩;have eY:intBits 0<=4000:=by decide
 have mM:intBits 1<=4000:=by decide
 have i7:intBits x.1<=4000:=Gq a9 (by decide);have mw:intBits x.2<=4000:=Gq bf (by decide);have g1:cm 300 (cy (0*x.2) (x.1*1) (1*x.2)):=(j8 (m:=10) (by decide) (by decide) a9 bf eF bt).mono (by decide);have g2:cm 300 (cy (1*x.2) (x.1*1) (1*x.2)):=(j8 (m:=10) (by decide) (by decide) a9 bf gJ bt).mono (by decide);refine⟨_,rfl,by show 2<=sizeLine;decide,_,rfl,rfl,_,_,0,1,x.1,x.2,rfl,rfl,rfl,eF,bt,eY,mM,i7,mw,?_⟩;dsimp only[bN];refine⟨by show 2<=sizeLine;decide,_,rfl,rfl,_,_,1,1,x.1,x.2,rfl,rfl,rfl,gJ,bt,mM,mM,i7,mw,?_⟩;dsimp only[bN];refine⟨rfl,sh,_,_,rfl,g1,g2,af,ui,aj,_,rfl,?_⟩;refine⟨_,rfl,rfl,_,_,rfl,_,_,rfl,rfl,?_⟩;exact⟨_,rfl,_,rfl,by show 2<=sizeLine;decide,ah⟩
theorem lq:cG ["p","step","a","b","n","right","up","parts","shared","x","y","divisor"] ["p","step"] (b0 x8):=by walk_at "sc"
def Jf  : FS:=fun as k=>∃(p g:P3),as=[.val (dP p),.val (dP g)]/\(aR p)/\(cm 3000 p)/\(aR g)/\(cm 1000 g)/\k (.val (dP (nP (sld g p))))
theorem Vl(B:cM mg)(F:cD K mg "slid" x8 ["p","step"])(h3:aI P w K mg base "greatest_divisor" ["one","other"] 2 (aK K 2 pU)):
  aI P w K mg base "slid" ["p","step"] 3 (aK K 2 Jf):=by
 refine df (lv:=2) F lq rfl (fun f cdv A outer s H E ak=>⟨_,(a8 (hS (ae 0) (gk (n:=3) rfl (c1 (b9 (i:=2) lq.nd rfl (Sz rfl)) (c1 (b9 (i:=3) lq.nd rfl (Sz rfl)) (c1 (b9 (i:=4) lq.nd rfl (Sz rfl)) f3))))) (a8 (hS (ae 1) (gk (n:=3) rfl (c1 (b9 (i:=5) lq.nd rfl (Sz rfl)) (c1 (b9 (i:=6) lq.nd rfl (Sz rfl)) (c1 (b9 (i:=7) lq.nd rfl (Sz rfl)) f3))))) (a8 (cF (i:=8) lq.nd rfl (Sz rfl) (aW h3 ak (by rfl) (aw (ae 4) (aw (ae 7) aS)))) (a8 (cF (i:=9) lq.nd rfl (Sz rfl) (ed (cz (ae 2) (dH (ae 7) (ae 8))) (cz (ae 5) (dH (ae 4) (ae 8))))) (a8 (cF (i:=10) lq.nd rfl (Sz rfl) (ed (cz (ae 3) (dH (ae 7) (ae 8))) (cz (ae 6) (dH (ae 4) (ae 8))))) (a8 (cF (i:=11) lq.nd rfl (Sz rfl) (aW h3 ak (by rfl) (aw (aW h3 ak (by rfl) (aw (ae 8) (aw (ae 9) aS))) (aw (ae 10) aS)))) (bC (cc (c8 (aU (dH (ae 9) (ae 11)) (aU (dH (ae 10) (ae 11)) (aU (cz (dH (ae 4) (ae 8)) (dH (ae 7) (ae 11))) bU)))))))))))),?_⟩);rintro as k aj ⟨p,g,rfl,Jg,bp,Jh,hu,ah⟩;refine cR (r:=[.val (dP p),.val (dP g),.no,.no,.no,.no,.no,.no,.no,.no,.no,.no]) rfl ?_;obtain⟨a,b,n⟩:=p;obtain⟨r,w,m⟩:=g;have aa:intBits a<=3000:=bp.a;have ab:intBits b<=3000:=bp.b;have aL:intBits n<=3000:=bp.c;have bo:intBits r<=1000:=hu.a;have de:intBits w<=1000:=hu.b;have fl:intBits m<=1000:=hu.c;have cS:n≠0:=Zh Jg.1;have m0:m≠0:=Zh Jh.1;have sp:=nq (t:=n) (b:=m) m0;have gd:=kO (a:=n) (b:=m) m0 fl;have c0:=fun X Y d=>Pu (a:=a) (b:=b) (n:=n) (r:=r) (w:=w) (m:=m) Jg Jh (s:=((Ze n m:Nat):Int)) (X:=X) (Y:=Y) (d:=d) rfl;have ah:k (.val (dP (cy (a*m+r*n) (b*m+w*n) (n*m)))):=ah;refine⟨_,rfl,_,rfl,rfl,_,_,rfl,_,_,rfl,_,_,rfl,rfl,?_⟩;refine⟨_,rfl,_,rfl,rfl,_,_,rfl,_,_,rfl,_,_,rfl,rfl,?_⟩;walk_at "w";refine⟨_,_,rfl,?_⟩;dsimp only[bN];generalize((Ze n m:Nat):Int)=s at *;have a9:intBits (m.fdiv s)<=1000:=d3 (natAbs_fdiv_le _ _) fl;have bf:intBits (n.fdiv s)<=3000:=d3 (natAbs_fdiv_le _ _) aL;have tb:intBits (a*m.fdiv s+r*n.fdiv s)<=4001:=intBits_add_le (intBits_mul_le aa a9) (intBits_mul_le bo bf);have bT:intBits (b*m.fdiv s+w*n.fdiv s)<=4001:=intBits_add_le (intBits_mul_le ab a9) (intBits_mul_le de bf);have c0:=fun d=>c0 _ _ d rfl rfl;walk_at "w";refine⟨_,_,rfl,?_⟩;dsimp only[bN];walk_at "w";refine⟨_,_,rfl,?_⟩;dsimp only[bN];generalize a*m.fdiv s+r*n.fdiv s=X at *;generalize b*m.fdiv s+w*n.fdiv s=Y at *;have c0:=c0 _ rfl;have bq:=kR (a:=s) (b:=X) (.inl (Zh sp))
 have ew:intBits ((Ze s X:Nat):Int)<=1000:=by
  rw[aaR];exact kO (Zh sp) gd
 generalize((Ze s X:Nat):Int)=e at *;have dp:=kR (a:=e) (b:=Y) (.inl (Zh bq))
 have db:intBits ((Ze e Y:Nat):Int)<=1000:=by
  rw[aaR];exact kO (Zh bq) ew
 generalize((Ze e Y:Nat):Int)=d at *;have dO:intBits (m.fdiv d)<=1000:=d3 (natAbs_fdiv_le _ _) fl;rw[<-c0]at ah;walk_at "w";exact ah
theorem Vm:cG ["sheet","step"] ["sheet","step"] (b0 yf):=by walk_at "sc"
def rx  : FS:=fun as k=>∃(sh:List Piece)(g:P3),as=[.val (.lst (sh.map dS)),.val (dP g)]/\(sh.length<=400)/\(∀s∈sh,GM s)/\(c' 400 g)/\k (.new (.lst ((sh.map (ej g)).map dS)))
theorem Vn(B:cM mg)(F:cD K mg "moved" yf ["sheet","step"])(Ji:aI P w K mg base "slid" ["p","step"] 3 (aK K 2 Jf)):
  aI P w K mg base "moved" ["sheet","step"] 4 (aK K 2 rx):=by
 refine df (lv:=3) F Vm rfl (fun f cdv A outer s H E ak=>⟨_,(bC (E7 (OO (ts:=["ring","is_turned","elder_step"]) (fr:=["step"]) (js:=[1]) (iZ (ae 0)) (fun _ _ _ _=>(gk (n:=3) rfl (c1 (b9 (i:=0) (show aaq (["ring","is_turned","elder_step","step"]:List Str) by decide +kernel) rfl (Sz rfl)) (c1 (b9 (i:=1) (show aaq (["ring","is_turned","elder_step","step"]:List Str) by decide +kernel) rfl (Sz rfl)) (c1 (b9 (i:=2) (show aaq (["ring","is_turned","elder_step","step"]:List Str) by decide +kernel) rfl (Sz rfl)) f3))))) (fun _ _ _ _=>jq) (fun _ _ _ _=>(OI (Aj (OG (nN (ts:=["corner"]) (fr:=["step"]) (js:=[3]) (iZ (ae 0)) (fun _ _ _ _=>(b9 (i:=0) (show aaq (["corner","step"]:List Str) by decide +kernel) rfl (Sz rfl))) (fun _ _ _ _=>jq) (fun _ _ _ _=>(aW Ji ak (by rfl) (aw (ae 0) (aw (ae 1) aS)))) ⟨rfl,by decide +kernel,rfl,by decide +kernel,ib (aaI.mpr ⟨rfl,(aay _)⟩),iA rfl,by walk_at "ffr",rfl⟩)) (Aj (E6 (ae 1)) (Aj (E6 (aW Ji ak (by rfl) (aw (ae 2) (aw (ae 3) aS)))) OH))))) ⟨rfl,by decide +kernel,rfl,by decide +kernel,ib (aaI.mpr ⟨rfl,(aay _)⟩),iA rfl,by walk_at "ffr",rfl⟩))),?_⟩);rintro as k aj ⟨sh,g,rfl,aj,aq,aC,ah⟩;refine cR (r:=[.val (.lst (sh.map dS)),.val (dP g)]) rfl ?_;have big:1000<=sizeLine:=by decide
 refine⟨_,rfl,_,rfl,by rw[Zf];omega,?_⟩;refine AE (h:=fun s=>dS (ej g s)) (fs:=[.val (dP g)]) (fun s Vo ck qN=>?_) (by rw[aap]at ah;exact ah);have l:=aq s Vo;have ln:=l.ln;refine⟨_,rfl,_,rfl,by rw[Zf];omega,?_⟩;refine lP (f:=dP) (h:=fun p=>dP (nP (sld g p))) (fs:=[.val (dP g)]) (fun r ak fS CR=>⟨_,rfl,_,rfl,rfl,r,g,rfl,(l.ps r ak).pt,((l.ps r ak).bp.mono (by decide)),aC.pt,(aC.bp.mono (by decide)),CR⟩) ⟨AF (fun p=>nP (sld g p)) _,?_⟩;refine⟨_,rfl,rfl,?_⟩;refine⟨_,rfl,_,rfl,rfl,s.2.2,g,rfl,l.st.pt,(l.st.bp.mono (by decide)),aC.pt,(aC.bp.mono (by decide)),rfl,by show 3<=sizeLine;decide,?_⟩;rw[PE (fun p=>nP (sld g p))];exact qN
theorem Vp:cG ["one","other"] ["one","other"] (b0 x2):=by walk_at "sc"
def Jj  : FS:=fun as k=>∃(x y u v:Int),as=[.val (dR (x,y)),.val (dR (u,v))]/\(intBits x<=4000)/\(intBits y<=4000)/\(intBits u<=4000)/\(intBits v<=4000)/\k (.val (.bl (decide (x*v<u*y))))
theorem Vq(B:cM mg)(F:cD K mg "under" x2 ["one","other"])  :
  aI P w K mg base "under" ["one","other"] 2 (aK K 2 Jj):=by
 refine df (lv:=1) F Vp rfl (fun f cdv A outer s H E ak=>⟨_,(bC (cc (lI (f:=fun i j=>decide (i<j)) lA (cz (aV (ae 0) aA (fun _ _=>rfl)) (aV (ae 1) aA (fun _ _=>rfl))) (cz (aV (ae 1) aA (fun _ _=>rfl)) (aV (ae 0) aA (fun _ _=>rfl))) (dk _)))),?_⟩);rintro as k aj ⟨x,y,u,v,rfl,i9,hk,iG,bv,ah⟩;refine cR (r:=[.val (dR (x,y)),.val (dR (u,v))]) rfl ?_;walk_at "w";exact ah
theorem Vr:cG ["one"] ["one"] (b0 x4):=by walk_at "sc"
def Jk  : FS:=fun as k=>∃(x y:Int),as=[.val (dR (x,y))]/\(0<y)/\(intBits y<=4000)/\k (.val (.int (-((-x).fdiv y))))
theorem Vs(B:cM mg)(F:cD K mg "least_whole" x4 ["one"])  :
  aI P w K mg base "least_whole" ["one"] 2 (aK K 1 Jk):=by
 refine df (lv:=1) F Vr rfl (fun f cdv A outer s H E ak=>⟨_,(bC (cc (iw (dH (iw (aV (ae 0) aA (fun _ _=>rfl))) (aV (ae 0) aA (fun _ _=>rfl)))))),?_⟩);rintro as k aj ⟨x,y,rfl,bW,hk,ah⟩;refine cR (r:=[.val (dR (x,y))]) rfl ?_;have bI:y≠0:=by omega
 walk_at "w";exact ah
theorem Vt:cG ["one"] ["one"] (b0 x5):=by walk_at "sc"
def Jl  : FS:=fun as k=>∃(x y:Int),as=[.val (dR (x,y))]/\(0<y)/\(intBits y<=4000)/\k (.val (.int (x.fdiv y)))
theorem Vu(B:cM mg)(F:cD K mg "most_whole" x5 ["one"])  :
  aI P w K mg base "most_whole" ["one"] 2 (aK K 1 Jl):=by
 refine df (lv:=1) F Vt rfl (fun f cdv A outer s H E ak=>⟨_,(bC (cc (dH (aV (ae 0) aA (fun _ _=>rfl)) (aV (ae 0) aA (fun _ _=>rfl))))),?_⟩);rintro as k aj ⟨x,y,rfl,bW,hk,ah⟩;refine cR (r:=[.val (dR (x,y))]) rfl ?_;have bI:y≠0:=by omega
 walk_at "w";exact ah
theorem Vv:cG ["one"] ["one"] (b0 x3):=by walk_at "sc"
def CU  : FS:=fun as k=>∃(x y:Int),as=[.val (dR (x,y))]/\k (.val (dR (-x,y)))
theorem Vw(B:cM mg)(F:cD K mg "against" x3 ["one"])  :
  aI P w K mg base "against" ["one"] 2 (aK K 1 CU):=by
 refine df (lv:=1) F Vv rfl (fun f cdv A outer s H E ak=>⟨_,(bC (cc (c8 (aU (iw (aV (ae 0) aA (fun _ _=>rfl))) (aU (aV (ae 0) aA (fun _ _=>rfl)) bU))))),?_⟩);rintro as k aj ⟨x,y,rfl,ah⟩;refine cR (r:=[.val (dR (x,y))]) rfl ?_;walk_at "w";exact ah
theorem ox:cG ["one","other","shared","top","divisor"] ["one","other"] (b0 uC):=by walk_at "sc"
def Jm  : FS:=fun as k=>∃(x y u v:Int),as=[.val (dR (x,y)),.val (dR (u,v))]/\(aO x y)/\(aO u v)/\(intBits x<=4000)/\(intBits y<=4000)/\(intBits u<=4000)/\(intBits v<=4000)/\k (.val (dR (cA (x*v+u*y) (y*v))))
theorem Vx(B:cM mg)(F:cD K mg "plus" uC ["one","other"])(h3:aI P w K mg base "greatest_divisor" ["one","other"] 2 (aK K 2 pU)):
  aI P w K mg base "plus" ["one","other"] 3 (aK K 2 Jm):=by
 refine df (lv:=2) F ox rfl (fun f cdv A outer s H E ak=>⟨_,(a8 (cF (i:=2) ox.nd rfl (Sz rfl) (aW h3 ak (by rfl) (aw (aV (ae 0) aA (fun _ _=>rfl)) (aw (aV (ae 1) aA (fun _ _=>rfl)) aS)))) (a8 (cF (i:=3) ox.nd rfl (Sz rfl) (ed (cz (aV (ae 0) aA (fun _ _=>rfl)) (dH (aV (ae 1) aA (fun _ _=>rfl)) (ae 2))) (cz (aV (ae 1) aA (fun _ _=>rfl)) (dH (aV (ae 0) aA (fun _ _=>rfl)) (ae 2))))) (a8 (cF (i:=4) ox.nd rfl (Sz rfl) (aW h3 ak (by rfl) (aw (ae 2) (aw (ae 3) aS)))) (bC (cc (c8 (aU (dH (ae 3) (ae 4)) (aU (cz (dH (aV (ae 0) aA (fun _ _=>rfl)) (ae 2)) (dH (aV (ae 1) aA (fun _ _=>rfl)) (ae 4))) bU)))))))),?_⟩);rintro as k aj ⟨x,y,u,v,rfl,bt,bz,i9,hk,iG,bv,ah⟩;refine cR (r:=[.val (dR (x,y)),.val (dR (u,v)),.no,.no,.no]) rfl ?_;have v0:v≠0:=Zh bz.1;have sp:=nq (t:=y) (b:=v) v0;have gd:=kO (a:=y) (b:=v) v0 bv;have c0:=fun top d=>Fj bt bz (s:=((Ze y v:Nat):Int)) (top:=top) (d:=d) rfl;walk_at "w";refine⟨_,_,rfl,?_⟩;dsimp only[bN];generalize((Ze y v:Nat):Int)=s at *;have a9:intBits (v.fdiv s)<=4000:=d3 (natAbs_fdiv_le _ _) bv;have bf:intBits (y.fdiv s)<=4000:=d3 (natAbs_fdiv_le _ _) hk;have tb:intBits (x*v.fdiv s+u*y.fdiv s)<=8001:=intBits_add_le (intBits_mul_le i9 a9) (intBits_mul_le iG bf);have c0:=fun d=>c0 _ d rfl;walk_at "w";refine⟨_,_,rfl,?_⟩;dsimp only[bN];generalize x*v.fdiv s+u*y.fdiv s=top at *;have c0:=c0 _ rfl;have dp:=kR (a:=s) (b:=top) (.inl (Zh sp))
 have db:intBits ((Ze s top:Nat):Int)<=4000:=by
  rw[aaR];exact kO (Zh sp) gd
 generalize((Ze s top:Nat):Int)=d at *;have dO:intBits (v.fdiv d)<=4000:=d3 (natAbs_fdiv_le _ _) bv;rw[<-c0]at ah;walk_at "w";exact ah
theorem Vy:cG ["one","other"] ["one","other"] (b0 xY):=by walk_at "sc"
def CV  : FS:=fun as k=>∃(x y u v:Int),as=[.val (dR (x,y)),.val (dR (u,v))]/\(aO x y)/\(aO u v)/\(intBits x<=4000)/\(intBits y<=4000)/\(intBits u<=4000)/\(intBits v<=4000)/\k (.val (dR (cA (x*v-u*y) (y*v))))
theorem Vz(B:cM mg)(F:cD K mg "minus" xY ["one","other"])(CW:aI P w K mg base "plus" ["one","other"] 3 (aK K 2 Jm))(CX:aI P w K mg base "against" ["one"] 2 (aK K 1 CU)):
  aI P w K mg base "minus" ["one","other"] 4 (aK K 2 CV):=by
 refine df (lv:=3) F Vy rfl (fun f cdv A outer s H E ak=>⟨_,(bC (cc (aW CW ak (by rfl) (aw (ae 0) (aw (aW CX ak (by rfl) (aw (ae 1) aS)) aS))))),?_⟩);rintro as k aj ⟨x,y,u,v,rfl,bt,bz,i9,hk,iG,bv,ah⟩;refine cR (r:=[.val (dR (x,y)),.val (dR (u,v))]) rfl ?_;refine⟨_,rfl,_,rfl,rfl,u,v,rfl,?_⟩;refine⟨rfl,x,y,-u,v,rfl,bt,⟨bz.1,by rw[ab3];exact bz.2⟩,i9,hk,intBits_neg_le iG,bv,?_⟩;rw[abH,<-Int.sub_eq_add_neg];exact ah
theorem CY:cG ["one","other","first","second"] ["one","other"] (b0 xZ):=by walk_at "sc"
def l7  : FS:=fun as k=>∃(x y u v:Int),as=[.val (dR (x,y)),.val (dR (u,v))]/\(aO x y)/\(aO u v)/\(intBits x<=4000)/\(intBits y<=4000)/\(intBits u<=4000)/\(intBits v<=4000)/\k (.val (dR (cA (x*u) (y*v))))
theorem VA(B:cM mg)(F:cD K mg "times" xZ ["one","other"])(h3:aI P w K mg base "greatest_divisor" ["one","other"] 2 (aK K 2 pU)):
  aI P w K mg base "times" ["one","other"] 3 (aK K 2 l7):=by
 refine df (lv:=2) F CY rfl (fun f cdv A outer s H E ak=>⟨_,(a8 (cF (i:=2) CY.nd rfl (Sz rfl) (aW h3 ak (by rfl) (aw (aV (ae 0) aA (fun _ _=>rfl)) (aw (aV (ae 1) aA (fun _ _=>rfl)) aS)))) (a8 (cF (i:=3) CY.nd rfl (Sz rfl) (aW h3 ak (by rfl) (aw (aV (ae 1) aA (fun _ _=>rfl)) (aw (aV (ae 0) aA (fun _ _=>rfl)) aS)))) (bC (cc (c8 (aU (cz (dH (aV (ae 0) aA (fun _ _=>rfl)) (ae 2)) (dH (aV (ae 1) aA (fun _ _=>rfl)) (ae 3))) (aU (cz (dH (aV (ae 0) aA (fun _ _=>rfl)) (ae 3)) (dH (aV (ae 1) aA (fun _ _=>rfl)) (ae 2))) bU))))))),?_⟩);rintro as k aj ⟨x,y,u,v,rfl,bt,bz,i9,hk,iG,bv,ah⟩;refine cR (r:=[.val (dR (x,y)),.val (dR (u,v)),.no,.no]) rfl ?_;have v0:v≠0:=Zh bz.1;have bW:y≠0:=Zh bt.1;have cB:=nq (t:=x) (b:=v) v0;have vQ:=kO (a:=x) (b:=v) v0 bv;have ag:=nq (t:=u) (b:=y) bW;have af:=kO (a:=u) (b:=y) bW hk;rw[<-Pm bt bz]at ah;walk_at "w";refine⟨_,_,rfl,?_⟩;walk_at "w";refine⟨_,_,rfl,?_⟩;dsimp only[bN];generalize((Ze x v:Nat):Int)=f at *;generalize((Ze u y:Nat):Int)=g at *;have a9:intBits (x.fdiv f)<=4000:=d3 (natAbs_fdiv_le _ _) i9;have bf:intBits (u.fdiv g)<=4000:=d3 (natAbs_fdiv_le _ _) iG;have dO:intBits (y.fdiv g)<=4000:=d3 (natAbs_fdiv_le _ _) hk;have fw:intBits (v.fdiv f)<=4000:=d3 (natAbs_fdiv_le _ _) bv;walk_at "w";exact ah
theorem VB:cG ["one","other"] ["one","other"] (b0 x1):=by walk_at "sc"
def xM  : FS:=fun as k=>∃(x y u v:Int),as=[.val (dR (x,y)),.val (dR (u,v))]/\(aO x y)/\(aO u v)/\(intBits x<=4000)/\(intBits y<=4000)/\(intBits u<=4000)/\(intBits v<=4000)/\(u≠0)/\k (.val (dR (cA (x*v) (y*u))))
theorem VC(B:cM mg)(F:cD K mg "over" x1 ["one","other"])(hp:aI P w K mg base "times" ["one","other"] 3 (aK K 2 l7)):
  aI P w K mg base "over" ["one","other"] 4 (aK K 2 xM):=by
 refine df (lv:=3) F VB rfl (fun f cdv A outer s H E ak=>⟨_,(a8 (ei (e9 (f:=fun i j=>decide (i=j)) h8 (aV (ae 1) aA (fun _ _=>rfl)) aA (dk _)) (bC zM) ez) (a8 (ei (e9 (f:=fun i j=>decide (i<j)) lA (aV (ae 1) aA (fun _ _=>rfl)) aA (dk _)) (bC (cc (aW hp ak (by rfl) (aw (ae 0) (aw (c8 (aU (iw (aV (ae 1) aA (fun _ _=>rfl))) (aU (iw (aV (ae 1) aA (fun _ _=>rfl))) bU))) aS))))) ez) (bC (cc (aW hp ak (by rfl) (aw (ae 0) (aw (c8 (aU (aV (ae 1) aA (fun _ _=>rfl)) (aU (aV (ae 1) aA (fun _ _=>rfl)) bU))) aS))))))),?_⟩);rintro as k aj ⟨x,y,u,v,rfl,bt,bz,i9,hk,iG,bv,ke,ah⟩;refine cR (r:=[.val (dR (x,y)),.val (dR (u,v))]) rfl ?_;have g2:Ze v u=1:=by rw[aaR];exact bz.2
 walk_at "wd";refine fk (fun g=>absurd g ke) (fun _=>?_);walk_at "wd";refine fk (fun g=>?_) (fun g=>?_)
 ·walk_at "w";refine⟨x,y,-v,-u,rfl,bt,⟨by omega,by rw[ab3,Int.gcd_neg];exact g2⟩,i9,hk,intBits_neg_le bv,intBits_neg_le iG,?_⟩;rw[acv,acv,Oz (aah (Zh bt.1) ke)];exact ah
 ·walk_at "w";exact⟨x,y,v,u,rfl,bt,⟨by omega,g2⟩,i9,hk,bv,iG,ah⟩
theorem jF:cG ["sheet","cut","size","first","last","middle","one","other"] ["sheet","cut","size","first","last"] (b0 p0):=by walk_at "sc"
def xN(a_cut_upright a_cut_level:Addr):FS:=fun as k=>∃(sh:List Piece)(c:Bool)(w:bx)(x y bF n t:Nat),as=[.val (dSh sh),.val (.kfn (if c=true then a_cut_level else a_cut_upright)),.val (dR w),.val (.int x),.val (.int y)]/\(aO w.1 w.2)/\(intBits w.1<=70)/\(intBits w.2<=70)/\(x<y)/\(y<=8)/\(y-x<=2^0)/\(c2 1990 bF n t 400 sh)/\(153<=bF/\bF<=1800)/\(n<=1000)/\k (.val (.lst ((fJ c w 0 sh x y).map dSh)))
theorem VD(B:cM mg)(F:cD K mg "slices" p0 ["sheet","cut","size","first","last"])  :
  aI P w K mg base "slices" ["sheet","cut","size","first","last"] 2 (aK K 5 (xN a_cut_upright a_cut_level)):=by
 refine df (lv:=1) F jF rfl (fun f cdv A outer s H E ak=>⟨_,(a8 (ei (e9 (f:=fun i j=>decide (i=j)) h8 (e8 (ae 4) (ae 3)) aA (dk _)) (bC (cc (dD (fv (aU (ae 0) bU))))) ez) MU),?_⟩);rintro as k aj ⟨sh,c,w,x,y,bF,n,t,rfl,lw,aG,aJ,xj,om,c9,aq,hm,aN,ah⟩;refine cR (r:=[.val (dSh sh),.val (.kfn (if c=true then a_cut_level else a_cut_upright)),.val (dR w),.val (.int x),.val (.int y),.no,.no,.no]) rfl ?_;have Z0:y=x+1:=by simp at c9;omega
 refine⟨_,rfl,_,rfl,_,_,rfl,rfl,_,_,rfl,rfl,_,rfl,fk (fun g=>?_) (fun g=>absurd (show((y:Nat):Int)-(x:Int)=1 by omega) g)⟩;exact⟨_,rfl,show 1<=sizeLine by decide,ah⟩
def xO(a_cut_upright a_cut_level:Addr):FS:=fun as k=>∃(sh:List Piece)(c:Bool)(w:bx)(x y bF n t:Nat),as=[.val (dSh sh),.val (.kfn (if c=true then a_cut_level else a_cut_upright)),.val (dR w),.val (.int x),.val (.int y)]/\(aO w.1 w.2)/\(intBits w.1<=70)/\(intBits w.2<=70)/\(x<y)/\(y<=8)/\(y-x<=2^1)/\(c2 1990 bF n t 400 sh)/\(153<=bF/\bF<=1800)/\(n<=999)/\k (.val (.lst ((fJ c w 1 sh x y).map dSh)))
theorem VE(B:cM mg){a_cut_level:Addr}(jd:mg "cut_level"=some (.ref a_cut_level)){a_cut_upright:Addr}(je:mg "cut_upright"=some (.ref a_cut_upright))(F:cD K mg "slices" p0 ["sheet","cut","size","first","last"])(pW:aI P w K mg base "cut_upright" ["sheet","place"] 7 (aK K 2 uj))(um:aI P w K mg base "cut_level" ["sheet","height"] 7 (aK K 2 xK))(hp:aI P w K mg base "times" ["one","other"] 3 (aK K 2 l7))(kl:aI P w K mg base "slices" ["sheet","cut","size","first","last"] 2 (aK K 5 (xN a_cut_upright a_cut_level))):
  aI P w K mg base "slices" ["sheet","cut","size","first","last"] 8 (aK K 5 (xO a_cut_upright a_cut_level)):=by
 refine df (lv:=7) F jF rfl (fun f cdv A outer s H E ak=>⟨_,(a8 (ei (e9 (f:=fun i j=>decide (i=j)) h8 (e8 (ae 4) (ae 3)) aA (dk _)) (bC (cc (dD (fv (aU (ae 0) bU))))) ez) (a8 (cF (i:=5) jF.nd rfl (Sz rfl) (dH (ed (ae 3) (ae 4)) aA)) (a8 (hS (B4 1 pW je um jd ak (aw (ae 0) (aw (aW hp ak (by rfl) (aw (ae 2) (aw (c8 (aU (ae 5) (aU aA bU))) aS))) aS))) (gk (n:=2) rfl (c1 (b9 (i:=6) jF.nd rfl (Sz rfl)) (c1 (b9 (i:=7) jF.nd rfl (Sz rfl)) f3)))) (bC (cc (dD (jm (aW kl ak (by rfl) (aw (ae 6) (aw (ae 1) (aw (ae 2) (aw (ae 3) (aw (ae 5) aS)))))) (aW kl ak (by rfl) (aw (ae 7) (aw (ae 1) (aw (ae 2) (aw (ae 5) (aw (ae 4) aS))))))))))))),?_⟩);rintro as k aj ⟨sh,c,w,x,y,bF,n,t,rfl,lw,aG,aJ,xj,om,c9,aq,hm,aN,ah⟩;refine cR (r:=[.val (dSh sh),.val (.kfn (if c=true then a_cut_level else a_cut_upright)),.val (dR w),.val (.int x),.val (.int y),.no,.no,.no]) rfl ?_;have cY:2<=sizeLine:=by decide
 have big:10000<=sizeLine:=by decide
 rw[fJ]at ah;refine⟨_,rfl,_,rfl,_,_,rfl,rfl,_,_,rfl,rfl,_,rfl,fk (fun g=>?_) (fun g=>?_)⟩
 ·rw[if_pos (by omega)]at ah;exact⟨_,rfl,show 1<=sizeLine by decide,ah⟩
 rw[if_neg (by omega)]at ah;have c9:y-x<=2^0*2:=c9
 have k4:((x:Int)+(y:Int)).fdiv 2=(((x+y)/2:Nat):Int):=by
  rw[ab2 _ (by decide)];omega
 obtain⟨m,uo⟩:∃m,m=(x+y)/2:=⟨_,rfl⟩;rw[<-uo]at ah k4;have oy:x<m:=by omega
 have k8:m<y:=by omega
 refine⟨_,rfl,_,rfl,_,_,rfl,rfl,_,_,rfl,rfl,⟨by decide,by decide⟩,?_⟩;dsimp only;rw[k4];obtain⟨d8,jB⟩:=gu (w:=w) lw.1 (m:Int);obtain⟨bL,b1⟩:=jc (w:=w) (q:=70) lw.1 aG aJ (k:=(m:Int)) (by omega);obtain⟨s1,s2⟩:=aq.cut (c:=c) d8 bL b1 (by omega) (by omega);have bm:intBits (m:Int)<=4000:=Gq (lD (by omega) (by omega)) (by decide);have oz:aO (m:Int) 1:=⟨by decide,by simp⟩;have ag:∀s∈sh,∀c∈s.1,cm 1990 c/\aR c:=fun s dQ p ag=>⟨((aq.1 s dQ).rb.pts p ag).bp,((aq.1 s dQ).rb.pts p ag).pt⟩;have kj:∀s∈sh,s.1.length<=1000:=fun s dQ=>by have:=(aq.1 s dQ).ln;omega
 have ls:=aq.2
 have fin:∀A B:List Piece,A=lowC c (cJ w m) sh->B=highC c (cJ w m) sh->vi (r9 (vl (kD 5 (xN a_cut_upright a_cut_level) (eE (dC 6) (eE (dC 1) (eE (dC 2) (eE (dC 3) (eE (dC 5) nv)))))) (kD 5 (xN a_cut_upright a_cut_level) (eE (dC 7) (eE (dC 1) (eE (dC 2) (eE (dC 5) (eE (dC 4) nv)))))))) { nx:=fun x=>k (aH.val D.non),rt:=k } [.val (dSh sh),.val (.kfn (if c=true then a_cut_level else a_cut_upright)),.val (dR w),.val (.int x),.val (.int y),.val (.int m),.val (dSh A),.val (dSh B)]:=by
  rintro A B rfl rfl;refine⟨_,rfl,_,rfl,_,rfl,_,rfl,_,rfl,rfl,_,c,w,x,m,bF,n+1,t,rfl,lw,aG,aJ,oy,by omega,by omega,s1,hm,by omega,?_⟩;dsimp only[bN];refine⟨_,rfl,_,rfl,_,rfl,_,rfl,_,rfl,rfl,_,c,w,m,y,bF,n+1,t,rfl,lw,aG,aJ,k8,om,by omega,s2,hm,by omega,?_⟩;dsimp only[bN];refine⟨_,_,rfl,rfl,?_,?_⟩
  ·rw[Zf,Zf,jC c w 0 _ _ _ oy (by omega),jC c w 0 _ _ _ k8 (by omega)];omega
  ·rw[<-Z7];exact ah
 cases c with
 | true =>
  refine .inr ⟨rfl,?_⟩;refine⟨_,rfl,_,rfl,_,rfl,cY,rfl,w.1,w.2,(m:Int),1,rfl,lw,oz,Gq aG (by decide),Gq aJ (by decide),bm,by decide,?_⟩;dsimp only[bN];refine⟨rfl,sh,cJ w m,rfl,d8,Gq bL (by decide),Gq b1 (by decide),ag,kj,by omega,?_⟩;dsimp only[bN];exact⟨_,rfl,rfl,_,_,rfl,_,_,rfl,rfl,fin _ _ rfl rfl⟩
 | false =>
  refine .inl ⟨rfl,?_⟩;refine⟨_,rfl,_,rfl,_,rfl,cY,rfl,w.1,w.2,(m:Int),1,rfl,lw,oz,Gq aG (by decide),Gq aJ (by decide),bm,by decide,?_⟩;dsimp only[bN];refine⟨rfl,sh,cJ w m,rfl,d8,Gq bL (by decide),Gq b1 (by decide),ag,kj,by omega,?_⟩;dsimp only[bN];exact⟨_,rfl,rfl,_,_,rfl,_,_,rfl,rfl,fin _ _ rfl rfl⟩
def xP(a_cut_upright a_cut_level:Addr):FS:=fun as k=>∃(sh:List Piece)(c:Bool)(w:bx)(x y bF n t:Nat),as=[.val (dSh sh),.val (.kfn (if c=true then a_cut_level else a_cut_upright)),.val (dR w),.val (.int x),.val (.int y)]/\(aO w.1 w.2)/\(intBits w.1<=70)/\(intBits w.2<=70)/\(x<y)/\(y<=8)/\(y-x<=2^2)/\(c2 1990 bF n t 400 sh)/\(153<=bF/\bF<=1800)/\(n<=998)/\k (.val (.lst ((fJ c w 2 sh x y).map dSh)))
theorem VF(B:cM mg){a_cut_level:Addr}(jd:mg "cut_level"=some (.ref a_cut_level)){a_cut_upright:Addr}(je:mg "cut_upright"=some (.ref a_cut_upright))(F:cD K mg "slices" p0 ["sheet","cut","size","first","last"])(pW:aI P w K mg base "cut_upright" ["sheet","place"] 7 (aK K 2 uj))(um:aI P w K mg base "cut_level" ["sheet","height"] 7 (aK K 2 xK))(hp:aI P w K mg base "times" ["one","other"] 3 (aK K 2 l7))(kl:aI P w K mg base "slices" ["sheet","cut","size","first","last"] 8 (aK K 5 (xO a_cut_upright a_cut_level))):
  aI P w K mg base "slices" ["sheet","cut","size","first","last"] 9 (aK K 5 (xP a_cut_upright a_cut_level)):=by
 refine df (lv:=8) F jF rfl (fun f cdv A outer s H E ak=>⟨_,(a8 (ei (e9 (f:=fun i j=>decide (i=j)) h8 (e8 (ae 4) (ae 3)) aA (dk _)) (bC (cc (dD (fv (aU (ae 0) bU))))) ez) (a8 (cF (i:=5) jF.nd rfl (Sz rfl) (dH (ed (ae 3) (ae 4)) aA)) (a8 (hS (B4 1 pW je um jd ak (aw (ae 0) (aw (aW hp ak (by rfl) (aw (ae 2) (aw (c8 (aU (ae 5) (aU aA bU))) aS))) aS))) (gk (n:=2) rfl (c1 (b9 (i:=6) jF.nd rfl (Sz rfl)) (c1 (b9 (i:=7) jF.nd rfl (Sz rfl)) f3)))) (bC (cc (dD (jm (aW kl ak (by rfl) (aw (ae 6) (aw (ae 1) (aw (ae 2) (aw (ae 3) (aw (ae 5) aS)))))) (aW kl ak (by rfl) (aw (ae 7) (aw (ae 1) (aw (ae 2) (aw (ae 5) (aw (ae 4) aS))))))))))))),?_⟩);rintro as k aj ⟨sh,c,w,x,y,bF,n,t,rfl,lw,aG,aJ,xj,om,c9,aq,hm,aN,ah⟩;refine cR (r:=[.val (dSh sh),.val (.kfn (if c=true then a_cut_level else a_cut_upright)),.val (dR w),.val (.int x),.val (.int y),.no,.no,.no]) rfl ?_;have cY:2<=sizeLine:=by decide
 have big:10000<=sizeLine:=by decide
 rw[fJ]at ah;refine⟨_,rfl,_,rfl,_,_,rfl,rfl,_,_,rfl,rfl,_,rfl,fk (fun g=>?_) (fun g=>?_)⟩
 ·rw[if_pos (by omega)]at ah;exact⟨_,rfl,show 1<=sizeLine by decide,ah⟩
 rw[if_neg (by omega)]at ah;have c9:y-x<=2^1*2:=c9
 have k4:((x:Int)+(y:Int)).fdiv 2=(((x+y)/2:Nat):Int):=by
  rw[ab2 _ (by decide)];omega
 obtain⟨m,uo⟩:∃m,m=(x+y)/2:=⟨_,rfl⟩;rw[<-uo]at ah k4;have oy:x<m:=by omega
 have k8:m<y:=by omega
 refine⟨_,rfl,_,rfl,_,_,rfl,rfl,_,_,rfl,rfl,⟨by decide,by decide⟩,?_⟩;dsimp only;rw[k4];obtain⟨d8,jB⟩:=gu (w:=w) lw.1 (m:Int);obtain⟨bL,b1⟩:=jc (w:=w) (q:=70) lw.1 aG aJ (k:=(m:Int)) (by omega);obtain⟨s1,s2⟩:=aq.cut (c:=c) d8 bL b1 (by omega) (by omega);have bm:intBits (m:Int)<=4000:=Gq (lD (by omega) (by omega)) (by decide);have oz:aO (m:Int) 1:=⟨by decide,by simp⟩;have ag:∀s∈sh,∀c∈s.1,cm 1990 c/\aR c:=fun s dQ p ag=>⟨((aq.1 s dQ).rb.pts p ag).bp,((aq.1 s dQ).rb.pts p ag).pt⟩;have kj:∀s∈sh,s.1.length<=1000:=fun s dQ=>by have:=(aq.1 s dQ).ln;omega
 have ls:=aq.2
 have fin:∀A B:List Piece,A=lowC c (cJ w m) sh->B=highC c (cJ w m) sh->vi (r9 (vl (kD 5 (xO a_cut_upright a_cut_level) (eE (dC 6) (eE (dC 1) (eE (dC 2) (eE (dC 3) (eE (dC 5) nv)))))) (kD 5 (xO a_cut_upright a_cut_level) (eE (dC 7) (eE (dC 1) (eE (dC 2) (eE (dC 5) (eE (dC 4) nv)))))))) { nx:=fun x=>k (aH.val D.non),rt:=k } [.val (dSh sh),.val (.kfn (if c=true then a_cut_level else a_cut_upright)),.val (dR w),.val (.int x),.val (.int y),.val (.int m),.val (dSh A),.val (dSh B)]:=by
  rintro A B rfl rfl;refine⟨_,rfl,_,rfl,_,rfl,_,rfl,_,rfl,rfl,_,c,w,x,m,bF,n+1,t,rfl,lw,aG,aJ,oy,by omega,by omega,s1,hm,by omega,?_⟩;dsimp only[bN];refine⟨_,rfl,_,rfl,_,rfl,_,rfl,_,rfl,rfl,_,c,w,m,y,bF,n+1,t,rfl,lw,aG,aJ,k8,om,by omega,s2,hm,by omega,?_⟩;dsimp only[bN];refine⟨_,_,rfl,rfl,?_,?_⟩
  ·rw[Zf,Zf,jC c w 1 _ _ _ oy (by omega),jC c w 1 _ _ _ k8 (by omega)];omega
  ·rw[<-Z7];exact ah
 cases c with
 | true =>
  refine .inr ⟨rfl,?_⟩;refine⟨_,rfl,_,rfl,_,rfl,cY,rfl,w.1,w.2,(m:Int),1,rfl,lw,oz,Gq aG (by decide),Gq aJ (by decide),bm,by decide,?_⟩;dsimp only[bN];refine⟨rfl,sh,cJ w m,rfl,d8,Gq bL (by decide),Gq b1 (by decide),ag,kj,by omega,?_⟩;dsimp only[bN];exact⟨_,rfl,rfl,_,_,rfl,_,_,rfl,rfl,fin _ _ rfl rfl⟩
 | false =>
  refine .inl ⟨rfl,?_⟩;refine⟨_,rfl,_,rfl,_,rfl,cY,rfl,w.1,w.2,(m:Int),1,rfl,lw,oz,Gq aG (by decide),Gq aJ (by decide),bm,by decide,?_⟩;dsimp only[bN];refine⟨rfl,sh,cJ w m,rfl,d8,Gq bL (by decide),Gq b1 (by decide),ag,kj,by omega,?_⟩;dsimp only[bN];exact⟨_,rfl,rfl,_,_,rfl,_,_,rfl,rfl,fin _ _ rfl rfl⟩
def CZ(a_cut_upright a_cut_level:Addr):FS:=fun as k=>∃(sh:List Piece)(c:Bool)(w:bx)(x y bF n t:Nat),as=[.val (dSh sh),.val (.kfn (if c=true then a_cut_level else a_cut_upright)),.val (dR w),.val (.int x),.val (.int y)]/\(aO w.1 w.2)/\(intBits w.1<=70)/\(intBits w.2<=70)/\(x<y)/\(y<=8)/\(y-x<=2^3)/\(c2 1990 bF n t 400 sh)/\(153<=bF/\bF<=1800)/\(n<=997)/\k (.val (.lst ((fJ c w 3 sh x y).map dSh)))
theorem VG(B:cM mg){a_cut_level:Addr}(jd:mg "cut_level"=some (.ref a_cut_level)){a_cut_upright:Addr}(je:mg "cut_upright"=some (.ref a_cut_upright))(F:cD K mg "slices" p0 ["sheet","cut","size","first","last"])(pW:aI P w K mg base "cut_upright" ["sheet","place"] 7 (aK K 2 uj))(um:aI P w K mg base "cut_level" ["sheet","height"] 7 (aK K 2 xK))(hp:aI P w K mg base "times" ["one","other"] 3 (aK K 2 l7))(kl:aI P w K mg base "slices" ["sheet","cut","size","first","last"] 9 (aK K 5 (xP a_cut_upright a_cut_level))):
  aI P w K mg base "slices" ["sheet","cut","size","first","last"] 10 (aK K 5 (CZ a_cut_upright a_cut_level)):=by
 refine df (lv:=9) F jF rfl (fun f cdv A outer s H E ak=>⟨_,(a8 (ei (e9 (f:=fun i j=>decide (i=j)) h8 (e8 (ae 4) (ae 3)) aA (dk _)) (bC (cc (dD (fv (aU (ae 0) bU))))) ez) (a8 (cF (i:=5) jF.nd rfl (Sz rfl) (dH (ed (ae 3) (ae 4)) aA)) (a8 (hS (B4 1 pW je um jd ak (aw (ae 0) (aw (aW hp ak (by rfl) (aw (ae 2) (aw (c8 (aU (ae 5) (aU aA bU))) aS))) aS))) (gk (n:=2) rfl (c1 (b9 (i:=6) jF.nd rfl (Sz rfl)) (c1 (b9 (i:=7) jF.nd rfl (Sz rfl)) f3)))) (bC (cc (dD (jm (aW kl ak (by rfl) (aw (ae 6) (aw (ae 1) (aw (ae 2) (aw (ae 3) (aw (ae 5) aS)))))) (aW kl ak (by rfl) (aw (ae 7) (aw (ae 1) (aw (ae 2) (aw (ae 5) (aw (ae 4) aS))))))))))))),?_⟩);rintro as k aj ⟨sh,c,w,x,y,bF,n,t,rfl,lw,aG,aJ,xj,om,c9,aq,hm,aN,ah⟩;refine cR (r:=[.val (dSh sh),.val (.kfn (if c=true then a_cut_level else a_cut_upright)),.val (dR w),.val (.int x),.val (.int y),.no,.no,.no]) rfl ?_;have cY:2<=sizeLine:=by decide
 have big:10000<=sizeLine:=by decide
 rw[fJ]at ah;refine⟨_,rfl,_,rfl,_,_,rfl,rfl,_,_,rfl,rfl,_,rfl,fk (fun g=>?_) (fun g=>?_)⟩
 ·rw[if_pos (by omega)]at ah;exact⟨_,rfl,show 1<=sizeLine by decide,ah⟩
 rw[if_neg (by omega)]at ah;have c9:y-x<=2^2*2:=c9
 have k4:((x:Int)+(y:Int)).fdiv 2=(((x+y)/2:Nat):Int):=by
  rw[ab2 _ (by decide)];omega
 obtain⟨m,uo⟩:∃m,m=(x+y)/2:=⟨_,rfl⟩;rw[<-uo]at ah k4;have oy:x<m:=by omega
 have k8:m<y:=by omega
 refine⟨_,rfl,_,rfl,_,_,rfl,rfl,_,_,rfl,rfl,⟨by decide,by decide⟩,?_⟩;dsimp only;rw[k4];obtain⟨d8,jB⟩:=gu (w:=w) lw.1 (m:Int);obtain⟨bL,b1⟩:=jc (w:=w) (q:=70) lw.1 aG aJ (k:=(m:Int)) (by omega);obtain⟨s1,s2⟩:=aq.cut (c:=c) d8 bL b1 (by omega) (by omega);have bm:intBits (m:Int)<=4000:=Gq (lD (by omega) (by omega)) (by decide);have oz:aO (m:Int) 1:=⟨by decide,by simp⟩;have ag:∀s∈sh,∀c∈s.1,cm 1990 c/\aR c:=fun s dQ p ag=>⟨((aq.1 s dQ).rb.pts p ag).bp,((aq.1 s dQ).rb.pts p ag).pt⟩;have kj:∀s∈sh,s.1.length<=1000:=fun s dQ=>by have:=(aq.1 s dQ).ln;omega
 have ls:=aq.2
 have fin:∀A B:List Piece,A=lowC c (cJ w m) sh->B=highC c (cJ w m) sh->vi (r9 (vl (kD 5 (xP a_cut_upright a_cut_level) (eE (dC 6) (eE (dC 1) (eE (dC 2) (eE (dC 3) (eE (dC 5) nv)))))) (kD 5 (xP a_cut_upright a_cut_level) (eE (dC 7) (eE (dC 1) (eE (dC 2) (eE (dC 5) (eE (dC 4) nv)))))))) { nx:=fun x=>k (aH.val D.non),rt:=k } [.val (dSh sh),.val (.kfn (if c=true then a_cut_level else a_cut_upright)),.val (dR w),.val (.int x),.val (.int y),.val (.int m),.val (dSh A),.val (dSh B)]:=by
  rintro A B rfl rfl;refine⟨_,rfl,_,rfl,_,rfl,_,rfl,_,rfl,rfl,_,c,w,x,m,bF,n+1,t,rfl,lw,aG,aJ,oy,by omega,by omega,s1,hm,by omega,?_⟩;dsimp only[bN];refine⟨_,rfl,_,rfl,_,rfl,_,rfl,_,rfl,rfl,_,c,w,m,y,bF,n+1,t,rfl,lw,aG,aJ,k8,om,by omega,s2,hm,by omega,?_⟩;dsimp only[bN];refine⟨_,_,rfl,rfl,?_,?_⟩
  ·rw[Zf,Zf,jC c w 2 _ _ _ oy (by omega),jC c w 2 _ _ _ k8 (by omega)];omega
  ·rw[<-Z7];exact ah
 cases c with
 | true =>
  refine .inr ⟨rfl,?_⟩;refine⟨_,rfl,_,rfl,_,rfl,cY,rfl,w.1,w.2,(m:Int),1,rfl,lw,oz,Gq aG (by decide),Gq aJ (by decide),bm,by decide,?_⟩;dsimp only[bN];refine⟨rfl,sh,cJ w m,rfl,d8,Gq bL (by decide),Gq b1 (by decide),ag,kj,by omega,?_⟩;dsimp only[bN];exact⟨_,rfl,rfl,_,_,rfl,_,_,rfl,rfl,fin _ _ rfl rfl⟩
 | false =>
  refine .inl ⟨rfl,?_⟩;refine⟨_,rfl,_,rfl,_,rfl,cY,rfl,w.1,w.2,(m:Int),1,rfl,lw,oz,Gq aG (by decide),Gq aJ (by decide),bm,by decide,?_⟩;dsimp only[bN];refine⟨rfl,sh,cJ w m,rfl,d8,Gq bL (by decide),Gq b1 (by decide),ag,kj,by omega,?_⟩;dsimp only[bN];exact⟨_,rfl,rfl,_,_,rfl,_,_,rfl,rfl,fin _ _ rfl rfl⟩
theorem VH:cG ["sheet","wide","many"] ["sheet","wide","many"] (b0 yg):=by walk_at "sc"
def Jn  : FS:=fun as k=>∃(sh:List Piece)(w:bx)(q:Int)(m bF n t:Nat),as=[.val (dSh sh),.val (dR w),.val (.int q)]/\(q+1=m)/\(aO w.1 w.2)/\(intBits w.1<=70)/\(intBits w.2<=70)/\(1<=m)/\(m<=8)/\(c2 1990 bF n t 400 sh)/\(153<=bF/\bF<=1800)/\(n<=70)/\(t<=2770)/\k (.own ((ef false w sh m).map dSh))
theorem VI(B:cM mg){a_cut_level:Addr}(jd:mg "cut_level"=some (.ref a_cut_level)){a_cut_upright:Addr}(je:mg "cut_upright"=some (.ref a_cut_upright))(F:cD K mg "columns_of" yg ["sheet","wide","many"])(kl:aI P w K mg base "slices" ["sheet","cut","size","first","last"] 10 (aK K 5 (CZ a_cut_upright a_cut_level)))(l8:aI P w K mg base "moved" ["sheet","step"] 4 (aK K 2 rx))(hE:aI P w K mg base "at" ["x","y"] 3 (aK K 2 ow))(hp:aI P w K mg base "times" ["one","other"] 3 (aK K 2 l7)):
  aI P w K mg base "columns_of" ["sheet","wide","many"] 11 (aK K 3 Jn):=by
 refine df (lv:=10) F VH rfl (fun f cdv A outer s H E ak=>⟨_,(bC (zN (HD (ts:=["place","part"]) (fr:=["wide"]) (js:=[1]) (HH (aW kl ak (by rfl) (aw (ae 0) (aw (HF je (by rfl)) (aw (ae 1) (aw aA (aw (ed (ae 2) aA) aS)))))) (by rfl) B.enumerate_) (fun _ _ _ _=>(gk (n:=2) rfl (c1 (b9 (i:=0) (show aaq (["place","part","wide"]:List Str) by decide +kernel) rfl (Sz rfl)) (c1 (b9 (i:=1) (show aaq (["place","part","wide"]:List Str) by decide +kernel) rfl (Sz rfl)) f3)))) (fun _ _ _ _=>jq) (fun _ _ _ _=>(aW l8 ak (by rfl) (aw (ae 1) (aw (aW hE ak (by rfl) (aw (aW hp ak (by rfl) (aw (ae 2) (aw (c8 (aU (iw (ae 0)) (aU aA bU))) aS))) (aw (c8 (aU aA (aU aA bU))) aS))) aS)))) ⟨rfl,by decide +kernel,rfl,by decide +kernel,ib (aaI.mpr ⟨rfl,(aay _)⟩),iA rfl,by walk_at "ffr",rfl⟩))),?_⟩);rintro as k aj ⟨sh,w,q,m,bF,n,t,rfl,ay,lw,aG,aJ,bw,rm,aq,hm,aN,bB,ah⟩;refine cR (r:=[.val (dSh sh),.val (dR w),.val (.int q)]) rfl ?_;have cY:2<=sizeLine:=by decide
 have big:10000<=sizeLine:=by decide
 have eF:aO 0 1:=⟨by decide,by decide⟩;have sz:=tZ (c:=false) (w:=w) (b:=1990) (m:=bF) (t:=t) (N:=400) (q:=70) lw.1 aG aJ (by omega) (by omega) 3 (n:=n) (sh:=sh) (x:=0) (y:=m) (by omega) rm aq;have sl:=jC false w 3 sh 0 m (by omega) (by omega);refine⟨_,rfl,_,rfl,_,rfl,_,_,rfl,rfl,rfl,sh,false,w,0,m,bF,n,t,by rw[<-ay];rfl,lw,aG,aJ,by omega,rm,by omega,aq,hm,by omega,?_⟩;dsimp only[bN];refine⟨_,rfl,by rw[xi,Zf,sl];omega,?_⟩;refine B9 (f:=dSh) (h:=fun j S=>dSh (S.map (ej (jD false w j)))) (fun j S C0 k ah=>?_) (by rw[ef,B7]at ah;exact ah);obtain⟨_,eP,lV⟩:=B' C0;rw[sl]at eP;have zs:=sz S lV;obtain⟨d8,_⟩:=gu (w:=w) lw.1 (-(j:Int));obtain⟨bL,b1⟩:=jc (w:=w) (q:=70) lw.1 aG aJ (k :=-(j:Int)) (by omega);have C1:aO (-(j:Int)) 1:=⟨by decide,by simp⟩;have C2:intBits (-(j:Int))<=4000:=Gq (lD (by omega) (by omega)) (by decide);have gp:=Ca (c:=false) (w:=w) (q:=70) lw.1 aG aJ (j:=j) (by omega);refine⟨_,rfl,_,rfl,_,rfl,_,rfl,cY,rfl,w.1,w.2,-(j:Int),1,rfl,lw,C1,Gq aG (by decide),Gq aJ (by decide),C2,by decide,?_⟩;dsimp only[bN];refine⟨cY,rfl,_,_,(cJ w (-(j:Int))).1,(cJ w (-(j:Int))).2,0,1,rfl,rfl,rfl,d8,eF,Gq bL (by decide),Gq b1 (by decide),by decide,by decide,?_⟩;dsimp only[bN];refine⟨rfl,S,jD false w j,rfl,zs.2,fun s dQ=>(zs.1 s dQ).gm (by decide) (by omega) bB,gp.mono (by decide),?_⟩;exact ah
theorem VJ:cG ["sheet","high","many"] ["sheet","high","many"] (b0 yh):=by walk_at "sc"
def Jo  : FS:=fun as k=>∃(sh:List Piece)(w:bx)(q:Int)(m bF n t:Nat),as=[.val (dSh sh),.val (dR w),.val (.int q)]/\(q+1=m)/\(aO w.1 w.2)/\(intBits w.1<=70)/\(intBits w.2<=70)/\(1<=m)/\(m<=8)/\(c2 1990 bF n t 400 sh)/\(153<=bF/\bF<=1800)/\(n<=70)/\(t<=2770)/\k (.own ((ef true w sh m).map dSh))
theorem VK(B:cM mg){a_cut_level:Addr}(jd:mg "cut_level"=some (.ref a_cut_level)){a_cut_upright:Addr}(je:mg "cut_upright"=some (.ref a_cut_upright))(F:cD K mg "layers_of" yh ["sheet","high","many"])(kl:aI P w K mg base "slices" ["sheet","cut","size","first","last"] 10 (aK K 5 (CZ a_cut_upright a_cut_level)))(l8:aI P w K mg base "moved" ["sheet","step"] 4 (aK K 2 rx))(hE:aI P w K mg base "at" ["x","y"] 3 (aK K 2 ow))(hp:aI P w K mg base "times" ["one","other"] 3 (aK K 2 l7)):
  aI P w K mg base "layers_of" ["sheet","high","many"] 11 (aK K 3 Jo):=by
 refine df (lv:=10) F VJ rfl (fun f cdv A outer s H E ak=>⟨_,(bC (zN (HD (ts:=["place","part"]) (fr:=["high"]) (js:=[1]) (HH (aW kl ak (by rfl) (aw (ae 0) (aw (HF jd (by rfl)) (aw (ae 1) (aw aA (aw (ed (ae 2) aA) aS)))))) (by rfl) B.enumerate_) (fun _ _ _ _=>(gk (n:=2) rfl (c1 (b9 (i:=0) (show aaq (["place","part","high"]:List Str) by decide +kernel) rfl (Sz rfl)) (c1 (b9 (i:=1) (show aaq (["place","part","high"]:List Str) by decide +kernel) rfl (Sz rfl)) f3)))) (fun _ _ _ _=>jq) (fun _ _ _ _=>(aW l8 ak (by rfl) (aw (ae 1) (aw (aW hE ak (by rfl) (aw (c8 (aU aA (aU aA bU))) (aw (aW hp ak (by rfl) (aw (ae 2) (aw (c8 (aU (iw (ae 0)) (aU aA bU))) aS))) aS))) aS)))) ⟨rfl,by decide +kernel,rfl,by decide +kernel,ib (aaI.mpr ⟨rfl,(aay _)⟩),iA rfl,by walk_at "ffr",rfl⟩))),?_⟩);rintro as k aj ⟨sh,w,q,m,bF,n,t,rfl,ay,lw,aG,aJ,bw,rm,aq,hm,aN,bB,ah⟩;refine cR (r:=[.val (dSh sh),.val (dR w),.val (.int q)]) rfl ?_;have cY:2<=sizeLine:=by decide
 have big:10000<=sizeLine:=by decide
 have eF:aO 0 1:=⟨by decide,by decide⟩;have sz:=tZ (c:=true) (w:=w) (b:=1990) (m:=bF) (t:=t) (N:=400) (q:=70) lw.1 aG aJ (by omega) (by omega) 3 (n:=n) (sh:=sh) (x:=0) (y:=m) (by omega) rm aq;have sl:=jC true w 3 sh 0 m (by omega) (by omega);refine⟨_,rfl,_,rfl,_,rfl,_,_,rfl,rfl,rfl,sh,true,w,0,m,bF,n,t,by rw[<-ay];rfl,lw,aG,aJ,by omega,rm,by omega,aq,hm,by omega,?_⟩;dsimp only[bN];refine⟨_,rfl,by rw[xi,Zf,sl];omega,?_⟩;refine B9 (f:=dSh) (h:=fun j S=>dSh (S.map (ej (jD true w j)))) (fun j S C0 k ah=>?_) (by rw[ef,B7]at ah;exact ah);obtain⟨_,eP,lV⟩:=B' C0;rw[sl]at eP;have zs:=sz S lV;obtain⟨d8,_⟩:=gu (w:=w) lw.1 (-(j:Int));obtain⟨bL,b1⟩:=jc (w:=w) (q:=70) lw.1 aG aJ (k :=-(j:Int)) (by omega);have C1:aO (-(j:Int)) 1:=⟨by decide,by simp⟩;have C2:intBits (-(j:Int))<=4000:=Gq (lD (by omega) (by omega)) (by decide);have gp:=Ca (c:=true) (w:=w) (q:=70) lw.1 aG aJ (j:=j) (by omega);refine⟨_,rfl,cY,_,rfl,_,rfl,_,rfl,cY,rfl,w.1,w.2,-(j:Int),1,rfl,lw,C1,Gq aG (by decide),Gq aJ (by decide),C2,by decide,?_⟩;dsimp only[bN];refine⟨rfl,_,_,0,1,(cJ w (-(j:Int))).1,(cJ w (-(j:Int))).2,rfl,rfl,rfl,eF,d8,by decide,by decide,Gq bL (by decide),Gq b1 (by decide),?_⟩;dsimp only[bN];refine⟨rfl,S,jD true w j,rfl,zs.2,fun s dQ=>(zs.1 s dQ).gm (by decide) (by omega) bB,gp.mono (by decide),?_⟩;exact ah
def Jp  : FS:=fun as k=>∃(dM:D)(x y u v:Int),as=[.val dM,.val (dR (u,v))]/\(sL dM=some [.int x,.int y])/\(aO x y)/\(aO u v)/\(intBits x<=4000)/\(intBits y<=4000)/\(intBits u<=4000)/\(intBits v<=4000)/\k (.val (dR (cA (x*v+u*y) (y*v))))
theorem VL(B:cM mg)(F:cD K mg "plus" uC ["one","other"])(h3:aI P w K mg base "greatest_divisor" ["one","other"] 2 (aK K 2 pU)):
  aI P w K mg base "plus" ["one","other"] 3 (aK K 2 Jp):=by
 refine df (lv:=2) F ox rfl (fun f cdv A outer s H E ak=>⟨_,(a8 (cF (i:=2) ox.nd rfl (Sz rfl) (aW h3 ak (by rfl) (aw (ic (ae 0) aA (fun _ _=>rfl)) (aw (ic (ae 1) aA (fun _ _=>rfl)) aS)))) (a8 (cF (i:=3) ox.nd rfl (Sz rfl) (ed (cz (ic (ae 0) aA (fun _ _=>rfl)) (dH (ic (ae 1) aA (fun _ _=>rfl)) (ae 2))) (cz (ic (ae 1) aA (fun _ _=>rfl)) (dH (ic (ae 0) aA (fun _ _=>rfl)) (ae 2))))) (a8 (cF (i:=4) ox.nd rfl (Sz rfl) (aW h3 ak (by rfl) (aw (ae 2) (aw (ae 3) aS)))) (bC (cc (c8 (aU (dH (ae 3) (ae 4)) (aU (cz (dH (ic (ae 0) aA (fun _ _=>rfl)) (ae 2)) (dH (ic (ae 1) aA (fun _ _=>rfl)) (ae 4))) bU)))))))),?_⟩);rintro as k aj ⟨dM,x,y,u,v,rfl,aB,bt,bz,i9,hk,iG,bv,ah⟩;refine cR (r:=[.val dM,.val (dR (u,v)),.no,.no,.no]) rfl ?_;have v0:v≠0:=Zh bz.1;have sp:=nq (t:=y) (b:=v) v0;have gd:=kO (a:=y) (b:=v) v0 bv;have c0:=fun top d=>Fj bt bz (s:=((Ze y v:Nat):Int)) (top:=top) (d:=d) rfl;refine⟨_,rfl,_,_,_,aB,rfl,rfl,_,rfl,_,_,_,rfl,rfl,rfl,rfl,_,_,rfl,?_⟩;dsimp only[bN];generalize((Ze y v:Nat):Int)=s at *;have a9:intBits (v.fdiv s)<=4000:=d3 (natAbs_fdiv_le _ _) bv;have bf:intBits (y.fdiv s)<=4000:=d3 (natAbs_fdiv_le _ _) hk;have tb:intBits (x*v.fdiv s+u*y.fdiv s)<=8001:=intBits_add_le (intBits_mul_le i9 a9) (intBits_mul_le iG bf);have hd:∀z:Int,qj z s:=fun z=>⟨by omega,Gq gd (by decide)⟩;have c0:=fun d=>c0 _ d rfl;refine⟨_,rfl,_,_,_,aB,rfl,rfl,_,rfl,_,_,_,rfl,rfl,rfl,_,rfl,_,_,rfl,rfl,hd _,_,_,rfl,rfl,⟨by walk_at "bits",by walk_at "bits"⟩,?_⟩;refine⟨_,rfl,_,_,_,rfl,rfl,rfl,_,rfl,_,_,_,aB,rfl,rfl,_,rfl,_,_,rfl,rfl,hd _,_,_,rfl,rfl,⟨by walk_at "bits",by walk_at "bits"⟩,_,_,rfl,rfl,?_⟩;dsimp only;generalize x*v.fdiv s+u*y.fdiv s=top at *;refine⟨_,rfl,_,rfl,rfl,_,_,rfl,?_⟩;dsimp only[bN];have c0:=c0 _ rfl;have dp:=kR (a:=s) (b:=top) (.inl (Zh sp))
 have db:intBits ((Ze s top:Nat):Int)<=4000:=by
  rw[aaR];exact kO (Zh sp) gd
 generalize((Ze s top:Nat):Int)=d at *;have dO:intBits (v.fdiv d)<=4000:=d3 (natAbs_fdiv_le _ _) bv;have hd2:∀z:Int,qj z d:=fun z=>⟨by omega,Gq db (by decide)⟩;rw[<-c0]at ah;refine⟨_,rfl,_,rfl,_,_,rfl,rfl,hd2 _,?_⟩;refine⟨_,rfl,_,_,_,aB,rfl,rfl,_,rfl,_,_,rfl,rfl,hd _,_,rfl,_,_,_,rfl,rfl,rfl,_,rfl,_,_,rfl,rfl,hd2 _,_,_,rfl,rfl,⟨by walk_at "bits",by walk_at "bits"⟩,show 2<=sizeLine by decide,?_⟩;exact ah
theorem pX:cG ["boxes","height","pile","wide","high","sheet"] ["boxes"] (b0 yi):=by walk_at "sc"
def Jq  : FS:=fun as k=>∃(dv:BoxD)(bs:List BoxD),as=[.val (.lst ((dv::bs).map dBx))]/\(∀b∈dv::bs,aO b.2.1.1 b.2.1.2/\intBits b.2.1.1<=350/\intBits b.2.1.2<=350/\∀s∈b.2.2,GM s)/\(∀pre b rest,dv::bs=pre++b::rest->intBits (dh pre (0,1)).1<=350/\intBits (dh pre (0,1)).2<=350)/\(((dv::bs).map fun b=>b.2.2.length).sum<=400)/\k (.new (.tup [dR dv.1,dR (dh (dv::bs) (0,1)),dSh (el (dv::bs) (0,1))]))
theorem VM(B:cM mg)(lr:qK K mg "NOTHING" [0,1])(F:cD K mg "piled" yi ["boxes"])(l8:aI P w K mg base "moved" ["sheet","step"] 4 (aK K 2 rx))(hE:aI P w K mg base "at" ["x","y"] 3 (aK K 2 ow))(CW:aI P w K mg base "plus" ["one","other"] 3 (aK K 2 Jp)):
  aI P w K mg base "piled" ["boxes"] 5 (aK K 1 Jq):=by
 refine th (lv:=4) [true] F pX rfl (fun f cdv A outer s H E ak=>⟨_,(a8 (cF (i:=1) pX.nd rfl (Sz rfl) (sM lr (by rfl))) (a8 (lM (i:=2) pX.nd rfl (Sz rfl) (fv bU)) (a8 (Gf 0 PassesOwn.never rfl (Ge (n:=3) rfl (qQ (wa (i:=3) pX.nd rfl (Sz rfl)) (qQ (wa (i:=4) pX.nd rfl (Sz rfl)) (qQ (Gb (i:=5) pX.nd rfl (Sz rfl)) Gd)))) (a8 (EY 2 (v9 (v8 (qJ l8 ak (by rfl) (aw (ae 5) (aw (aW hE ak (by rfl) (aw (sM lr (by rfl)) (aw (ae 1) aS))) aS)))))) (bC (cF (i:=1) pX.nd rfl (Sz rfl) (aW CW ak (by rfl) (aw (ae 1) (aw (ae 4) aS))))))) (lL 2 (bC (cc (c8 (aU (AY (aV (aV (ae 0) aA (fun _ _=>rfl)) aA (fun _ _=>rfl))) (aU (ae 1) (aU (ae 2) bU)))))))))),?_⟩);rintro as k aj ⟨dv,bs,rfl,eJ,ag,aj,ah⟩;refine⟨⟨trivial,trivial⟩,cR (r:=[.new (.lst ((dv::bs).map dBx)),.no,.no,.no,.no,.no]) rfl ?_⟩;have t3:3<=sizeLine:=by decide
 have big:10000<=sizeLine:=by decide
 have eF:aO 0 1:=⟨by decide,by decide⟩;refine eO (fun ρ=>ρ=[.new (.lst ((dv::bs).map dBx)),.val (.ktup [.int 0,.int 1]),.no,.no,.no,.no]) ?_ (fun N aZ=>aZ _ rfl);rintro ρ rfl;refine eO (fun ρ=>ρ=[.new (.lst ((dv::bs).map dBx)),.val (.ktup [.int 0,.int 1]),.own (.l ((el [] (0,1)).map dS)),.no,.no,.no]) ?_ (fun N aZ=>⟨aaE _,aZ _ rfl⟩);rintro ρ rfl;refine eO (fun ρ=>∃ae v4 gy:aH,ρ=[.new (.lst ((dv::bs).map dBx)),.val (dR (dh (dv::bs) (0,1))),.own (.l ((el (dv::bs) (0,1)).map dS)),ae,v4,gy]) ?_ (fun N aZ=>?_)
 ·rintro ρ ⟨ae,v4,gy,rfl⟩;refine⟨_,rfl,?_⟩;refine⟨_,rfl,(dv::bs).map dBx,0,dBx dv,.inr rfl,rfl,SU _ _,[dR dv.1,dR dv.2.1,dSh dv.2.2],0,dR dv.1,.inl rfl,rfl,rfl,rfl,?_⟩;exact⟨_,rfl,_,rfl,t3,ah⟩
 refine⟨_,rfl,?_⟩;refine HW (done:=[]) (bs:=dv::bs) (fun pre ρ=>∃(ry:D)(ae v4 gy:aH),ρ=[.new (.lst ((dv::bs).map dBx)),.val ry,.own (.l ((el pre (0,1)).map dS)),ae,v4,gy]/\sL ry=some [.int (dh pre (0,1)).1,.int (dh pre (0,1)).2]/\(pre≠[]->ry=dR (dh pre (0,1)))) ⟨_,_,_,_,rfl,rfl,fun z=>absurd rfl z⟩ ?_ (fun ρ h=>?_);rotate_left
 ·obtain⟨ry,ae,v4,gy,rfl,_,e⟩:=h;rw[e (by simp)];exact aZ _ ⟨_,_,_,rfl⟩
 rintro pre x rest ρ he ⟨ry,ae,v4,gy,rfl,aD,_⟩ xE mX;rw[aaz]at he;obtain⟨lh,aG,aJ,gm⟩:=eJ x (by rw[he];simp);obtain⟨ai,av⟩:=ag pre x rest he;have cj:aO (dh pre (0,1)).1 (dh pre (0,1)).2:=Cd eF fun b af=>(eJ b (by rw[he];simp[af])).1.1
 have B5:((pre.map fun b=>b.2.2.length).sum+(x.2.2.length+(rest.map fun b=>b.2.2.length).sum))<=400:=by
  rw[he]at aj;simpa using aj
 have gp:c' 400 (cb (0,1) (dh pre (0,1))):=⟨(iD (n:=1*(dh pre (0,1)).2) (Zh (ZK (by decide) cj.1))).1,(j8 (x:=0) (y:=1) (m:=2) (by decide) (by decide) ai av eF cj).mono (by decide)⟩;dsimp only;refine⟨_,rfl,_,rfl,_,rfl,rfl,_,_,0,1,(dh pre (0,1)).1,(dh pre (0,1)).2,rfl,rfl,aD,eF,cj,by decide,by decide,Gq ai (by decide),Gq av (by decide),?_⟩;dsimp only[bN];refine⟨rfl,x.2.2,cb (0,1) (dh pre (0,1)),rfl,by omega,gm,gp,_,rfl,?_⟩;refine⟨_,rfl,by rw[Zf,Zf,Zf,Cc];omega,?_⟩
 have es:(el pre (0,1)).map dS++(x.2.2.map (ej (cb (0,1) (dh pre (0,1))))).map dS=(el (pre++[x]) (0,1)).map dS:=by
  rw[HV,Z7];show _=_++(x.2.2.map (ej (cb (0,1) (dh pre (0,1))))++[]).map dS
  rw[Z']
 have q1:dh (pre++[x]) (0,1)=ij (dh pre (0,1)) x.2.1:=by rw[Cb];rfl
 rw[es];refine⟨_,rfl,_,rfl,rfl,ry,(dh pre (0,1)).1,(dh pre (0,1)).2,x.2.1.1,x.2.1.2,rfl,aD,cj,lh,Gq ai (by decide),Gq av (by decide),Gq aG (by decide),Gq aJ (by decide),?_⟩;exact mX _ ⟨dR (ij (dh pre (0,1)) x.2.1),_,_,_,rfl,by rw[q1];rfl,fun _=>by rw[q1]⟩
theorem pY:cG ["box","wide","broad","high","sheet","many","sheets","last"] ["box","wide"] (b0 yj):=by walk_at "sc"
def Jr  : FS:=fun as k=>∃(w h g:bx)(sh:List Piece)(N bF n t:Nat),as=[.val (dBx (w,h,sh)),.val (dR g)]/\(aO w.1 w.2)/\(aO h.1 h.2)/\(aO g.1 g.2)/\(0<w.1)/\(0<h.1)/\(0<g.1)/\(intBits w.1<=30)/\(intBits w.2<=30)/\(intBits h.1<=60)/\(intBits h.2<=60)/\(intBits g.1<=30)/\(intBits g.2<=30)/\((dW w g).1.fdiv (dW w g).2=N)/\(1<=N)/\(N<=8)/\(c2 1990 bF n t 130 sh)/\(153<=bF/\bF<=1500)/\(n<=40)/\(t<=2000)/\∀Ss Z,ef false g sh N=Ss++[Z]->k (.val (.lst ((Ss.map (fun S=>((g,h,S):BoxD))++[(h1 w g N,h,Z)]).map dBx)))
theorem VN(B:cM mg)(F:cD K mg "in_columns" yj ["box","wide"])(VO:aI P w K mg base "most_whole" ["one"] 2 (aK K 1 Jl))(rz:aI P w K mg base "over" ["one","other"] 4 (aK K 2 xM))(VP:aI P w K mg base "columns_of" ["sheet","wide","many"] 11 (aK K 3 Jn))(xQ:aI P w K mg base "minus" ["one","other"] 4 (aK K 2 CV))(hp:aI P w K mg base "times" ["one","other"] 3 (aK K 2 l7)):
  aI P w K mg base "in_columns" ["box","wide"] 12 (aK K 2 Jr):=by
 refine df (lv:=11) F pY rfl (fun f cdv A outer s H E ak=>⟨_,(a8 (hS (ae 0) (gk (n:=3) rfl (c1 (b9 (i:=2) pY.nd rfl (Sz rfl)) (c1 (b9 (i:=3) pY.nd rfl (ZN rfl)) (c1 (b9 (i:=4) pY.nd rfl (Sz rfl)) f3))))) (a8 (cF (i:=5) pY.nd rfl (Sz rfl) (e8 (aW VO ak (by rfl) (aw (aW rz ak (by rfl) (aw (ae 2) (aw (ae 1) aS))) aS)) aA)) (a8 (lM (i:=6) pY.nd rfl (Sz rfl) (MJ VP ak (by rfl) (aw (ae 4) (aw (ae 1) (aw (ae 5) aS))))) (a8 (SF 7 6 (aW xQ ak (by rfl) (aw (ae 2) (aw (aW hp ak (by rfl) (aw (ae 1) (aw (c8 (aU (ae 5) (aU aA bU))) aS))) aS))) (ae 3) pY.nd rfl (Sz rfl)) (lL 6 (bC (cc (dD (jm (dD (nN (ts:=["one"]) (fr:=["wide","high"]) (js:=[1,3]) (iZ (ae 6)) (fun _ _ _ _=>(b9 (i:=0) (show aaq (["one","wide","high"]:List Str) by decide +kernel) rfl (Sz rfl))) (fun _ _ _ _=>jq) (fun _ _ _ _=>(c8 (aU (ae 1) (aU (ae 2) (aU (ae 0) bU))))) ⟨rfl,by decide +kernel,rfl,by decide +kernel,ib (aaI.mpr ⟨rfl,(aaI.mpr ⟨rfl,(aay _)⟩)⟩),iA rfl,by walk_at "ffr",rfl⟩)) (dD (fv (aU (ae 7) bU)))))))))))),?_⟩);rintro as k aj ⟨w,h,g,sh,N,bF,n,t,rfl,lw,lh,aY,w0,h0,ba,aG,aJ,bZ,bQ,b4,b5,bD,gJ,pE,aq,hm,aN,bB,ah⟩;refine cR (r:=[.val (dBx (w,h,sh)),.val (dR g),.no,.no,.no,.no,.no,.no]) rfl ?_;have cY:2<=sizeLine:=by decide
 have t3:3<=sizeLine:=by decide
 have big:10000<=sizeLine:=by decide
 refine eO (fun ρ=>ρ=[.val (dBx (w,h,sh)),.val (dR g),.val (dR w),.val (dR h),.val (dSh sh),.no,.no,.no]) ?_ (fun N aZ=>⟨_,rfl,_,rfl,rfl,_,_,rfl,_,_,rfl,_,_,rfl,rfl,aZ _ rfl⟩);rintro ρ rfl;obtain⟨lo,Ac⟩:=mT (a:=w) (b:=g) lw.1 ba aY.1;obtain⟨kU,kW⟩:=q' (a:=w) (b:=g) (p:=30) (q:=30) lw.1 ba aG aJ b4 b5;refine eO (fun ρ=>ρ=[.val (dBx (w,h,sh)),.val (dR g),.val (dR w),.val (dR h),.val (dSh sh),.val (.int ((N:Int)-1)),.no,.no]) ?_ (fun N' aZ=>?_);rotate_left
 ·refine⟨_,rfl,_,rfl,rfl,w.1,w.2,g.1,g.2,rfl,lw,aY,Gq aG (by decide),Gq aJ (by decide),Gq b4 (by decide),Gq b5 (by decide),by omega,?_⟩;dsimp only[bN];refine⟨rfl,(dW w g).1,(dW w g).2,rfl,lo.1,Gq kW (by decide),?_⟩;dsimp only[bN];rw[bD];exact⟨_,_,rfl,rfl,aZ _ rfl⟩
 rintro ρ rfl;have cl:=oj (c:=false) (w:=g) (sh:=sh) gJ pE
 obtain⟨Ss,Z,ho⟩:∃Ss Z,ef false g sh N=Ss++[Z]:=by
  rcases ab5 (ef false g sh N)with z|⟨Ss,Z,z⟩
  ·rw[z]at cl;simp at cl;omega
  ·exact⟨Ss,Z,by rw[z,ab6]⟩
 refine eO (fun ρ=>ρ=[.val (dBx (w,h,sh)),.val (dR g),.val (dR w),.val (dR h),.val (dSh sh),.val (.int ((N:Int)-1)),.own (.l (Ss.map dSh++[dSh Z])),.no]) ?_ (fun N' aZ=>?_);rotate_left
 ·refine⟨_,rfl,_,rfl,_,rfl,rfl,sh,g,(N:Int)-1,N,bF,n,t,rfl,by omega,aY,Gq b4 (by decide),Gq b5 (by decide),gJ,pE,aq.mono (Zg _) (Zg _) (Zg _) (Zg _) (by decide),by omega,by omega,by omega,?_⟩;refine⟨_,rfl,aZ _ ?_⟩;rw[ho,Z7];rfl
 rintro ρ rfl;obtain⟨iM,_⟩:=gu (w:=g) aY.1 ((N:Int)-1);obtain⟨bw,b8⟩:=jc (w:=g) (q:=30) aY.1 b4 b5 (k:=(N:Int)-1) (by omega);have pF:intBits ((N:Int)-1)<=4000:=Gq (lD (by omega) (by omega)) (by decide);have xR:aO ((N:Int)-1) 1:=⟨by decide,by simp⟩;refine eO (fun ρ=>ρ=[.val (dBx (w,h,sh)),.val (dR g),.val (dR w),.val (dR h),.val (dSh sh),.val (.int ((N:Int)-1)),.own (.l (Ss.map dSh)),.val (.tup [dR (h1 w g N),dR h,dSh Z])]) ?_ (fun N' aZ=>?_);rotate_left
 ·refine⟨Ss.map dSh,dSh Z,rfl,?_⟩;refine⟨_,rfl,_,rfl,_,rfl,cY,rfl,g.1,g.2,(N:Int)-1,1,rfl,aY,xR,Gq b4 (by decide),Gq b5 (by decide),pF,by decide,?_⟩;dsimp only[bN];refine⟨rfl,w.1,w.2,(cJ g ((N:Int)-1)).1,(cJ g ((N:Int)-1)).2,rfl,lw,iM,Gq aG (by decide),Gq aJ (by decide),Gq bw (by decide),Gq b8 (by decide),?_⟩;exact⟨_,rfl,aZ _ rfl⟩
 rintro ρ rfl
 have ll:Ss.length<=8:=by
  have:=congrArg aam ho;rw[cl,ZM]at this;simp at this;omega
 refine⟨_,rfl,?_⟩;refine⟨_,rfl,_,rfl,by rw[Zf];omega,?_⟩;refine lP (f:=dSh) (h:=fun S=>D.tup [dR g,dR h,dSh S]) (fun S c7 k ah=>⟨_,rfl,_,rfl,_,rfl,t3,ah⟩) ?_;refine⟨_,rfl,show 1<=sizeLine by decide,_,_,rfl,rfl,by rw[Zf,aaQ];omega,?_⟩;have:=ah Ss Z ho;rw[Z7,aap]at this;exact this
theorem m1:cG ["box","wide","narrow","high","sheet","many","low","row","place","layer"] ["box","wide"] (b0 yk):=by walk_at "sc"
def Js  : FS:=fun as k=>∃(w h g:bx)(sh:List Piece)(N bF n t:Nat),as=[.val (dBx (w,h,sh)),.val (dR g)]/\(aO w.1 w.2)/\(aO h.1 h.2)/\(aO g.1 g.2)/\(0<w.1)/\(0<h.1)/\(0<g.1)/\(intBits w.1<=30)/\(intBits w.2<=30)/\(intBits h.1<=60)/\(intBits h.2<=60)/\(intBits g.1<=30)/\(intBits g.2<=30)/\(-((-(dW g w).1).fdiv (dW g w).2)=N)/\(1<=N)/\(N<=8)/\(c2 1990 bF n t 130 sh)/\(153<=bF/\bF<=1500)/\(n<=40)/\(t<=2000)/\k (.val (dBx (cJ w N,fo h N,fK w 0 (ef true (fo h N) sh N))))
theorem VQ(B:cM mg)(lr:qK K mg "NOTHING" [0,1])(F:cD K mg "in_layers" yk ["box","wide"])(VR:aI P w K mg base "least_whole" ["one"] 2 (aK K 1 Jk))(rz:aI P w K mg base "over" ["one","other"] 4 (aK K 2 xM))(VS:aI P w K mg base "layers_of" ["sheet","high","many"] 11 (aK K 3 Jo))(l8:aI P w K mg base "moved" ["sheet","step"] 4 (aK K 2 rx))(hE:aI P w K mg base "at" ["x","y"] 3 (aK K 2 ow))(hp:aI P w K mg base "times" ["one","other"] 3 (aK K 2 l7)):
  aI P w K mg base "in_layers" ["box","wide"] 12 (aK K 2 Js):=by
 refine df (lv:=11) F m1 rfl (fun f cdv A outer s H E ak=>⟨_,(a8 (hS (ae 0) (gk (n:=3) rfl (c1 (b9 (i:=2) m1.nd rfl (Sz rfl)) (c1 (b9 (i:=3) m1.nd rfl (Sz rfl)) (c1 (b9 (i:=4) m1.nd rfl (Sz rfl)) f3))))) (a8 (cF (i:=5) m1.nd rfl (Sz rfl) (aW VR ak (by rfl) (aw (aW rz ak (by rfl) (aw (ae 1) (aw (ae 2) aS))) aS))) (a8 (cF (i:=6) m1.nd rfl (Sz rfl) (aW rz ak (by rfl) (aw (ae 3) (aw (c8 (aU (ae 5) (aU aA bU))) aS)))) (a8 (lM (i:=7) m1.nd rfl (Sz rfl) (fv bU)) (a8 (Qc PassesOwn.never rfl (aW VS ak (by rfl) (aw (ae 4) (aw (ae 6) (aw (e8 (ae 5) aA) aS)))) (by rfl) B.enumerate_ (gk (n:=2) rfl (c1 (b9 (i:=8) m1.nd rfl (Sz rfl)) (c1 (b9 (i:=9) m1.nd rfl (Sz rfl)) f3))) (bC (EY 7 (aW l8 ak (by rfl) (aw (ae 9) (aw (aW hE ak (by rfl) (aw (aW hp ak (by rfl) (aw (ae 2) (aw (c8 (aU (ae 8) (aU aA bU))) aS))) (aw (sM lr (by rfl)) aS))) aS)))))) (lL 7 (bC (cc (c8 (aU (aW hp ak (by rfl) (aw (ae 2) (aw (c8 (aU (ae 5) (aU aA bU))) aS))) (aU (ae 6) (aU (ae 7) bU)))))))))))),?_⟩);rintro as k aj ⟨w,h,g,sh,N,bF,n,t,rfl,lw,lh,aY,w0,h0,ba,aG,aJ,bZ,bQ,b4,b5,bD,gJ,pE,aq,hm,aN,bB,ah⟩;refine cR (r:=[.val (dBx (w,h,sh)),.val (dR g),.no,.no,.no,.no,.no,.no,.no,.no]) rfl ?_;have cY:2<=sizeLine:=by decide
 have t3:3<=sizeLine:=by decide
 have big:10000<=sizeLine:=by decide
 have eF:aO 0 1:=⟨by decide,by decide⟩;refine eO (fun ρ=>ρ=[.val (dBx (w,h,sh)),.val (dR g),.val (dR w),.val (dR h),.val (dSh sh),.no,.no,.no,.no,.no]) ?_ (fun N aZ=>⟨_,rfl,_,rfl,rfl,_,_,rfl,_,_,rfl,_,_,rfl,rfl,aZ _ rfl⟩);rintro ρ rfl;obtain⟨lo,Ac⟩:=mT (a:=g) (b:=w) aY.1 w0 lw.1;obtain⟨kU,kW⟩:=q' (a:=g) (b:=w) (p:=30) (q:=30) aY.1 w0 b4 b5 aG aJ;refine eO (fun ρ=>ρ=[.val (dBx (w,h,sh)),.val (dR g),.val (dR w),.val (dR h),.val (dSh sh),.val (.int N),.no,.no,.no,.no]) ?_ (fun N' aZ=>?_);rotate_left
 ·refine⟨_,rfl,_,rfl,rfl,g.1,g.2,w.1,w.2,rfl,aY,lw,Gq b4 (by decide),Gq b5 (by decide),Gq aG (by decide),Gq aJ (by decide),by omega,?_⟩;dsimp only[bN];refine⟨rfl,(dW g w).1,(dW g w).2,rfl,lo.1,Gq kW (by decide),?_⟩;dsimp only[bN];rw[bD];exact aZ _ rfl
 rintro ρ rfl;have pF:intBits (N:Int)<=4:=d3 (t:=8) (by omega) (by decide);have xR:aO (N:Int) 1:=⟨by decide,by simp⟩;obtain⟨eU,gX⟩:=mT (a:=h) (b:=((N:Int),1)) lh.1 (by show(0:Int)<N;omega) (show(0:Int)<1 by decide);obtain⟨bt,bz⟩:=q' (a:=h) (b:=((N:Int),1)) (p:=60) (q:=4) lh.1 (by show(0:Int)<N;omega) bZ bQ pF (show intBits 1<=4 by decide);have VT:dW h ((N:Int),1)=fo h N:=rfl;rw[VT]at eU bt bz;refine eO (fun ρ=>ρ=[.val (dBx (w,h,sh)),.val (dR g),.val (dR w),.val (dR h),.val (dSh sh),.val (.int N),.val (dR (fo h N)),.no,.no,.no]) ?_ (fun N' aZ=>?_);rotate_left
 ·refine⟨_,rfl,_,rfl,cY,rfl,h.1,h.2,(N:Int),1,rfl,lh,xR,Gq bZ (by decide),Gq bQ (by decide),Gq pF (by decide),by decide,by omega,?_⟩;exact aZ _ rfl
 rintro ρ rfl;refine eO (fun ρ=>ρ=[.val (dBx (w,h,sh)),.val (dR g),.val (dR w),.val (dR h),.val (dSh sh),.val (.int N),.val (dR (fo h N)),.own (.l ((fK w 0 []).map dS)),.no,.no]) ?_ (fun N aZ=>⟨aaE _,aZ _ rfl⟩);rintro ρ rfl;obtain⟨L,eW⟩:∃L,L=fo h N:=⟨_,rfl⟩;rw[<-eW]at eU bt bz ah ⊢;have cl:=oj (c:=true) (w:=L) (sh:=sh) gJ pE;have k7:=xl (c:=true) (w:=L) (b:=1990) (m:=bF) (t:=t) (N:=130) (q:=64) eU.1 bt bz (by omega) (by omega) gJ pE aq;obtain⟨Z1,_⟩:=gu (w:=w) lw.1 (N:Int);obtain⟨w1,cZ⟩:=jc (w:=w) (q:=30) lw.1 aG aJ (k:=(N:Int)) (by omega);refine eO (fun ρ=>∃fp gA:aH,ρ=[.val (dBx (w,h,sh)),.val (dR g),.val (dR w),.val (dR h),.val (dSh sh),.val (.int N),.val (dR L),.own (.l ((fK w 0 (ef true L sh N)).map dS)),fp,gA]) ?_ (fun N' aZ=>?_)
 ·rintro ρ ⟨fp,gA,rfl⟩;refine⟨_,rfl,?_⟩;refine⟨_,rfl,_,rfl,cY,rfl,w.1,w.2,(N:Int),1,rfl,lw,xR,Gq aG (by decide),Gq aJ (by decide),Gq pF (by decide),by decide,?_⟩;exact⟨_,rfl,_,rfl,t3,ah⟩
 refine⟨_,rfl,_,rfl,_,rfl,_,_,rfl,rfl,rfl,sh,L,(N:Int)-1,N,bF,n,t,rfl,by omega,eU,Gq bt (by decide),Gq bz (by decide),gJ,pE,aq.mono (Zg _) (Zg _) (Zg _) (Zg _) (by decide),by omega,by omega,by omega,?_⟩;dsimp only[bN];refine⟨_,rfl,?_⟩;generalize u6:ef true L sh N=Co at cl k7 ah aZ;refine AV (f:=dSh) (rs:=Co) (done:=[]) (fun pre ρ=>∃fp gA:aH,ρ=[.val (dBx (w,h,sh)),.val (dR g),.val (dR w),.val (dR h),.val (dSh sh),.val (.int N),.val (dR L),.own (.l ((fK w 0 pre).map dS)),fp,gA]/\(fK w 0 pre).length<=130*pre.length) ⟨_,_,rfl,by simp[fK,fc]⟩ ?_ (fun ρ h=>?_);rotate_left
 ·obtain⟨fp,gA,rfl,_⟩:=h;exact aZ _ ⟨fp,gA,rfl⟩
 rintro pre S rest ρ he ⟨fp,gA,rfl,Cu⟩ xE mX;rw[aaz]at he
 have c0:pre.length<8:=by
  have:=congrArg aam he;rw[cl]at this;simp at this;omega
 have Jt:=k7 S (by rw[he];simp);have qY:=Jt.2;obtain⟨d8,_⟩:=gu (w:=w) lw.1 (pre.length:Int);obtain⟨bK,eS⟩:=jc (w:=w) (q:=30) lw.1 aG aJ (k:=(pre.length:Int)) (by omega);have bp:intBits (pre.length:Int)<=4000:=Gq (lD (by omega) (by omega)) (by decide);have VU:aO (pre.length:Int) 1:=⟨by decide,by simp⟩;have gp:=kf (a:=cJ w (pre.length:Int)) (b:=(0,1)) (p:=34) (q:=2) d8 eF bK eS (by decide) (by decide);dsimp only;refine⟨_,rfl,_,rfl,_,rfl,_,rfl,cY,rfl,w.1,w.2,(pre.length:Int),1,rfl,lw,VU,Gq aG (by decide),Gq aJ (by decide),bp,by decide,?_⟩;dsimp only[bN];refine⟨rfl,_,_,(cJ w (pre.length:Int)).1,(cJ w (pre.length:Int)).2,0,1,rfl,rfl,rfl,d8,eF,Gq bK (by decide),Gq eS (by decide),by decide,by decide,?_⟩;dsimp only[bN];refine⟨rfl,S,cb (cJ w (pre.length:Int)) (0,1),rfl,by omega,fun s dQ=>(Jt.1 s dQ).gm (by decide) (by omega) (by omega),gp.mono (by decide),?_⟩;dsimp only[bN];have es:(fK w 0 pre).map dS++(S.map (ej (cb (cJ w (pre.length:Int)) (0,1)))).map dS=(fK w 0 (pre++[S])).map dS:=by rw[Ce,Z7,aa2]
 refine⟨_,rfl,by rw[Zf,Zf,Zf];omega,mX _ ⟨.val (.int pre.length),.val (dSh S),by rw[es];rfl,?_⟩⟩;rw[Ce,ZM,Zf,ZM,aaQ];omega
theorem lu:cG ["box","wide","broad","low","sheet","high","below","above","kept","beyond","onto","back"] ["box","wide"] (b0 yl):=by walk_at "sc"
def Ju  : FS:=fun as k=>∃(w h g:bx)(sh:List Piece)(bF n t:Nat),as=[.val (dBx (w,h,sh)),.val (dR g)]/\(aO w.1 w.2)/\(aO h.1 h.2)/\(aO g.1 g.2)/\(0<w.1)/\(0<h.1)/\(0<g.1)/\(intBits w.1<=70)/\(intBits w.2<=70)/\(intBits h.1<=70)/\(intBits h.2<=70)/\(intBits g.1<=30)/\(intBits g.2<=30)/\(c2 1990 bF n t 130 sh)/\(350<=bF/\bF<=1600)/\(n<=60)/\(t<=2000)/\k (.val (dBx (if w=g then(w,h,sh)else(g,e3 w h g,mS w h g sh))))
theorem VV(B:cM mg)(lr:qK K mg "NOTHING" [0,1])(F:cD K mg "in_three" yl ["box","wide"])(rz:aI P w K mg base "over" ["one","other"] 4 (aK K 2 xM))(hp:aI P w K mg base "times" ["one","other"] 3 (aK K 2 l7))(uk:aI P w K mg base "cut_sheet" ["sheet","p","q"] 6 (aK K 3 xJ))(hE:aI P w K mg base "at" ["x","y"] 3 (aK K 2 ow))(pW:aI P w K mg base "cut_upright" ["sheet","place"] 7 (aK K 2 uj))(l8:aI P w K mg base "moved" ["sheet","step"] 4 (aK K 2 rx))(CX:aI P w K mg base "against" ["one"] 2 (aK K 1 CU))(xQ:aI P w K mg base "minus" ["one","other"] 4 (aK K 2 CV)):
  aI P w K mg base "in_three" ["box","wide"] 8 (aK K 2 Ju):=by
 refine df (lv:=7) F lu rfl (fun f cdv A outer s H E ak=>⟨_,(a8 (hS (ae 0) (gk (n:=3) rfl (c1 (b9 (i:=2) lu.nd rfl (Sz rfl)) (c1 (b9 (i:=3) lu.nd rfl (Sz rfl)) (c1 (b9 (i:=4) lu.nd rfl (Sz rfl)) f3))))) (a8 (ei (z4 (ak.units) (ae 2) (ae 1) (dk _)) (bC (cc (ae 0))) ez) (a8 (cF (i:=5) lu.nd rfl (Sz rfl) (aW rz ak (by rfl) (aw (aW hp ak (by rfl) (aw (ae 2) (aw (ae 3) aS))) (aw (ae 1) aS)))) (a8 (hS (aW uk ak (by rfl) (aw (ae 4) (aw (aW hE ak (by rfl) (aw (ae 2) (aw (sM lr (by rfl)) aS))) (aw (aW hE ak (by rfl) (aw (sM lr (by rfl)) (aw (ae 5) aS))) aS)))) (gk (n:=2) rfl (c1 (b9 (i:=6) lu.nd rfl (Sz rfl)) (c1 (b9 (i:=7) lu.nd rfl (Sz rfl)) f3)))) (a8 (hS (aW pW ak (by rfl) (aw (ae 6) (aw (ae 1) aS))) (gk (n:=2) rfl (c1 (b9 (i:=8) lu.nd rfl (Sz rfl)) (c1 (b9 (i:=9) lu.nd rfl (Sz rfl)) f3)))) (a8 (cF (i:=10) lu.nd rfl (Sz rfl) (aW l8 ak (by rfl) (aw (ae 9) (aw (aW hE ak (by rfl) (aw (aW CX ak (by rfl) (aw (ae 1) aS)) (aw (ae 3) aS))) aS)))) (a8 (cF (i:=11) lu.nd rfl (Sz rfl) (aW l8 ak (by rfl) (aw (ae 7) (aw (aW hE ak (by rfl) (aw (aW xQ ak (by rfl) (aw (ae 1) (aw (ae 2) aS))) (aw (aW xQ ak (by rfl) (aw (ae 5) (aw (ae 3) aS))) aS))) aS)))) (bC (cc (c8 (aU (ae 1) (aU (ae 5) (aU (dD (jm (dD (jm (ae 8) (ae 10))) (ae 11))) bU))))))))))))),?_⟩);rintro as k aj ⟨w,h,g,sh,bF,n,t,rfl,lw,lh,aY,w0,h0,ba,aG,aJ,bZ,bQ,b4,b5,aq,hm,aN,bB,ah⟩;refine cR (r:=[.val (dBx (w,h,sh)),.val (dR g),.no,.no,.no,.no,.no,.no,.no,.no,.no,.no]) rfl ?_;have cY:2<=sizeLine:=by decide
 have t3:3<=sizeLine:=by decide
 have big:10000<=sizeLine:=by decide
 have eF:aO 0 1:=⟨by decide,by decide⟩;refine eO (fun ρ=>ρ=[.val (dBx (w,h,sh)),.val (dR g),.val (dR w),.val (dR h),.val (dSh sh),.no,.no,.no,.no,.no,.no,.no]) ?_ (fun N aZ=>⟨_,rfl,_,rfl,rfl,_,_,rfl,_,_,rfl,_,_,rfl,rfl,aZ _ rfl⟩);rintro ρ rfl;by_cases iT:w=g
 ·rw[if_pos iT]at ah;subst iT;refine⟨_,rfl,_,rfl,.T [.I,.I],rfl,rfl,by decide,_,rfl,?_⟩;change (if eqD (dR w) (dR w)=true then _ else _);rw[o1];exact qw rfl ⟨_,rfl,ah⟩
 rw[if_neg iT]at ah
 have ne:eqD (dR w) (dR g)=false:=nC (by
  constructor
  ·intro z;cases z
  ·intro z;exact absurd (Oy z) iT)
 refine nD (fun N aZ=>?_) ?_
 ·refine⟨_,rfl,_,rfl,.T [.I,.I],rfl,rfl,by decide,_,rfl,?_⟩;change (if eqD (dR w) (dR g)=true then _ else _);rw[ne];exact qx rfl aZ
 have lt:=(g9 (t:=w.1*h.1) (b:=w.2*h.2) (Zh (ZK lw.1 lh.1)));have hW:intBits (cA (w.1*h.1) (w.2*h.2)).1<=140/\intBits (cA (w.1*h.1) (w.2*h.2)).2<=140:=⟨d3 lt.2.2.1 (intBits_mul_le aG bZ),d3 lt.2.2.2 (intBits_mul_le aJ bQ)⟩;obtain⟨cj,gv⟩:=mT (a:=cA (w.1*h.1) (w.2*h.2)) (b:=g) lt.1.1 ba aY.1;obtain⟨bL,b1⟩:=q' (a:=cA (w.1*h.1) (w.2*h.2)) (b:=g) (p:=140) (q:=30) lt.1.1 ba hW.1 hW.2 b4 b5;have VW:dW (cA (w.1*h.1) (w.2*h.2)) g=e3 w h g:=rfl;rw[VW]at cj bL b1;obtain⟨H,dm⟩:∃H,H=e3 w h g:=⟨_,rfl⟩;refine eO (fun ρ=>ρ=[.val (dBx (w,h,sh)),.val (dR g),.val (dR w),.val (dR h),.val (dSh sh),.val (dR H),.no,.no,.no,.no,.no,.no]) ?_ (fun N aZ=>?_);rotate_left
 ·refine⟨_,rfl,_,rfl,rfl,w.1,w.2,h.1,h.2,rfl,lw,lh,Gq aG (by decide),Gq aJ (by decide),Gq bZ (by decide),Gq bQ (by decide),?_⟩;dsimp only[bN];refine⟨_,rfl,rfl,(cA (w.1*h.1) (w.2*h.2)).1,(cA (w.1*h.1) (w.2*h.2)).2,g.1,g.2,rfl,lt.1,aY,Gq hW.1 (by decide),Gq hW.2 (by decide),Gq b4 (by decide),Gq b5 (by decide),by omega,?_⟩;exact aZ _ (by rw[dm];rfl)
 rintro ρ rfl;rw[<-dm]at cj bL b1;have vY:mS w h g sh=cL g true (cn (ln (bR w H)) (aX (bR w H)) sh)++(cL g false (cn (ln (bR w H)) (aX (bR w H)) sh)).map (ej (cb (-g.1,g.2) h))++(cn (fun c => -ln (bR w H) c) (aX (bR w H)) sh).map (ej (cb (fe g w) (fe H h))):=by rw[dm];rfl
 rw[vY,<-dm]at ah;have cQ:=kf (a:=w) (b:=(0,1)) (p:=70) (q:=2) lw eF aG aJ (by decide) (by decide);have c5:=kf (a:=(0,1)) (b:=H) (p:=2) (q:=170) eF cj (by decide) (by decide) bL b1;have bl:cm 260 (bR w H):=(cQ.bp.crs c5.bp).mono (by decide);have ag:∀s∈sh,∀c∈s.1,cm 1990 c/\aR c:=fun s dQ p ag=>⟨((aq.1 s dQ).rb.pts p ag).bp,((aq.1 s dQ).rb.pts p ag).pt⟩;have kj:∀s∈sh,s.1.length<=1000:=fun s dQ=>by have:=(aq.1 s dQ).ln;omega
 have ls:=aq.2;have mV:(bR w H).1≠0∨(bR w H).2.1≠0:=t4 lw w0 cj (xm lw w0 lh h0 aY ba dm);have e:(fun c => -ln (bR w H) c)=ln (kZ (bR w H)):=funext fun c=>(lY _ _).symm;have z1:c2 1990 bF (n+1) t 130 (cn (ln (bR w H)) (aX (bR w H)) sh):=⟨oi aq.1 bl (by omega) mV (n5 _ _) (by omega) _ (.inl rfl),Gq (l0 sh) aq.2⟩
 have aQ:c2 1990 bF (n+1) t 130 (cn (fun c => -ln (bR w H) c) (aX (bR w H)) sh):=by
  rw[e];exact⟨oi aq.1 bl (by omega) mV (n5 _ _) (by omega) _ (.inr rfl),Gq (l0 sh) aq.2⟩
 generalize VX:cn (ln (bR w H)) (aX (bR w H)) sh=lo at z1 ah;generalize VY:cn (fun c => -ln (bR w H) c) (aX (bR w H)) sh=up at aQ ah;refine eO (fun ρ=>ρ=[.val (dBx (w,h,sh)),.val (dR g),.val (dR w),.val (dR h),.val (dSh sh),.val (dR H),.val (dSh lo),.val (dSh up),.no,.no,.no,.no]) ?_ (fun N aZ=>?_);rotate_left
 ·refine⟨_,rfl,_,rfl,rfl,_,_,w.1,w.2,0,1,rfl,rfl,rfl,lw,eF,Gq aG (by decide),Gq aJ (by decide),by decide,by decide,?_⟩;dsimp only[bN];refine⟨_,rfl,rfl,_,_,0,1,H.1,H.2,rfl,rfl,rfl,eF,cj,by decide,by decide,Gq bL (by decide),Gq b1 (by decide),?_⟩;dsimp only[bN];refine⟨rfl,sh,cb w (0,1),cb (0,1) H,rfl,cQ.bp.mono (by decide),c5.bp.mono (by decide),ag,kj,by omega,?_⟩;dsimp only[bN];exact⟨_,rfl,rfl,_,_,rfl,_,_,rfl,rfl,aZ _ (by rw[<-VX,<-VY];rfl)⟩
 rintro ρ rfl;have lW:∀s∈lo,∀c∈s.1,cm 1990 c/\aR c:=fun s dQ p ag=>⟨((z1.1 s dQ).rb.pts p ag).bp,((z1.1 s dQ).rb.pts p ag).pt⟩;have u1:∀s∈lo,s.1.length<=1000:=fun s dQ=>by have:=(z1.1 s dQ).ln;omega
 have bt:=z1.2;have bY:=z1.cL (X:=g) (q:=30) true aY b4 b5 (by omega) (by omega);have ck:=z1.cL (X:=g) (q:=30) false aY b4 b5 (by omega) (by omega);refine eO (fun ρ=>ρ=[.val (dBx (w,h,sh)),.val (dR g),.val (dR w),.val (dR h),.val (dSh sh),.val (dR H),.val (dSh lo),.val (dSh up),.val (dSh (cL g true lo)),.val (dSh (cL g false lo)),.no,.no]) ?_ (fun N aZ=>?_);rotate_left
 ·refine⟨_,rfl,_,rfl,rfl,lo,g,rfl,aY,Gq b4 (by decide),Gq b5 (by decide),lW,u1,by omega,?_⟩;dsimp only[bN];exact⟨_,rfl,rfl,_,_,rfl,_,_,rfl,rfl,aZ _ rfl⟩
 rintro ρ rfl;have a4:=kf (a:=(-g.1,g.2)) (b:=h) (p:=30) (q:=70) ⟨aY.1,by rw[ab3];exact aY.2⟩ lh (intBits_neg_le b4) b5 bZ bQ;refine eO (fun ρ=>ρ=[.val (dBx (w,h,sh)),.val (dR g),.val (dR w),.val (dR h),.val (dSh sh),.val (dR H),.val (dSh lo),.val (dSh up),.val (dSh (cL g true lo)),.val (dSh (cL g false lo)),.val (dSh ((cL g false lo).map (ej (cb (-g.1,g.2) h)))),.no]) ?_ (fun N aZ=>?_);rotate_left
 ·refine⟨_,rfl,_,rfl,rfl,g.1,g.2,rfl,?_⟩;dsimp only[bN];refine⟨_,rfl,rfl,_,_,-g.1,g.2,h.1,h.2,rfl,rfl,rfl,⟨aY.1,by rw[ab3];exact aY.2⟩,lh,Gq (intBits_neg_le b4) (by decide),Gq b5 (by decide),Gq bZ (by decide),Gq bQ (by decide),?_⟩;dsimp only[bN];refine⟨rfl,cL g false lo,cb (-g.1,g.2) h,rfl,by have:=ck.2;omega,fun s dQ=>(ck.1 s dQ).gm (by decide) (by omega) (by omega),a4.mono (by decide),?_⟩;exact aZ _ rfl
 rintro ρ rfl;obtain⟨rd,_⟩:=mU (a:=g) (b:=w) aY.1 lw.1;obtain⟨rf,_⟩:=mU (a:=H) (b:=h) cj.1 lh.1;obtain⟨bK,eS⟩:=t2 (a:=g) (b:=w) (p:=30) (q:=70) aY.1 lw.1 b4 b5 aG aJ;obtain⟨k2,i7⟩:=t2 (a:=H) (b:=h) (p:=170) (q:=70) cj.1 lh.1 bL b1 bZ bQ;have bS:=kf (a:=fe g w) (b:=fe H h) (p:=101) (q:=241) rd rf bK eS k2 i7;refine eO (fun ρ=>ρ=[.val (dBx (w,h,sh)),.val (dR g),.val (dR w),.val (dR h),.val (dSh sh),.val (dR H),.val (dSh lo),.val (dSh up),.val (dSh (cL g true lo)),.val (dSh (cL g false lo)),.val (dSh ((cL g false lo).map (ej (cb (-g.1,g.2) h)))),.val (dSh (up.map (ej (cb (fe g w) (fe H h)))))]) ?_ (fun N aZ=>?_);rotate_left
 ·refine⟨_,rfl,_,rfl,_,rfl,rfl,g.1,g.2,w.1,w.2,rfl,aY,lw,Gq b4 (by decide),Gq b5 (by decide),Gq aG (by decide),Gq aJ (by decide),?_⟩;dsimp only[bN];refine⟨_,rfl,_,rfl,rfl,H.1,H.2,h.1,h.2,rfl,cj,lh,Gq bL (by decide),Gq b1 (by decide),Gq bZ (by decide),Gq bQ (by decide),?_⟩;dsimp only[bN];refine⟨rfl,_,_,(fe g w).1,(fe g w).2,(fe H h).1,(fe H h).2,rfl,rfl,rfl,rd,rf,Gq bK (by decide),Gq eS (by decide),Gq k2 (by decide),Gq i7 (by decide),?_⟩;dsimp only[bN];refine⟨rfl,up,cb (fe g w) (fe H h),rfl,by have:=aQ.2;omega,fun s dQ=>(aQ.1 s dQ).gm (by decide) (by omega) (by omega),bS.mono (by decide),?_⟩;exact aZ _ rfl
 rintro ρ rfl;have qW:=bY.2;have vy:=ck.2;have Z2:=aQ.2;refine⟨_,rfl,_,rfl,_,rfl,_,rfl,_,_,rfl,rfl,by rw[Zf,Zf,Zf];omega,_,rfl,_,_,rfl,rfl,by rw[ZM,Zf,Zf,Zf,Zf,Zf];omega,t3,?_⟩;rw[<-Z7,<-Z7];exact ah
theorem C3:cG ["box","wide","boxes"] ["box","wide"] (b0 ym):=by walk_at "sc"
def Jv  : FS:=fun as k=>∃(w h g:bx)(sh:List Piece)(B bF n t:Nat),as=[.val (dBx (w,h,sh)),.val (dR g)]/\(aO w.1 w.2)/\(aO h.1 h.2)/\(aO g.1 g.2)/\(0<w.1)/\(0<h.1)/\(0<g.1)/\(intBits w.1<=30)/\(intBits w.2<=30)/\(intBits h.1<=60)/\(intBits h.2<=60)/\(intBits g.1<=30)/\(intBits g.2<=30)/\(w.1*g.2<=8*(g.1*w.2))/\(g.1*w.2<=8*(w.1*g.2))/\(c2 B bF n t 16 sh)/\(270+bF<=B/\B<=1500)/\(240<=bF)/\(n<=30)/\(t<=1400)/\k (.new (.tup [dR g,dR (dh (eg w h g sh) (0,1)),dSh (el (eg w h g sh) (0,1))]))
theorem VZ(B:cM mg)(F:cD K mg "widened" ym ["box","wide"])(V0:aI P w K mg base "under" ["one","other"] 2 (aK K 2 Jj))(V1:aI P w K mg base "in_layers" ["box","wide"] 12 (aK K 2 Js))(V2:aI P w K mg base "in_columns" ["box","wide"] 12 (aK K 2 Jr))(V3:aI P w K mg base "piled" ["boxes"] 5 (aK K 1 Jq))(V4:aI P w K mg base "in_three" ["box","wide"] 8 (aK K 2 Ju)):
  aI P w K mg base "widened" ["box","wide"] 13 (aK K 2 Jv):=by
 refine df (lv:=12) F C3 rfl (fun f cdv A outer s H E ak=>⟨_,(a8 (ei (gR (aW V0 ak (by rfl) (aw (aV (ae 0) aA (fun _ _=>rfl)) (aw (ae 1) aS)))) (bC (cF (i:=2) C3.nd rfl (Sz rfl) (dD (fv (aU (aW V1 ak (by rfl) (aw (ae 0) (aw (ae 1) aS))) bU))))) (bC (cF (i:=2) C3.nd rfl (Sz rfl) (aW V2 ak (by rfl) (aw (ae 0) (aw (ae 1) aS)))))) (bC (E7 (qJ V3 ak (by rfl) (aw (dD (jm (dD (se (ae 2) zR (oZ (iw aA)))) (dD (fv (aU (aW V4 ak (by rfl) (aw (aV (ae 2) (iw aA) (fun _ _=>rfl)) (aw (ae 1) aS))) bU))))) aS))))),?_⟩);rintro as k aj ⟨w,h,g,sh,B,bF,n,t,rfl,lw,lh,aY,w0,h0,ba,aG,aJ,bZ,bQ,b4,b5,ar,aF,aq,eD,hm,aN,bB,ah⟩;refine cR (r:=[.val (dBx (w,h,sh)),.val (dR g),.no]) rfl ?_;have big:10000<=sizeLine:=by decide
 obtain⟨bY,ck,fS,iy⟩:=Cg lw w0 lh h0 aY ba aG aJ bZ bQ b4 b5 aq eD.1 hm ar aF;have all1:=S0 (w:=w) (h:=h) (g:=g) (sh:=sh)
 have ag:∀bs:List BoxD,bs=eg w h g sh->bs≠[]->∃dv r,bs=dv::r/\(∀b∈dv::r,aO b.2.1.1 b.2.1.2/\intBits b.2.1.1<=350/\intBits b.2.1.2<=350/\∀s∈b.2.2,GM s)/\(∀pre b rest,dv::r=pre++b::rest->intBits (dh pre (0,1)).1<=350/\intBits (dh pre (0,1)).2<=350)/\((dv::r).map fun b=>b.2.2.length).sum<=400/\dv.1=g:=by
  intro bs e ne;cases bs with
  | nil=>exact absurd rfl ne
  | cons dv r =>
   rw[<-e]at bY ck fS all1;exact⟨dv,r,rfl,fun b af=>⟨(bY b af).1,Gq (bY b af).2.1 (by decide),Gq (bY b af).2.2.1 (by decide),fun s dQ=>((bY b af).2.2.2.1 s dQ).gm (by omega) (by omega) (by omega)⟩,fun pre b rest aT=>⟨Gq (ck pre b rest aT).2.1 (by decide),Gq (ck pre b rest aT).2.2 (by decide)⟩,by omega,all1 dv ZJ⟩
 have iT:eqD (dR w) (dR w)=true:=o1 _;refine eO (fun ρ=>∃(bs:List BoxD)(b:BoxD)(uq n' t':Nat),ρ=[.val (dBx (w,h,sh)),.val (dR g),.val (.lst ((bs++[b]).map dBx))]/\bs++[lastB g b]=eg w h g sh/\bs.length<=8/\aO b.1.1 b.1.2/\aO b.2.1.1 b.2.1.2/\0<b.1.1/\0<b.2.1.1/\intBits b.1.1<=70/\intBits b.1.2<=70/\intBits b.2.1.1<=70/\intBits b.2.1.2<=70/\c2 1990 uq n' t' 130 b.2.2/\(350<=uq/\uq<=1600)/\n'<=60/\t'<=2000) ?_ (fun N aZ=>?_)
 ·rintro ρ ⟨bs,b,uq,n',t',rfl,ew,bl,a4,bS,fC,p8,tU,y4,lz,su,qD,V5,V6,V7⟩;have ne:bs++[lastB g b]≠[]:=by simp
  obtain⟨dv,r,ea,f1,f2,bO,f4⟩:=ag _ ew ne;have V8:dE ((bs++[b]).map dBx) (-1)=some (dBx b):=by rw[Z7];exact L2.atI_last _ _
  have k6:fx ((bs++[b]).map dBx) none (some (-1))=bs.map dBx:=by rw[Z7];exact S4 _ _
  refine⟨_,rfl,_,rfl,_,rfl,_,rfl,?_⟩;dsimp only;rw[k6];refine⟨_,rfl,_,rfl,_,_,_,.inr rfl,rfl,V8,_,rfl,rfl,b.1,b.2.1,g,b.2.2,uq,n',t',rfl,a4,bS,aY,fC,p8,ba,tU,y4,lz,su,b4,b5,qD,V5,V6,V7,?_⟩;dsimp only[bN];refine⟨show 1<=sizeLine by decide,_,_,rfl,rfl,by rw[Zf,aaQ];omega,?_⟩
  have o3:bs.map dBx++[dBx (if b.1=g then(b.1,b.2.1,b.2.2)else(g,e3 b.1 b.2.1 g,mS b.1 b.2.1 g b.2.2))]=(bs++[lastB g b]).map dBx:=by
   rw[Z7];rfl
  rw[o3,ea];refine⟨rfl,dv,r,rfl,f1,f2,bO,?_⟩;refine⟨_,rfl,?_⟩;rw[f4,<-ea,ew];exact ah
 by_cases c:w.1*g.2<g.1*w.2
 ·obtain⟨bD,cu,eT,_,_⟩:=xo lw w0 aY ba c aF;obtain⟨eU,hD,bt,bz,gX,iM,mE,bw,b8,kg⟩:=t8 lw w0 lh h0 aG aJ bZ bQ cu eT;have qY:=H5 lw w0 lh h0 aY ba aG aJ bZ bQ b4 b5 aq eD.1 hm cu eT;refine⟨_,rfl,_,_,_,.inl rfl,rfl,rfl,_,rfl,rfl,w.1,w.2,g.1,g.2,rfl,Gq aG (by decide),Gq aJ (by decide),Gq b4 (by decide),Gq b5 (by decide),?_⟩;dsimp only[bN];refine⟨_,rfl,?_⟩;rw[if_pos (decide_eq_true c)];refine⟨_,rfl,_,rfl,rfl,w,h,g,sh,di w g,bF,n,t,rfl,lw,lh,aY,w0,h0,ba,aG,aJ,bZ,bQ,b4,b5,bD,cu,eT,aq.mono (by omega) (Zg _) (Zg _) (Zg _) (by decide),by omega,by omega,by omega,?_⟩;dsimp only[bN];refine⟨show 1<=sizeLine by decide,?_⟩;exact aZ _ ⟨[],layB w h g sh,bF+110,n+3,t+108,rfl,(xp c).symm,by simp,iM,eU,mE,hD,Gq bw (by decide),Gq b8 (by decide),Gq bt (by decide),Gq bz (by decide),qY.mono (by omega) (Zg _) (Zg _) (Zg _) (by omega),by omega,by omega,by omega⟩
 ·obtain⟨bD,cu,eT,_,_⟩:=t5 lw w0 aY ba (by omega) ar;obtain⟨eU,hD,bt,bz,gX⟩:=xq lw w0 aY ba aG aJ b4 b5 (by omega) ar;have k7:=xl (c:=false) (w:=g) (b:=B) (m:=bF) (t:=t) (N:=16) (q:=30) aY.1 b4 b5 (by omega) (by omega) cu eT aq;have cl:=oj (c:=false) (w:=g) (sh:=sh) cu eT
  obtain⟨Ss,Z,ho⟩:∃Ss Z,ef false g sh (dy w g)=Ss++[Z]:=by
   rcases ab5 (ef false g sh (dy w g))with z|⟨Ss,Z,z⟩
   ·rw[z]at cl;simp at cl;omega
   ·exact⟨Ss,Z,by rw[z,ab6]⟩
  have ll:Ss.length<=8:=by
   have:=congrArg aam ho;rw[cl,ZM]at this;simp at this;omega
  refine⟨_,rfl,_,_,_,.inl rfl,rfl,rfl,_,rfl,rfl,w.1,w.2,g.1,g.2,rfl,Gq aG (by decide),Gq aJ (by decide),Gq b4 (by decide),Gq b5 (by decide),?_⟩;dsimp only[bN];refine⟨_,rfl,?_⟩;rw[if_neg (by simp only[decide_eq_true_eq];exact c)];refine⟨_,rfl,_,rfl,rfl,w,h,g,sh,dy w g,bF,n,t,rfl,lw,lh,aY,w0,h0,ba,aG,aJ,bZ,bQ,b4,b5,bD,cu,eT,aq.mono (by omega) (Zg _) (Zg _) (Zg _) (by decide),by omega,by omega,by omega,?_⟩;intro Z3 Z4 V9;dsimp only[bN];have kI:=ho.symm.trans V9;obtain⟨dq,hb⟩:=List.append_inj' kI rfl;cases dq;cases hb;exact aZ _ ⟨Ss.map (fun S=>((g,h,S):BoxD)),(h1 w g (dy w g),h,Z),bF+110,n+3,t+108,rfl,(t6 c ho).symm,by rw[Zf];exact ll,eU,lh,hD,h0,Gq bt (by decide),Gq bz (by decide),Gq bZ (by decide),Gq bQ (by decide),(k7 Z (by rw[ho];simp)).mono (by omega) (by omega) (by omega) (by omega) (by omega),by omega,by omega,by omega⟩
theorem l9:cG ["_law_script","_law_cell_here","_law_bag_here","_law_wide","_law_high","_law_box_here","_law_lent","_law_goal","_law_found","_law_piece"] ["_law_script"] (b0 yR):=by walk_at "sc"
theorem V'{P:Program}{w:World}{K:PySem.W.Frag}{mg:Str->Option Value}{base:Heap}{f:Addr}{fd:FuncData}(B:cM mg)(F:lC K "law" "law" yR f fd)(Wa:aI P w K mg base "_law_cell" ["_law_script","_law_k"] 1 (aK K 2 z6))(Wb:aI P w K mg base "_law_bag" ["_law_cell_here"] 1 (aK K 1 z7))(Jw:aI P w K mg base "_law_size" ["_law_bag_here"] 4 (aK K 1 I3))(Wc:aI P w K mg base "_law_sheet" ["_law_bag_here","_law_ring","_law_cuts"] 6 (aK K 3 IT))(CN:aI P w K mg base "_law_box" ["_law_wide","_law_high"] 5 (aK K 2 CL))(We:aI P w K mg base "_law_copied" ["_law_sheet_here"] 2 (aK K 1 IY))(Wf:aI P w K mg base "_law_width" ["_law_bag_here","_law_wide"] 5 (aK K 2 I5))(Jx:aI P w K mg base "widened" ["box","wide"] 13 (aK K 2 Jv))(Jy:aI P w K mg base "_law_right" ["_law_found","_law_box_here","_law_wide"] 8 (aK K 3 I7)):
  iS P w K mg base jh 14 f fd ["_law_script"] (vv K):=by
 refine iS.imp (sp:=aK K 1 EH) ?_ (fun vs H Q E h=>Nv h);refine Nu (lv:=13) F l9 rfl (fun cdv A outer s H E ak=>⟨_,(a8 (nz PassesOwn.never rfl (iZ (dD (jm (dD (fv (aU (aW Wa ak (by rfl) (aw (ae 0) (aw aA aS))) bU))) (dD (se (ae 0) (oZ aA) (oZ aA)))))) (b9 (i:=1) l9.nd rfl (Sz rfl)) (a8 (Ng (i:=2) l9.nd rfl (Sz rfl) (Nd Wb ak (by rfl) (aw (ae 1) aS))) (a8 (cF (i:=3) l9.nd rfl (Sz rfl) (aW Jw ak (by rfl) (fZ 2 aS))) (a8 (cF (i:=4) l9.nd rfl (Sz rfl) (aW Jw ak (by rfl) (fZ 2 aS))) (a8 (cF (i:=5) l9.nd rfl (Sz rfl) (c8 (aU (ae 3) (aU (ae 4) (aU (aW Wc ak (by rfl) (fZ 2 (aw (aW CN ak (by rfl) (aw (ae 3) (aw (ae 4) aS))) (aw aA aS)))) bU))))) (a8 (cF (i:=6) l9.nd rfl (Sz rfl) (c8 (aU (ae 3) (aU (ae 4) (aU (aW We ak (by rfl) (aw (aV (ae 5) aA (fun _ _=>rfl)) aS)) bU))))) (a8 (cF (i:=7) l9.nd rfl (Sz rfl) (aW Wf ak (by rfl) (fZ 2 (aw (ae 3) aS)))) (OU (i:=8) (I:=[8,9]) (by decide) l9.nd rfl (Sz rfl) (qJ Jx ak (by rfl) (aw (ae 6) (aw (ae 7) aS))) (OS (kB (w_or (z5 (ak.units) (ae 6) (ae 5) (dk _)) (lJ (g5 (gR (aW Jy ak (by rfl) (aw (ae 8) (aw (ae 5) (aw (ae 7) aS))))))))) (bC (cc hR)) (Tz (j:=9) (by decide) l9.nd rfl rfl (Sz rfl) (Sz rfl) (Sz rfl) PassesOwn.never rfl (bC (ei (kB (w_or (z5 (ak.units) (ae 6) (ae 5) (dk _)) (lJ (g5 (gR (aW Jy ak (by rfl) (aw (aW Jx ak (by rfl) (aw (ae 6) (aw (ae 7) aS))) (aw (ae 5) (aw (ae 7) aS))))))))) (bC (cc hR)) ez)))))))))))) (bC (cc hR))),?_⟩);rintro as k aj ⟨ns,rfl,Wg,ah⟩;refine cR (r:=[.val (.scr ns),.no,.no,.no,.no,.no,.no,.no,.no,.no]) rfl ?_;walk_at "w";refine⟨ns,0,rfl,by decide,fun z=>?_⟩;walk_at "w";refine⟨NC Wg,_,rfl,?_⟩;refine EL (fun ρ=>∃v1 v2 ae v4 gy v6 f9 fp gA,ρ=[.val (.scr ns),v1,v2,ae,v4,gy,v6,f9,fp,gA]) ⟨_,_,_,_,_,_,_,_,_,rfl⟩ NB ?_ ?_;rotate_left
 ·rintro ρ ⟨v1,v2,ae,v4,gy,v6,f9,fp,gA,rfl⟩;exact ah
 rintro c ρ ⟨v1,v2,ae,v4,gy,v6,f9,fp,gA,rfl⟩ N aZ;have m:∀{z:Int}{a b:Nat},intBits z<=a->a<=b->intBits z<=b:=fun h g=>Gq h g;refine⟨_,rfl,rfl,c,rfl,rfl,?_⟩;refine⟨rfl,rfl,rfl,fun w lw w0 aG aJ=>?_⟩;dsimp only[bN];refine⟨rfl,rfl,rfl,fun h lh h0 bZ bQ=>?_⟩;dsimp only[bN];have Wh:=T9 lw lh aG aJ bZ bQ;refine⟨_,rfl,_,rfl,rfl,_,rfl,_,rfl,rfl,w,h,rfl,lw,lh,m aG (by decide),m aJ (by decide),m bZ (by decide),m bQ (by decide),?_⟩;dsimp only[bN];refine⟨rfl,ie w h,rfl,(hy.cvx ⟨lw,lh,w0,h0⟩),Wh,(by show 4<=4;decide),fun sh aq aj bal=>?_⟩;dsimp only[bN];refine⟨show 3<=sizeLine by decide,?_⟩;have lR:iN 44 3=373:=rfl;rw[lR]at aq;refine⟨_,rfl,_,rfl,_,rfl,_,_,_,.inl rfl,rfl,rfl,rfl,sh,rfl,by omega,?_⟩;dsimp only[bN];refine⟨show 3<=sizeLine by decide,?_⟩;refine⟨rfl,_,rfl,rfl,w,rfl,lw,w0,aG,aJ,fun g aY ba b4 b5 ar aF=>?_⟩;dsimp only[bN];have cu:=m (b:=30) aG (by decide);have dn:=m (b:=30) aJ (by decide);have kq:=m (b:=60) bZ (by decide);have ur:=m (b:=60) bQ (by decide);have uu:=m (b:=30) b4 (by decide);have uv:=m (b:=30) b5 (by decide);obtain⟨z1,gv,pc,c0,pb,kp⟩:=T8 lw w0 lh h0 aY ba cu dn kq ur uu uv ar aF aq aj (by decide) (by decide) (by decide) bal;have aQ:c2 1017 747 7 20 16 sh:=z1.mono (by decide) (by decide) (by decide) (by decide) (by decide);refine⟨by show 8<10;decide,?_⟩;refine⟨_,rfl,_,rfl,rfl,w,h,g,sh,1017,747,7,20,rfl,lw,lh,aY,w0,h0,ba,cu,dn,kq,ur,uu,uv,ar,aF,aQ,by decide,by decide,by decide,by decide,?_⟩;refine⟨_,rfl,?_⟩;have af:=T' (w,h,sh);have ps:∀s∈sh,hj s:=fun s h=>(aq s h).pct (by decide) (by decide);have Jz:fi ((el (eg w h g sh) (0,1)).map fun s=>s.1) [ie g (dh (eg w h g sh) (0,1))]:=by rw[gv];exact pb
 refine⟨_,rfl,_,rfl,_,af,af,by decide,_,rfl,z8 (fun h=>absurd rfl h) (fun _=>?_)⟩;refine⟨_,rfl,_,rfl,_,rfl,rfl,w,h,g,dh (eg w h g sh) (0,1),sh,el (eg w h g sh) (0,1),rfl,lw,lh,aY,w0,h0,ba,cu,dn,kq,ur,uu,uv,gv,by omega,ps,by omega,pc,Jz,kp,?_⟩;dsimp only[bN];refine⟨_,rfl,rfl,?_⟩;refine⟨⟨by show 9<10;decide,_,_,_,rfl,PG⟩,?_⟩;refine⟨_,rfl,_,rfl,_,af,af,by decide,_,rfl,z8 (fun h=>absurd rfl h) (fun _=>?_)⟩;refine⟨_,rfl,_,rfl,rfl,w,h,g,sh,1017,747,7,20,rfl,lw,lh,aY,w0,h0,ba,cu,dn,kq,ur,uu,uv,ar,aF,aQ,by decide,by decide,by decide,by decide,?_⟩;dsimp only[bN];refine⟨_,rfl,_,rfl,rfl,w,h,g,dh (eg w h g sh) (0,1),sh,el (eg w h g sh) (0,1),rfl,lw,lh,aY,w0,h0,ba,cu,dn,kq,ur,uu,uv,gv,by omega,ps,by omega,pc,Jz,kp,?_⟩;dsimp only[bN];exact⟨_,rfl,gg (aZ _ ⟨_,_,_,_,_,_,_,_,_,rfl⟩)⟩
theorem all_mk{l:PySem.W.OpenLaw}{w:World}{K:PySem.W.Frag}{h:Heap}{mg:Str->Option Value}{gE:Addr}(Y:Tab tabs K)(X:K.In h)(G:h.Ns mainGlobals mg)(Wi:mg "law"=some (.ref gE))
  : ∃fd:FuncData,(∀(s:Shared)(v:Value),BindsTo s fd ⟨[v],[]⟩ [("_law_script",v)])/\∀base:Heap,K.In base->base.Ns mainGlobals mg->iS l.prog w K mg base jh 14 gE fd ["_law_script"] (vv K):=by
 obtain⟨⟨Wj,Wk,Wl,Wm,Wn,Wo,Wq,Wr,Ws,x_point,x_at,Wt,Wu,Wv,Ww,Wx,Wy,Wz,WA,WB,WC,WD,WE,WG,WH,WI,WJ,WK,WL,WM,WN,WO,WQ,WR,WS,WT,WU,WV,WW,WX,WY,WZ,W0,W2,W3,W4,W5,W6,W7,W8,W9,W',Xa,Xb,Xc,Xd,Xe,Xf,_⟩,⟨Xg,Xh,Xi,Xj,Xk,Xl,Xm,Xn,Xo,Xp,Xq,Xr,Xu,Xv,Xw,Xx,Xy,Xz,XA,_⟩,⟨XB,_⟩,⟨_⟩⟩:=Y;have XC:=Wj.fnd (ps:=["one","other"]) X G (by walk_at "b2")
 have JA:=Wk.fnd (ps:=["one","other"]) X G (by walk_at "b2")
 have XD:=Wl.fnd (ps:=["one","other"]) X G (by walk_at "b2")
 have XE:=Wm.fnd (ps:=["one","other"]) X G (by walk_at "b2")
 have XF:=Wn.fnd (ps:=["one","other"]) X G (by walk_at "b2")
 have XG:=Wo.fnd (ps:=["one","other"]) X G (by walk_at "b2")
 have XH:=Wq.fnd (ps:=["one"]) X G (by walk_at "b1")
 have XI:=Wr.fnd (ps:=["one"]) X G (by walk_at "b1")
 have XJ:=Ws.fnd (ps:=["one"]) X G (by walk_at "b1")
 have XK:=x_point.fnd (ps:=["a","b","n"]) X G (by walk_at "b3")
 have XM:=x_at.fnd (ps:=["x","y"]) X G (by walk_at "b2")
 have XN:=Wt.fnd (ps:=["p","step"]) X G (by walk_at "b2")
 have XO:=Wu.fnd (ps:=["one","other"]) X G (by walk_at "b2")
 have XQ:=Wv.fnd (ps:=["line","p"]) X G (by walk_at "b2")
 have XR:=Ww.fnd (ps:=["p","q","r","s"]) X G (by walk_at "b4")
 have XS:=Wx.fnd (ps:=["ring","p","q"]) X G (by walk_at "b3")
 have XT:=Wy.fnd (ps:=["sheet","p","q"]) X G (by walk_at "b3")
 have JB:=Wz.fnd (ps:=["sheet","place"]) X G (by walk_at "b2")
 have JC:=WA.fnd (ps:=["sheet","height"]) X G (by walk_at "b2")
 have XU:=WB.fnd (ps:=["sheet","step"]) X G (by walk_at "b2")
 have xS:=WC.fnd (ps:=["sheet","cut","size","first","last"]) X G (by walk_at "b5")
 have XW:=WD.fnd (ps:=["sheet","wide","many"]) X G (by walk_at "b3")
 have XX:=WE.fnd (ps:=["sheet","high","many"]) X G (by walk_at "b3")
 have XY:=WG.fnd (ps:=["boxes"]) X G (by walk_at "b1")
 have XZ:=WH.fnd (ps:=["box","wide"]) X G (by walk_at "b2")
 have X0:=WI.fnd (ps:=["box","wide"]) X G (by walk_at "b2")
 have X1:=WJ.fnd (ps:=["box","wide"]) X G (by walk_at "b2")
 have X2:=WK.fnd (ps:=["box","wide"]) X G (by walk_at "b2")
 have X3:=WL.fnd (ps:=["_law_script","_law_k"]) X G (by walk_at "b2")
 have X4:=WM.fnd (ps:=["_law_cell_here"]) X G (by walk_at "b1")
 have X5:=WN.fnd (ps:=["_law_bag_here","_law_many"]) X G (by walk_at "b2")
 have X6:=WO.fnd (ps:=["_law_one","_law_other"]) X G (by walk_at "b2")
 have X7:=WQ.fnd (ps:=["_law_top","_law_bottom"]) X G (by walk_at "b2")
 have X8:=WR.fnd (ps:=["_law_x","_law_y","_law_bottom"]) X G (by walk_at "b3")
 have X9:=WS.fnd (ps:=["_law_found"]) X G (by walk_at "b1")
 have X':=WT.fnd (ps:=["_law_p","_law_q"]) X G (by walk_at "b2")
 have Yb:=WU.fnd (ps:=["_law_tally","_law_rings","_law_number"]) X G (by walk_at "b3")
 have Yc:=WV.fnd (ps:=["_law_rings","_law_others"]) X G (by walk_at "b2")
 have Yd:=WW.fnd (ps:=["_law_p","_law_q","_law_r"]) X G (by walk_at "b3")
 have Ye:=WX.fnd (ps:=["_law_p"]) X G (by walk_at "b1")
 have Yg:=WY.fnd (ps:=["_law_ring"]) X G (by walk_at "b1")
 have Yh:=WZ.fnd (ps:=["_law_p","_law_q","_law_part_here","_law_many"]) X G (by walk_at "b4")
 have Yi:=W0.fnd (ps:=["_law_bag_here","_law_ring"]) X G (by walk_at "b2")
 have Yj:=W2.fnd (ps:=["_law_bag_here","_law_ring","_law_cuts"]) X G (by walk_at "b3")
 have Yk:=W3.fnd (ps:=["_law_piece"]) X G (by walk_at "b1")
 have Yl:=W4.fnd (ps:=["_law_olds","_law_news"]) X G (by walk_at "b2")
 have Ym:=W5.fnd (ps:=["_law_sheet_here","_law_ring"]) X G (by walk_at "b2")
 have Yn:=W6.fnd (ps:=["_law_sheet_here"]) X G (by walk_at "b1")
 have Yo:=W7.fnd (ps:=["_law_one","_law_other"]) X G (by walk_at "b2")
 have Yp:=W8.fnd (ps:=["_law_one","_law_other"]) X G (by walk_at "b2")
 have Yq:=W9.fnd (ps:=["_law_x","_law_y"]) X G (by walk_at "b2")
 have Yr:=W'.fnd (ps:=["_law_wide","_law_high"]) X G (by walk_at "b2")
 have Ys:=Xa.fnd (ps:=["_law_found"]) X G (by walk_at "b1")
 have Yt:=Xb.fnd (ps:=["_law_found"]) X G (by walk_at "b1")
 have Yu:=Xc.fnd (ps:=["_law_bag_here"]) X G (by walk_at "b1")
 have Yv:=Xd.fnd (ps:=["_law_bag_here","_law_wide"]) X G (by walk_at "b2")
 have Yw:=Xe.fnd (ps:=["_law_found","_law_box_here","_law_wide"]) X G (by walk_at "b3")
 obtain⟨f0,Yx,m0,JD⟩:=Xf;have e:=Wi.symm.trans (PySem.W.mg_of X G m0);cases e;have B:cM mg:=⟨PySem.W.mg_none_of X G Xg,PySem.W.mg_none_of X G Xh,PySem.W.mg_none_of X G Xi,PySem.W.mg_none_of X G Xj,PySem.W.mg_none_of X G Xk,PySem.W.mg_none_of X G Xl,PySem.W.mg_none_of X G Xm,PySem.W.mg_none_of X G Xn,PySem.W.mg_none_of X G Xo,PySem.W.mg_none_of X G Xp,PySem.W.mg_none_of X G Xq,PySem.W.mg_none_of X G Xr,PySem.W.mg_none_of X G Xu,PySem.W.mg_none_of X G Xv,PySem.W.mg_none_of X G Xw,PySem.W.mg_none_of X G Xx,PySem.W.mg_none_of X G Xy,PySem.W.mg_none_of X G Xz,PySem.W.mg_none_of X G XA⟩;have lr:=XB.gtup X G;obtain⟨a_cut_level,_,jd,_,_⟩:=id JC.ex;obtain⟨a_cut_upright,_,je,_,_⟩:=id JB.ex;refine⟨Yx,fun s v=>?_,fun base _ _=>?_⟩
 ·obtain⟨_,_,_,_,_,_,_,_,_,rfl,_⟩:=JD.ex;exact .of_eq rfl
 have Yy:=Ub (P:=l.prog) (w:=w) (base:=base) B  X3;have Yz:=Ud (P:=l.prog) (w:=w) (base:=base) B  X4;have xT:=Ue (P:=l.prog) (w:=w) (base:=base) B  X5;have uw:=Ug (P:=l.prog) (w:=w) (base:=base) B  X6;have C4:=Uh (P:=l.prog) (w:=w) (base:=base) B  X7 uw;have xU:=Ui (P:=l.prog) (w:=w) (base:=base) B  X8 uw;have JE:=Uk (P:=l.prog) (w:=w) (base:=base) B  X9;have YA:=Ul (P:=l.prog) (w:=w) (base:=base) B  X' uw;have YB:=Um (P:=l.prog) (w:=w) (base:=base) B  Yb YA;have JF:=Uq (P:=l.prog) (w:=w) (base:=base) B  Yc YB;have YC:=Ur (P:=l.prog) (w:=w) (base:=base) B  Yd;have JG:=Ut (P:=l.prog) (w:=w) (base:=base) B  Ye JE uw;have YD:=Uu (P:=l.prog) (w:=w) (base:=base) B  Yg JG YC;have YE:=Uv (P:=l.prog) (w:=w) (base:=base) B  Yh xU;have YF:=Uw (P:=l.prog) (w:=w) (base:=base) B  Yi xT YE;have YG:=Ux (P:=l.prog) (w:=w) (base:=base) B  Yj xT YF xU;have YH:=Uz (P:=l.prog) (w:=w) (base:=base) B  Yk xU;have YI:=UB (P:=l.prog) (w:=w) (base:=base) B  Yl YH JF;have YJ:=UC (P:=l.prog) (w:=w) (base:=base) B  Ym YD JG JF;have YK:=UG (P:=l.prog) (w:=w) (base:=base) B  Yn;have JH:=UI (P:=l.prog) (w:=w) (base:=base) B  Yo C4;have Z5:=UL (P:=l.prog) (w:=w) (base:=base) B  Yp C4;have YL:=UN (P:=l.prog) (w:=w) (base:=base) B  Yq xU;have JI:=UP (P:=l.prog) (w:=w) (base:=base) B  Yr YL;have YM:=UR (P:=l.prog) (w:=w) (base:=base) B  Yt JE uw;have YN:=UT (P:=l.prog) (w:=w) (base:=base) B  Ys YM YJ JI;have YO:=UX (P:=l.prog) (w:=w) (base:=base) B  Yu xT C4;have YQ:=UY (P:=l.prog) (w:=w) (base:=base) B  Yv xT JH;have YR:=U1 (P:=l.prog) (w:=w) (base:=base) B  Yw YN JH YI;have rA:=U4 (P:=l.prog) (w:=w) (base:=base) B  XC;have JJ:=U5 (P:=l.prog) (w:=w) (base:=base) B  XO;have YS:=U6 (P:=l.prog) (w:=w) (base:=base) B  XQ;have YT:=U7 (P:=l.prog) (w:=w) (base:=base) B  XK rA;have YU:=U8 (P:=l.prog) (w:=w) (base:=base) B  XR JJ YT;have YV:=Va (P:=l.prog) (w:=w) (base:=base) B  XS JJ YS YU;have C5:=Vf (P:=l.prog) (w:=w) (base:=base) B  XT YV;have pZ:=Vh (P:=l.prog) (w:=w) (base:=base) B  XM rA;have xV:=Vj (P:=l.prog) (w:=w) (base:=base) B  JB C5 pZ;have C6:=Vk (P:=l.prog) (w:=w) (base:=base) B  JC C5 pZ;have YW:=Vl (P:=l.prog) (w:=w) (base:=base) B  XN rA;have ux:=Vn (P:=l.prog) (w:=w) (base:=base) B  XU YW;have YX:=Vq (P:=l.prog) (w:=w) (base:=base) B  XG;have YY:=Vs (P:=l.prog) (w:=w) (base:=base) B  XI;have YZ:=Vu (P:=l.prog) (w:=w) (base:=base) B  XJ;have JK:=Vw (P:=l.prog) (w:=w) (base:=base) B  XH;have Y0:=Vx (P:=l.prog) (w:=w) (base:=base) B  JA rA;have JL:=Vz (P:=l.prog) (w:=w) (base:=base) B  XD Y0 JK;have m2:=VA (P:=l.prog) (w:=w) (base:=base) B  XE rA;have C7:=VC (P:=l.prog) (w:=w) (base:=base) B  XF m2;have Y1:=VD (a_cut_upright:=a_cut_upright) (a_cut_level:=a_cut_level) (P:=l.prog) (w:=w) (base:=base) B  xS;have Y2:=VE (P:=l.prog) (w:=w) (base:=base) B jd je xS xV C6 m2 Y1;have Y3:=VF (P:=l.prog) (w:=w) (base:=base) B jd je xS xV C6 m2 Y2;have JM:=VG (P:=l.prog) (w:=w) (base:=base) B jd je xS xV C6 m2 Y3;have Y4:=VI (P:=l.prog) (w:=w) (base:=base) B jd je XW JM ux pZ m2;have Y5:=VK (P:=l.prog) (w:=w) (base:=base) B jd je XX JM ux pZ m2;have Y6:=VL (P:=l.prog) (w:=w) (base:=base) B  JA rA;have Y7:=VM (P:=l.prog) (w:=w) (base:=base) B lr XY ux pZ Y6;have Y8:=VN (P:=l.prog) (w:=w) (base:=base) B  XZ YZ C7 Y4 JL m2;have Y9:=VQ (P:=l.prog) (w:=w) (base:=base) B lr X0 YY C7 Y5 ux pZ m2;have Y':=VV (P:=l.prog) (w:=w) (base:=base) B lr X1 C7 m2 C5 pZ xV ux JK JL;have Za:=VZ (P:=l.prog) (w:=w) (base:=base) B  X2 YX Y9 Y8 Y7 Y';exact V' B JD Yy Yz YO YG JI YK YQ Za YR
end Cut
open PySem PySem.W PyProof.Rows
set_option maxRecDepth 100000 in
set_option maxHeartbeats 0 in
theorem PySem.Challenge.cw_slidecut_k44_boxes_widened_holds : PySem.Challenge.rw_slidecut_k44_boxes_widened.Holds := by
 refine holds_law Cut.said fun said => holds_open (XP := XL aaO []) (YP := L3.saysH Cut.tabs) Cut.left (L3.ofH Cut.tabs) (L3.keepsH Cut.tabs) (fun s e => xl_of s (adX.mp e).1) XL.keeps (by rfl) (by rfl) (by rfl) (fun s e => recFacts_of (adX.mp e).2) (by rfl) said (by decide +kernel) ⟨rfl, rfl, rfl, rfl, rfl, by decide +kernel⟩ ?hw ?hc
 case hw => w_witness2
 case hc => exact L3.walkH (k := 14) rfl rfl ⟨rfl, by decide, by decide⟩ fun w K mg gE h Y X G rV => Cut.all_mk Y X G rV
#print axioms PySem.Challenge.cw_slidecut_k44_boxes_widened_holds